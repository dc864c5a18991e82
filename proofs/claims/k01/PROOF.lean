import PyProof.Rows.All
import Wide.All
import OpenK.AllK
import Wide.FinOn
import HandS.ForMost
import HandS.ForExc
import HandS.Evl
import HandS.Deep
import HandS.Style
import HandS.IsInst
import HandS.Zip
import HandS.Wide
import HandS.SetFor
import HandS.EndBits
import PySem.Challenge.RW_leapways_k01_whole_told
set_option Elab.async false
set_option linter.all false
set_option maxRecDepth 100000
set_option maxHeartbeats 4000000
namespace Lw
open PySem PySem.Spec PyProof.Rows L2 Evl

/-! ### data: what a value holds; an empty dict too -/
mutual
inductive Dq (K : PySem.W.Frag) (H : Hp) : V → PyData → Prop
  | non : Dq K H .non .none
  | bl (c : Bool) : Dq K H (.bl c) (.bool c)
  | int (n : Int) : Dq K H (.int n) (.int n)
  | str (z : Str) : Dq K H (.str z) (.str z)
  | lst {p : Addr} {vs : List V} {ds : List PyData} : SqL K H p vs → DqAll K H vs ds → Dq K H (.ref p) (.list ds)
  | tup {p : Addr} {vs : List V} {ds : List PyData} : SqT K H p vs → DqAll K H vs ds → Dq K H (.ref p) (.tuple ds)
  | dct {p : Addr} : H p = some (.dK []) → Dq K H (.ref p) (.dict [])
inductive DqAll (K : PySem.W.Frag) (H : Hp) : List V → List PyData → Prop
  | nil : DqAll K H [] []
  | cons {v : V} {vs : List V} {d : PyData} {ds : List PyData} : Dq K H v d → DqAll K H vs ds → DqAll K H (v :: vs) (d :: ds)
end
section
variable {K : PySem.W.Frag} {H : Hp}
mutual
theorem to_dp : ∀ (d : PyData) (v : V), d.canLay0 = true → Dq K H v d → L2.Dp K H v d
  | .none, _, _, h => by cases h; exact .non
  | .bool c, _, _, h => by cases h; exact .bl c
  | .int n, _, _, h => by cases h; exact .int n
  | .str z, _, _, h => by cases h; exact .str z
  | .list ds, _, q, h => by
    cases h with
    | lst hs ha => exact .lst hs (to_dpa ds _ q ha)
  | .tuple ds, _, q, h => by
    cases h with
    | tup hs ha => exact .tup hs (to_dpa ds _ q ha)
  | .dict _, _, q, _ => by cases q
theorem to_dpa : ∀ (ds : List PyData) (vs : List V), PyData.canLayAll0 ds = true → DqAll K H vs ds → L2.DpAll K H vs ds
  | [], _, _, h => by cases h; exact .nil
  | d :: ds, _, q, h => by
    have q' : (d.canLay0 && PyData.canLayAll0 ds) = true := q
    rw [Bool.and_eq_true] at q'
    cases h with
    | cons h1 h2 => exact .cons (to_dp d _ q'.1 h1) (to_dpa ds _ q'.2 h2)
end
end
/-! ### data under a growing heap -/
section
variable {K : PySem.W.Frag} {H H' : Hp}
mutual
theorem dp_ex (e : Ex H H') : ∀ (d : PyData) (v : V), Dq K H v d → Dq K H' v d
  | .none, _, h => by cases h; exact .non
  | .bool b, _, h => by cases h; exact .bl b
  | .int i, _, h => by cases h; exact .int i
  | .str x, _, h => by cases h; exact .str x
  | .list ds, _, h => by
    cases h with
    | lst hs ha => exact .lst (ex_l e hs) (dpa_ex e ds _ ha)
  | .tuple ds, _, h => by
    cases h with
    | tup hs ha => exact .tup (ex_t e hs) (dpa_ex e ds _ ha)
  | .dict _, _, h => by
    cases h with
    | dct h => exact .dct (e _ _ h)
theorem dpa_ex (e : Ex H H') : ∀ (ds : List PyData) (vs : List V), DqAll K H vs ds → DqAll K H' vs ds
  | [], _, h => by cases h; exact .nil
  | d :: ds, _, h => by
    cases h with
    | cons h1 h2 => exact .cons (dp_ex e d _ h1) (dpa_ex e ds _ h2)
end
theorem dp_mono {v : V} {d : PyData} (e : Ex H H') (h : Dq K H v d) : Dq K H' v d := dp_ex e d v h
theorem dpa_mono {vs : List V} {ds : List PyData} (e : Ex H H') (h : DqAll K H vs ds) : DqAll K H' vs ds := dpa_ex e ds vs h
theorem dpa_len : ∀ {vs : List V} {ds : List PyData}, DqAll K H vs ds → vs.length = ds.length
  | _, _, .nil => rfl
  | _, _, .cons _ t => congrArg Nat.succ (dpa_len t)
theorem dpa_get : ∀ {vs : List V} {ds : List PyData} {i : Nat} {d : PyData}, DqAll K H vs ds → ds[i]? = some d → ∃ v, vs[i]? = some v ∧ Dq K H v d
  | _, _, _, _, .nil, h => by simp at h
  | _, _, 0, _, .cons a _, h => by
    have e := Option.some.inj h
    subst e
    exact ⟨_, rfl, a⟩
  | _, _, i + 1, d, .cons _ t, h => dpa_get (i := i) (d := d) t h
theorem dpa_get' : ∀ {vs : List V} {ds : List PyData} {i : Nat} {v : V}, DqAll K H vs ds → vs[i]? = some v → ∃ d, ds[i]? = some d ∧ Dq K H v d
  | _, _, _, _, .nil, h => by simp at h
  | _, _, 0, _, .cons a _, h => by
    have e := Option.some.inj h
    subst e
    exact ⟨_, rfl, a⟩
  | _, _, i + 1, d, .cons _ t, h => dpa_get' (i := i) (v := d) t h
theorem dpa_app : ∀ {vs ws : List V} {ds es : List PyData}, DqAll K H vs ds → DqAll K H ws es → DqAll K H (vs ++ ws) (ds ++ es)
  | _, _, _, _, .nil, h => h
  | _, _, _, _, .cons a t, h => .cons a (dpa_app t h)
theorem dpa_take : ∀ {vs : List V} {ds : List PyData} (n : Nat), DqAll K H vs ds → DqAll K H (vs.take n) (ds.take n)
  | _, _, 0, _ => .nil
  | _, _, _ + 1, .nil => .nil
  | _, _, n + 1, .cons a t => .cons a (dpa_take n t)
theorem dpa_drop : ∀ {vs : List V} {ds : List PyData} (n : Nat), DqAll K H vs ds → DqAll K H (vs.drop n) (ds.drop n)
  | _, _, 0, h => h
  | _, _, _ + 1, .nil => .nil
  | _, _, n + 1, .cons _ t => dpa_drop n t
theorem dpa_rev : ∀ {vs : List V} {ds : List PyData}, DqAll K H vs ds → DqAll K H vs.reverse ds.reverse
  | _, _, .nil => .nil
  | _, _, .cons a t => by
    rw [List.reverse_cons, List.reverse_cons]
    exact dpa_app (dpa_rev t) (.cons a .nil)
theorem dp_int {v : V} {i : Int} (h : Dq K H v (.int i)) : v = .int i := by cases h; rfl
theorem dp_bl {v : V} {b : Bool} (h : Dq K H v (.bool b)) : v = .bl b := by cases h; rfl
theorem dp_tup {v : V} {ds : List PyData} (h : Dq K H v (.tuple ds)) : ∃ a xs, v = .ref a ∧ SqT K H a xs ∧ DqAll K H xs ds := by
  cases h with
  | tup a b => exact ⟨_, _, rfl, a, b⟩
theorem dp_lst {v : V} {ds : List PyData} (h : Dq K H v (.list ds)) : ∃ a xs, v = .ref a ∧ SqL K H a xs ∧ DqAll K H xs ds := by
  cases h with
  | lst a b => exact ⟨_, _, rfl, a, b⟩
theorem dpa_ints : ∀ {vs : List V} (ns : List Int), DqAll K H vs (ns.map .int) → vs = ns.map V.int
  | _, [], h => by cases h; rfl
  | _, n :: ns, h => by
    cases h with
    | cons a t => rw [dp_int a, dpa_ints ns t] <;> rfl
theorem dpa_of_ints : ∀ (ns : List Int), DqAll K H (ns.map V.int) (ns.map .int)
  | [] => .nil
  | n :: ns => .cons (.int n) (dpa_of_ints ns)
theorem dpa_bls : ∀ {vs : List V} (ns : List Bool), DqAll K H vs (ns.map .bool) → vs = ns.map V.bl
  | _, [], h => by cases h; rfl
  | _, n :: ns, h => by
    cases h with
    | cons a t => rw [dp_bl a, dpa_bls ns t] <;> rfl
end

/-! ### the widest readings -/
def cE (X : Cx) (e : Expr) : TE := fun σ H Q => ∀ pins s, Inv X pins σ H s → wpAny (model X.prog X.w) X.A (eval e X.env) (EP X pins σ Q) X.xe s
def cT (X : Cx) (e : Expr) : TT := fun σ H Q => ∀ pins s, Inv X pins σ H s → wpAny (model X.prog X.w) X.A (isTrue e X.env (eval e X.env)) (TP X pins σ Q) X.xe s
def cW (X : Cx) (e : Expr) : TT := fun σ H Q => ∀ whole pins s, Inv X pins σ H s → wpAny (model X.prog X.w) X.A (isTrue e X.env whole) (TP X pins σ Q) X.xe s
def cA (X : Cx) (es : List Expr) : TA := fun σ H Q => ∀ pos pins s, Inv X pins σ H s → wpAny (model X.prog X.w) X.A (spliced (backTo pos (starEach es X.env))) (AP X pins σ Q) X.xe s
def cS (X : Cx) (st : Stmt) : TS := fun D σ H => ∀ pins s, Inv X pins σ H s → wpAny (model X.prog X.w) X.A (exec st X.env) (SP X pins D) X.xe s
def cSs (X : Cx) (sts : List Stmt) : TS := fun D σ H => ∀ pins s, Inv X pins σ H s → wpAny (model X.prog X.w) X.A (execs sts X.env) (SP X pins D) X.xe s
section
variable {X : Cx} {e : Expr} {es : List Expr} {st : Stmt} {sts : List Stmt} {σ : L2.St} {H : Hp}
theorem cE_pe : PE X e (cE X e) := ⟨fun pins s _ _ _ I h => h pins s I⟩
theorem cT_pt : PT X e (cT X e) := ⟨fun pins s _ _ _ I h => h pins s I⟩
theorem cW_pw : PW X e (cW X e) := ⟨fun w pins s _ _ _ I h => h w pins s I⟩
theorem cA_pa : PA X es (cA X es) := ⟨fun pos pins s _ _ _ I h => h pos pins s I⟩
theorem cS_ps : PS X st (cS X st) := ⟨fun pins s _ _ _ I h => h pins s I⟩
theorem cSs_ps : PSs X sts (cSs X sts) := ⟨fun pins s _ _ _ I h => h pins s I⟩
theorem cE_of {t : TE} {Q : VK} (h : PE X e t) (q : t σ H Q) : cE X e σ H Q := fun pins s I => h.run pins s σ H Q I q
theorem cT_of {t : TT} {Q : Bool → Hp → Prop} (h : PT X e t) (q : t σ H Q) : cT X e σ H Q := fun pins s I => h.run pins s σ H Q I q
theorem cW_of {t : TT} {Q : Bool → Hp → Prop} (h : PW X e t) (q : t σ H Q) : cW X e σ H Q := fun w pins s I => h.run w pins s σ H Q I q
theorem cA_of {t : TA} {Q : List V → Hp → Prop} (h : PA X es t) (q : t σ H Q) : cA X es σ H Q := fun pos pins s I => h.run pos pins s σ H Q I q
theorem cS_of {t : TS} {D : Ends} (h : PS X st t) (q : t D σ H) : cS X st D σ H := fun pins s I => h.run pins s σ H D I q
theorem cSs_of {t : TS} {D : Ends} (h : PSs X sts t) (q : t D σ H) : cSs X sts D σ H := fun pins s I => h.run pins s σ H D I q
end

/-! ### what an expression gives: R of the value, in every later heap -/
structure Gv (X : Cx) (e : Expr) (σ : L2.St) (H : Hp) (R : V → Hp → Prop) : Prop where
  go : ∀ H1, Ex H H1 → ∀ Q : VK, (∀ v H2, Ex H1 H2 → R v H2 → Q v H2) → cE X e σ H1 Q
abbrev Gd (X : Cx) (e : Expr) (σ : L2.St) (H : Hp) (d : PyData) : Prop := Gv X e σ H fun v H' => Dq X.K H' v d
structure Gt (X : Cx) (e : Expr) (σ : L2.St) (H : Hp) (b : Bool) : Prop where
  go : ∀ H1, Ex H H1 → ∀ Q : Bool → Hp → Prop, (∀ H2, Ex H1 H2 → Q b H2) → cT X e σ H1 Q
structure Gw (X : Cx) (e : Expr) (σ : L2.St) (H : Hp) (b : Bool) : Prop where
  go : ∀ H1, Ex H H1 → ∀ Q : Bool → Hp → Prop, (∀ H2, Ex H1 H2 → Q b H2) → cW X e σ H1 Q
structure Gl (X : Cx) (es : List Expr) (σ : L2.St) (H : Hp) (R : List V → Hp → Prop) : Prop where
  go : ∀ H1, Ex H H1 → ∀ Q : List V → Hp → Prop, (∀ vs H2, Ex H1 H2 → R vs H2 → Q vs H2) → cA X es σ H1 Q
abbrev Gs (X : Cx) (es : List Expr) (σ : L2.St) (H : Hp) (ds : List PyData) : Prop := Gl X es σ H fun vs H' => DqAll X.K H' vs ds
section
variable {X : Cx} {e a b : Expr} {es rest : List Expr} {σ : L2.St} {H H' : Hp} {d : PyData} {ds : List PyData} {pos : Pos} {R : V → Hp → Prop}
theorem Gv.ex (x : Ex H H') (h : Gv X e σ H R) : Gv X e σ H' R := .mk fun H1 y Q q => (h).go H1 (x.trans y) Q q
theorem Gv.imp {R' : V → Hp → Prop} (h : Gv X e σ H R) (k : ∀ v H2, Ex H H2 → R v H2 → R' v H2) : Gv X e σ H R' := .mk fun H1 y Q q => h.go H1 y Q fun v H2 z r => q v H2 z (k v H2 (y.trans z) r)
theorem Gt.ex {b : Bool} (x : Ex H H') (h : Gt X e σ H b) : Gt X e σ H' b := .mk fun H1 y Q q => (h).go H1 (x.trans y) Q q
theorem gd_is {d' : PyData} (h : Gd X e σ H d) (q : d = d') : Gd X e σ H d' := by rw [← q]; exact h
theorem gt_is {b b' : Bool} (h : Gt X e σ H b) (q : b = b') : Gt X e σ H b' := by rw [← q]; exact h
theorem gv_of {t : TE} (h : PE X e t) (q : ∀ H1, Ex H H1 → ∀ Q : VK, (∀ v H2, Ex H1 H2 → R v H2 → Q v H2) → t σ H1 Q) : Gv X e σ H R := .mk fun H1 x Q k => cE_of h (q H1 x Q k)
theorem gd_ev {t : TE} {v : V} (h : PE X e t) (q : Ev t σ H v) (r : Dq X.K H v d) : Gd X e σ H d := gv_of h fun H1 x Q k => q H1 x Q fun H2 y => k v H2 y (dp_mono (x.trans y) r)
theorem gv_v {t : TE} {v : V} (h : PE X e t) (q : Ev t σ H v) : Gv X e σ H fun v' _ => v' = v := gv_of h fun H1 x Q k => q H1 x Q fun H2 y => k v H2 y rfl

/-! constants, names -/
theorem x_int {i : Int} {j : Nat} : Gd X (.Constant (.int i) j pos) σ H (.int i) := gd_ev pe_int ev_c (.int i)
theorem x_bl {c : Bool} {j : Nat} : Gd X (.Constant (.bool c) j pos) σ H (.bool c) := gd_ev pe_bl ev_c (.bl c)
theorem x_non {j : Nat} : Gd X (.Constant .none j pos) σ H .none := gd_ev pe_non ev_c .non
theorem x_str {x : Str} {j : Nat} : Gd X (.Constant (.str x) j pos) σ H (.str x) := gd_ev pe_str ev_c (.str x)
theorem x_var (i : Nat) {x : Str} {v : V} (hN : X.N[i]? = some x) (hs : σ[i]? = some (some v)) (hd : Dq X.K H v d)
    (hv : Vis X.env.scope x := by first | exact Or.inl rfl | exact Or.inr (Or.inl rfl) | exact Or.inr (Or.inr rfl)) (h1 : (x == ("__debug__" : Str)) = false := by decide) (h2 : (x == ("__classdict__" : Str)) = false := by decide) : Gd X (.Name x pos) σ H d :=
  gd_ev (pe_var hN hv h1 h2) (ev_var hs) hd
theorem x_varV (i : Nat) {x : Str} {v : V} (hN : X.N[i]? = some x) (hs : σ[i]? = some (some v))
    (hv : Vis X.env.scope x := by first | exact Or.inl rfl | exact Or.inr (Or.inl rfl) | exact Or.inr (Or.inr rfl)) (h1 : (x == ("__debug__" : Str)) = false := by decide) (h2 : (x == ("__classdict__" : Str)) = false := by decide) : Gv X (.Name x pos) σ H fun v' _ => v' = v :=
  gv_v (pe_var hN hv h1 h2) (ev_var hs)
theorem x_glob {x : Str} {v : V} {u : Value} (hm : X.mg x = some u) (r : RelV v u) (hd : Dq X.K H v d) (hg : L2.Gl X x := by rfl) (h1 : (x == ("__debug__" : Str)) = false := by decide) : Gd X (.Name x pos) σ H d :=
  gd_ev (pe_glob hg hm r h1) ev_c hd

/-! operators by data -/
def RD (K : PySem.W.Frag) (H : Hp) (r : R2) (d e f : PyData) : Prop := ∀ H1, Ex H H1 → ∀ x y, Dq K H1 x d → Dq K H1 y e → ∀ Q : VK, (∀ v H2, Ex H1 H2 → Dq K H2 v f → Q v H2) → r x y H1 Q
theorem x_two {t u : TE} {r : R2} {d f g : PyData} {w : Expr} (hw : PE X w (tOp r (cE X a) (cE X b))) (ha : Gd X a σ H d) (hb : Gd X b σ H f) (hr : RD X.K H r d f g) : Gd X w σ H g := gv_of hw fun H1 x Q q =>
  (ha).go H1 x _ fun v H2 y rv => (hb).go H2 (x.trans y) _ fun u H3 z ru => hr H3 ((x.trans y).trans z) v u (dp_mono z rv) ru Q fun w H4 s rw => q w H4 ((y.trans z).trans s) rw
theorem x_bin {op : Operator} {r : R2} {d f g : PyData} (ho : OpR X (binaryOp op) r) (hr : RD X.K H r d f g) (ha : Gd X a σ H d) (hb : Gd X b σ H f) : Gd X (.BinOp a op b pos) σ H g := x_two (t := cE X a) (u := cE X a) (pe_op ho cE_pe cE_pe) ha hb hr
theorem x_cmp {op : CmpOp} {r : R2} {d f g : PyData} (ho : OpR X (compareOp op) r) (hr : RD X.K H r d f g) (ha : Gd X a σ H d) (hb : Gd X b σ H f) (hm : behindInMarks op b = false) : Gd X (.Compare a [op] [b] pos) σ H g := x_two (t := cE X a) (u := cE X a) (pe_cmpR ho cE_pe cE_pe hm) ha hb hr
theorem x_ixR {r : R2} {d f g : PyData} (ho : IxR X r) (hr : RD X.K H r d f g) (ha : Gd X a σ H d) (hb : Gd X b σ H f) (hs : PlainIx b) : Gd X (.Subscript a b pos) σ H g := x_two (t := cE X a) (u := cE X a) (pe_ix ho cE_pe cE_pe hs) ha hb hr
theorem rd_I0 {K : PySem.W.Frag} {g : Int → Int → V} {i j : Int} {f : PyData} (hf : ∀ H', Dq K H' (g i j) f) : RD K H (rI0 g) (.int i) (.int j) f := fun H1 _ x y rx ry Q q => by
  rw [dp_int rx, dp_int ry]
  exact ⟨i, j, rfl, rfl, q _ H1 (Ex.refl H1) (hf H1)⟩
theorem rd_I {K : PySem.W.Frag} {C : Int → Int → Prop} {g : Int → Int → V} {i j : Int} {f : PyData} (hc : C i j) (hf : ∀ H', Dq K H' (g i j) f) : RD K H (rI C g) (.int i) (.int j) f := fun H1 _ x y rx ry Q q => by
  rw [dp_int rx, dp_int ry]
  exact ⟨i, j, rfl, rfl, hc, q _ H1 (Ex.refl H1) (hf H1)⟩
variable {i j : Int}
theorem x_add (ha : Gd X a σ H (.int i)) (hb : Gd X b σ H (.int j)) : Gd X (.BinOp a .Add b pos) σ H (.int (i + j)) := x_bin op_add (rd_I0 fun _ => .int _) ha hb
theorem x_sub (ha : Gd X a σ H (.int i)) (hb : Gd X b σ H (.int j)) : Gd X (.BinOp a .Sub b pos) σ H (.int (i - j)) := x_bin op_sub (rd_I0 fun _ => .int _) ha hb
/-- the product's two sizes -/
def MOk (i j : Int) : Prop := i.natAbs.log2 + j.natAbs.log2 < 130000000
theorem MOk.fits {i j : Int} (h : MOk i j) : IntMulOk i j := by
  have one : ∀ z : Int, Builtin.Int.intBits z ≤ z.natAbs.log2 + 1 := fun z => by
    unfold Builtin.Int.intBits
    split <;> omega
  have hi := one i
  have hj := one j
  have hh : i.natAbs.log2 + j.natAbs.log2 < 130000000 := h
  have line : bitsLine = 134217728 := by decide
  unfold IntMulOk
  intro bad
  rw [Bool.and_eq_true] at bad
  have b2 := bad.2
  unfold Builtin.Int.intTooBig at b2
  have b3 := of_decide_eq_true b2
  rw [line] at b3
  omega
theorem op_mulM : OpR X (binaryOp .Mult) (rI MOk fun i j => .int (i * j)) := opI fun _ _ _ _ _ _ _ hc q => mul_int q hc.fits
theorem x_mul (ha : Gd X a σ H (.int i)) (hb : Gd X b σ H (.int j)) (hc : MOk i j) : Gd X (.BinOp a .Mult b pos) σ H (.int (i * j)) := x_bin op_mulM (rd_I hc fun _ => .int _) ha hb
/-- a divisor above 0, below 2 ^ 9000 -/
theorem x_div (ha : Gd X a σ H (.int i)) (hb : Gd X b σ H (.int j)) (hc : CDivW i j) : Gd X (.BinOp a .FloorDiv b pos) σ H (.int (i / j)) := x_bin op_fdivW (rd_I hc fun _ => .int _) ha hb
theorem x_mod (ha : Gd X a σ H (.int i)) (hb : Gd X b σ H (.int j)) (hc : 0 < j) : Gd X (.BinOp a .Mod b pos) σ H (.int (i % j)) := x_bin op_mod (rd_I hc fun _ => .int _) ha hb
theorem x_pow (ha : Gd X a σ H (.int i)) (hb : Gd X b σ H (.int j)) (hc : CPow i j) : Gd X (.BinOp a .Pow b pos) σ H (.int (i ^ j.toNat)) := x_bin op_pow (rd_I hc fun _ => .int _) ha hb
theorem x_neg (ha : Gd X a σ H (.int i)) : Gd X (.UnaryOp .USub a pos) σ H (.int (-i)) := gv_of (pe_un un_neg cE_pe) fun H1 x Q q => (ha).go H1 x _ fun v H2 y r => by
  rw [dp_int r]
  exact ⟨i, rfl, q _ H2 y (.int _)⟩
theorem x_lt (ha : Gd X a σ H (.int i)) (hb : Gd X b σ H (.int j)) : Gd X (.Compare a [.Lt] [b] pos) σ H (.bool (decide (i < j))) := x_cmp op_lt (rd_I0 fun _ => .bl _) ha hb (nomark _)
theorem x_le (ha : Gd X a σ H (.int i)) (hb : Gd X b σ H (.int j)) : Gd X (.Compare a [.LtE] [b] pos) σ H (.bool (decide (i ≤ j))) := x_cmp op_le (rd_I0 fun _ => .bl _) ha hb (nomark _)
theorem x_gt (ha : Gd X a σ H (.int i)) (hb : Gd X b σ H (.int j)) : Gd X (.Compare a [.Gt] [b] pos) σ H (.bool (decide (j < i))) := x_cmp op_gt (rd_I0 fun _ => .bl _) ha hb (nomark _)
theorem x_ge (ha : Gd X a σ H (.int i)) (hb : Gd X b σ H (.int j)) : Gd X (.Compare a [.GtE] [b] pos) σ H (.bool (decide (j ≤ i))) := x_cmp op_ge (rd_I0 fun _ => .bl _) ha hb (nomark _)
theorem rd_eqI {K : PySem.W.Frag} : RD K H rEq (.int i) (.int j) (.bool (decide (i = j))) := fun H1 _ x y rx ry Q q => by
  rw [dp_int rx, dp_int ry]
  refine ⟨rfl, q _ H1 (Ex.refl H1) ?_⟩
  rw [dec_int, Bool.beq_eq_decide_eq]
  exact .bl _
theorem rd_neI {K : PySem.W.Frag} : RD K H rNe (.int i) (.int j) (.bool (!decide (i = j))) := fun H1 _ x y rx ry Q q => by
  rw [dp_int rx, dp_int ry]
  refine ⟨rfl, q _ H1 (Ex.refl H1) ?_⟩
  rw [dec_int, Bool.beq_eq_decide_eq]
  exact .bl _
theorem rd_eqB {K : PySem.W.Frag} {c c' : Bool} : RD K H rEq (.bool c) (.bool c') (.bool (decide (c = c'))) := fun H1 _ x y rx ry Q q => by
  rw [dp_bl rx, dp_bl ry]
  refine ⟨rfl, q _ H1 (Ex.refl H1) ?_⟩
  rw [dec_bl, Bool.beq_eq_decide_eq]
  exact .bl _
theorem rd_neB {K : PySem.W.Frag} {c c' : Bool} : RD K H rNe (.bool c) (.bool c') (.bool (!decide (c = c'))) := fun H1 _ x y rx ry Q q => by
  rw [dp_bl rx, dp_bl ry]
  refine ⟨rfl, q _ H1 (Ex.refl H1) ?_⟩
  rw [dec_bl, Bool.beq_eq_decide_eq]
  exact .bl _
theorem x_eqI (ha : Gd X a σ H (.int i)) (hb : Gd X b σ H (.int j)) : Gd X (.Compare a [.Eq] [b] pos) σ H (.bool (decide (i = j))) := x_cmp op_eq rd_eqI ha hb (nomark _)
theorem x_neI (ha : Gd X a σ H (.int i)) (hb : Gd X b σ H (.int j)) : Gd X (.Compare a [.NotEq] [b] pos) σ H (.bool (!decide (i = j))) := x_cmp op_ne rd_neI ha hb (nomark _)
theorem x_eqB {c c' : Bool} (ha : Gd X a σ H (.bool c)) (hb : Gd X b σ H (.bool c')) : Gd X (.Compare a [.Eq] [b] pos) σ H (.bool (decide (c = c'))) := x_cmp op_eq rd_eqB ha hb (nomark _)
theorem x_neB {c c' : Bool} (ha : Gd X a σ H (.bool c)) (hb : Gd X b σ H (.bool c')) : Gd X (.Compare a [.NotEq] [b] pos) σ H (.bool (!decide (c = c'))) := x_cmp op_ne rd_neB ha hb (nomark _)
theorem x_isB {c c' : Bool} (ha : Gd X a σ H (.bool c)) (hb : Gd X b σ H (.bool c')) : Gd X (.Compare a [.Is] [b] pos) σ H (.bool (decide (c = c'))) := x_cmp op_isBl (fun H1 _ x y rx ry Q q => by
  rw [dp_bl rx, dp_bl ry]
  exact ⟨c, c', rfl, rfl, q _ H1 (Ex.refl H1) (.bl _)⟩) ha hb (nomark _)
theorem x_notB {c c' : Bool} (ha : Gd X a σ H (.bool c)) (hb : Gd X b σ H (.bool c')) : Gd X (.Compare a [.IsNot] [b] pos) σ H (.bool (!decide (c = c'))) := x_cmp op_notBl (fun H1 _ x y rx ry Q q => by
  rw [dp_bl rx, dp_bl ry]
  exact ⟨c, c', rfl, rfl, q _ H1 (Ex.refl H1) (.bl _)⟩) ha hb (nomark _)
theorem x_eqD (hu : X.A.units + 64 < cLine) {d f : PyData} (ha : Gd X a σ H d) (hb : Gd X b σ H f) (hd : SeqAt.shaped d = true) (hf : SeqAt.shaped f = true) : Gd X (.Compare a [.Eq] [b] pos) σ H (.bool (PyData.eqv d f)) := x_cmp (op_eqD hu) (fun H1 _ x y rx ry Q q =>
  ⟨d, f, to_dp d _ (SeqAt.canLay_of_shaped hd) rx, to_dp f _ (SeqAt.canLay_of_shaped hf) ry, hd, hf, q _ H1 (Ex.refl H1) (.bl _)⟩) ha hb (nomark _)
theorem x_neD (hu : X.A.units + 64 < cLine) {d f : PyData} (ha : Gd X a σ H d) (hb : Gd X b σ H f) (hd : SeqAt.shaped d = true) (hf : SeqAt.shaped f = true) : Gd X (.Compare a [.NotEq] [b] pos) σ H (.bool (!PyData.eqv d f)) := x_cmp (op_neD hu) (fun H1 _ x y rx ry Q q =>
  ⟨d, f, to_dp d _ (SeqAt.canLay_of_shaped hd) rx, to_dp f _ (SeqAt.canLay_of_shaped hf) ry, hd, hf, q _ H1 (Ex.refl H1) (.bl _)⟩) ha hb (nomark _)

/-! subscripts -/
theorem atI_dp {K : PySem.W.Frag} {xs : List V} {ds : List PyData} {i : Int} {f : PyData} (h : DqAll K H xs ds) (hf : atI ds i = some f) : ∃ v, atI xs i = some v ∧ Dq K H v f := by
  unfold atI at hf ⊢
  rw [dpa_len h]
  cases e : ixN ds.length i with
  | none => rw [e] at hf; cases hf
  | some j =>
    rw [e] at hf
    exact dpa_get h hf
theorem x_ixT {ds : List PyData} {i : Int} {f : PyData} (ha : Gd X a σ H (.tuple ds)) (hb : Gd X b σ H (.int i)) (hf : atI ds i = some f) (hs : PlainIx b := by exact fun _ _ => rfl) : Gd X (.Subscript a b pos) σ H f := x_ixR ix_tup (fun H1 _ x y rx ry Q q => by
  obtain ⟨p, xs, rfl, h1, h2⟩ := dp_tup rx
  rw [dp_int ry]
  obtain ⟨v, hv, rv⟩ := atI_dp h2 hf
  exact ⟨p, xs, i, v, rfl, rfl, h1, hv, q _ H1 (Ex.refl H1) rv⟩) ha hb hs
theorem x_ixL {ds : List PyData} {i : Int} {f : PyData} (ha : Gd X a σ H (.list ds)) (hb : Gd X b σ H (.int i)) (hf : atI ds i = some f) (hs : PlainIx b := by exact fun _ _ => rfl) : Gd X (.Subscript a b pos) σ H f := x_ixR ix_list (fun H1 _ x y rx ry Q q => by
  obtain ⟨p, xs, rfl, h1, h2⟩ := dp_lst rx
  rw [dp_int ry]
  obtain ⟨v, hv, rv⟩ := atI_dp h2 hf
  exact ⟨p, xs, i, v, rfl, rfl, h1, hv, q _ H1 (Ex.refl H1) rv⟩) ha hb hs

/-! lists of expressions, displays -/
theorem s_nil : Gs X [] σ H [] := .mk fun H1 _ Q q => cA_of pa_nil (q [] H1 (Ex.refl H1) .nil)
theorem s_cons (ha : Gd X a σ H d) (hr : Gs X rest σ H ds) (hs : starEach (a :: rest) X.env = (false, eval a X.env) :: starEach rest X.env := by rfl) : Gs X (a :: rest) σ H (d :: ds) := .mk fun H1 x Q q =>
  cA_of (pa_cons cE_pe cA_pa hs) ((ha).go H1 x _ fun v H2 y r => (hr).go H2 (x.trans y) _ fun vs H3 z rs => q (v :: vs) H3 (y.trans z) (.cons (dp_mono z r) rs))
theorem l_nil {R : List V → Hp → Prop} (h : ∀ H', R [] H') : Gl X [] σ H R := .mk fun H1 _ Q q => cA_of pa_nil (q [] H1 (Ex.refl H1) (h H1))
/-- R1 stays true as the heap grows -/
theorem l_cons {R1 : V → Hp → Prop} {R2 R : List V → Hp → Prop} (ha : Gv X a σ H R1) (m : ∀ v H1 H2, Ex H1 H2 → R1 v H1 → R1 v H2) (hr : Gl X rest σ H R2) (k : ∀ v vs H', R1 v H' → R2 vs H' → R (v :: vs) H')
    (hs : starEach (a :: rest) X.env = (false, eval a X.env) :: starEach rest X.env := by rfl) : Gl X (a :: rest) σ H R := .mk fun H1 x Q q =>
  cA_of (pa_cons cE_pe cA_pa hs) ((ha).go H1 x _ fun v H2 y r => (hr).go H2 (x.trans y) _ fun vs H3 z rs => q (v :: vs) H3 (y.trans z) (k v vs H3 (m _ _ _ z r) rs))
theorem x_tup {k : Nat} (h : Gs X es σ H ds) (hl : ds.length ≤ 100000) : Gd X (.Tuple es k pos) σ H (.tuple ds) := gv_of (pe_tup cA_pa) fun H1 x Q q => (h).go H1 x _ fun vs H2 y r =>
  ⟨sz_of (by rw [dpa_len r]; exact hl), fun p hp => q _ _ (y.trans (Ex.new hp)) (.tup (SqT.of upd_same) (dpa_mono (Ex.new hp) r))⟩
theorem x_lst (h : Gs X es σ H ds) (hl : ds.length ≤ 100000) : Gd X (.List es pos) σ H (.list ds) := gv_of (pe_lst cA_pa) fun H1 x Q q => (h).go H1 x _ fun vs H2 y r =>
  ⟨sz_of (by rw [dpa_len r]; exact hl), fun p hp => q _ _ (y.trans (Ex.new hp)) (.lst (SqL.of upd_same) (dpa_mono (Ex.new hp) r))⟩

/-! tests and truth -/
theorem t_val {c : Bool} (h : Gd X e σ H (.bool c)) (he : ∀ whole, isTrue e X.env whole = (do let v ← whole; standAt e.pos; holding [v] (truthy v)) := by intro _; rfl) : Gt X e σ H c := .mk fun H1 x Q q =>
  cT_of (pt_val cE_pe he) ((h).go H1 x _ fun v H2 y r => ⟨c, dp_bl r, q H2 y⟩)
theorem t_cmpR {op : CmpOp} {r : R2} {d f : PyData} {c : Bool} (ho : OpR X (compareOp op) r) (hr : RD X.K H r d f (.bool c)) (ha : Gd X a σ H d) (hb : Gd X b σ H f) (hm : behindInMarks op b = false) : Gt X (.Compare a [op] [b] pos) σ H c := .mk fun H1 x Q q =>
  cT_of (pt_cmpR ho cE_pe cE_pe hm) ((ha).go H1 x _ fun v H2 y rv => (hb).go H2 (x.trans y) _ fun u H3 z ru => hr H3 ((x.trans y).trans z) v u (dp_mono z rv) ru _ fun w H4 s rw => ⟨c, dp_bl rw, q H4 ((y.trans z).trans s)⟩)
theorem t_w {c : Bool} (h : Gw X e σ H c) : Gt X e σ H c := .mk fun H1 x Q q pins s I => (h).go H1 x Q q _ pins s I
theorem w_and1 {c : Bool} (h : Gt X a σ H c) : Gw X (.BoolOp .And [a] pos) σ H c := .mk fun H1 x Q q => cW_of (pw_and1 cT_pt) ((h).go H1 x Q q)
theorem w_or1 {c : Bool} (h : Gt X a σ H c) : Gw X (.BoolOp .Or [a] pos) σ H c := .mk fun H1 x Q q => cW_of (pw_or1 cT_pt) ((h).go H1 x Q q)
theorem w_and {c c' : Bool} (h : Gt X a σ H c) (k : c = true → Gw X (.BoolOp .And (b :: rest) pos) σ H c') : Gw X (.BoolOp .And (a :: b :: rest) pos) σ H (c && c') := .mk fun H1 x Q q => cW_of (pw_and cT_pt cW_pw) ((h).go H1 x _ fun H2 y => by
  cases c with
  | true => exact (k rfl).go H2 (x.trans y) Q fun H3 z => q H3 (y.trans z)
  | false => exact q H2 y)
theorem w_or {c c' : Bool} (h : Gt X a σ H c) (k : c = false → Gw X (.BoolOp .Or (b :: rest) pos) σ H c') : Gw X (.BoolOp .Or (a :: b :: rest) pos) σ H (c || c') := .mk fun H1 x Q q => cW_of (pw_or cT_pt cW_pw) ((h).go H1 x _ fun H2 y => by
  cases c with
  | true => exact q H2 y
  | false => exact (k rfl).go H2 (x.trans y) Q fun H3 z => q H3 (y.trans z))
theorem t_not {c : Bool} (h : Gt X a σ H c) : Gt X (.UnaryOp .Not a pos) σ H (!c) := .mk fun H1 x Q q => cT_of (pt_not cT_pt) ((h).go H1 x _ q)
theorem x_and1 {op : BoolOp} (h : Gd X a σ H d) : Gd X (.BoolOp op [a] pos) σ H d := gv_of (pe_one cE_pe) fun H1 x Q q => (h).go H1 x Q q
theorem x_and {c c' : Bool} (h : Gd X a σ H (.bool c)) (k : c = true → Gd X (.BoolOp .And (b :: rest) pos) σ H (.bool c')) : Gd X (.BoolOp .And (a :: b :: rest) pos) σ H (.bool (c && c')) := gv_of (pe_and cE_pe cE_pe) fun H1 x Q q => (h).go H1 x _ fun v H2 y r => ⟨c, dp_bl r, by
  cases c with
  | true => exact (k rfl).go H2 (x.trans y) Q fun v H3 z r => q v H3 (y.trans z) r
  | false => exact q _ H2 y (.bl false)⟩
theorem x_or {c c' : Bool} (h : Gd X a σ H (.bool c)) (k : c = false → Gd X (.BoolOp .Or (b :: rest) pos) σ H (.bool c')) : Gd X (.BoolOp .Or (a :: b :: rest) pos) σ H (.bool (c || c')) := gv_of (pe_or cE_pe cE_pe) fun H1 x Q q => (h).go H1 x _ fun v H2 y r => ⟨c, dp_bl r, by
  cases c with
  | true => exact q _ H2 y (.bl true)
  | false => exact (k rfl).go H2 (x.trans y) Q fun v H3 z r => q v H3 (y.trans z) r⟩
theorem x_not {c : Bool} (h : Gd X a σ H (.bool c)) : Gd X (.UnaryOp .Not a pos) σ H (.bool (!c)) := gv_of (pe_not cE_pe) fun H1 x Q q => (h).go H1 x _ fun v H2 y r => ⟨c, dp_bl r, q _ H2 y (.bl _)⟩
theorem x_ifE {t : Expr} {c : Bool} {f : PyData} (h : Gt X t σ H c) (ha : c = true → Gd X a σ H f) (hb : c = false → Gd X b σ H f) : Gd X (.IfExp t a b pos) σ H f := gv_of (pe_ifExp cT_pt cE_pe cE_pe) fun H1 x Q q => (h).go H1 x _ fun H2 y => by
  cases c with
  | true => exact (ha rfl).go H2 (x.trans y) Q fun v H3 z r => q v H3 (y.trans z) r
  | false => exact (hb rfl).go H2 (x.trans y) Q fun v H3 z r => q v H3 (y.trans z) r

/-! calls of built-ins, by data -/
def RCD (K : PySem.W.Frag) (H : Hp) (r : List V → Hp → VK → Prop) (ds : List PyData) (f : PyData) : Prop := ∀ H1, Ex H H1 → ∀ vs, DqAll K H1 vs ds → ∀ Q : VK, (∀ v H2, Ex H1 H2 → Dq K H2 v f → Q v H2) → r vs H1 Q
theorem x_cb {r : List V → Hp → VK → Prop} {f : PyData} {w : Expr} (hw : PE X w (tCB r (cA X es))) (ha : Gs X es σ H ds) (hr : RCD X.K H r ds f) : Gd X w σ H f := gv_of hw fun H1 x Q q => (ha).go H1 x _ fun vs H2 y rs =>
  hr H2 (x.trans y) vs rs Q fun v H3 z r => q v H3 (y.trans z) r
theorem dp2 {K : PySem.W.Frag} {vs : List V} {d f : PyData} (h : DqAll K H vs [d, f]) : ∃ x y, vs = [x, y] ∧ Dq K H x d ∧ Dq K H y f := by
  cases h with
  | cons h1 h2 =>
    cases h2 with
    | cons h3 h4 =>
      cases h4
      exact ⟨_, _, rfl, h1, h3⟩
theorem dp1 {K : PySem.W.Frag} {vs : List V} {d : PyData} (h : DqAll K H vs [d]) : ∃ x, vs = [x] ∧ Dq K H x d := by
  cases h with
  | cons h1 h2 =>
    cases h2
    exact ⟨_, rfl, h1⟩
end
end Lw

namespace Lw
open PySem PySem.Spec PyProof.Rows L2 Evl

/-! ### statements -/
section
variable {X : Cx} {e a b c : Expr} {es : List Expr} {rest body orelse : List Stmt} {st : Stmt} {σ : L2.St} {H H' : Hp} {d : PyData} {ds : List PyData} {pos p' kp : Pos} {R : V → Hp → Prop} {D : Ends}
theorem g_nil (h : D.nx σ H) : cSs X [] D σ H := cSs_of pss_nil h
theorem g_cons (h : cS X st { D with nx := cSs X rest D } σ H) : cSs X (st :: rest) D σ H := cSs_of (pss_cons cS_ps cSs_ps) h
theorem g_st {t : TS} (hp : PS X st t) (h : t { D with nx := cSs X rest D } σ H) : cSs X (st :: rest) D σ H := g_cons (cS_of hp h)
theorem g_ret (he : Gv X e σ H R) (k : ∀ v H1, Ex H H1 → R v H1 → D.rt v H1) : cSs X (.Return (some e) pos :: rest) D σ H := g_st (ps_ret cE_pe) ((he).go H (Ex.refl H) _ k)
theorem g_retD {f : PyData} (he : Gd X e σ H d) (q : d = f) (k : ∀ v H1, Ex H H1 → Dq X.K H1 v f → D.rt v H1) : cSs X (.Return (some e) pos :: rest) D σ H := g_ret (gd_is he q) k
theorem g_set (i : Nat) {x : Str} (hN : X.N.Nodup) (hi : X.N[i]? = some x) (he : Gv X e σ H R) (k : ∀ v H1, Ex H H1 → R v H1 → cSs X rest D (σ.set i (some v)) H1)
    (hx : Loc X.env.scope x := by first | exact Or.inl rfl | exact Or.inr rfl) (hs : swapsWith e (some (.Name x p')) pos.line X.env = pure false := by rfl)
    (hf : X.fn x = true ∨ X.env.scope.names.lookup x = some .local := by first | exact .inl rfl | exact .inr rfl) : cSs X (.Assign [.Name x p'] e pos :: rest) D σ H :=
  g_st (ps_set hN hi hx cE_pe hs hf) ((he).go H (Ex.refl H) _ k)
theorem g_setI (i : Nat) {x : Str} {n : Int} (hN : X.N.Nodup) (hi : X.N[i]? = some x) (he : Gd X e σ H (.int n)) (k : ∀ H1, Ex H H1 → cSs X rest D (σ.set i (some (.int n))) H1)
    (hx : Loc X.env.scope x := by first | exact Or.inl rfl | exact Or.inr rfl) (hs : swapsWith e (some (.Name x p')) pos.line X.env = pure false := by rfl)
    (hf : X.fn x = true ∨ X.env.scope.names.lookup x = some .local := by first | exact .inl rfl | exact .inr rfl) : cSs X (.Assign [.Name x p'] e pos :: rest) D σ H :=
  g_set i hN hi he (fun v H1 q r => by rw [dp_int r]; exact k H1 q) hx hs hf
theorem g_setB (i : Nat) {x : Str} {n : Bool} (hN : X.N.Nodup) (hi : X.N[i]? = some x) (he : Gd X e σ H (.bool n)) (k : ∀ H1, Ex H H1 → cSs X rest D (σ.set i (some (.bl n))) H1)
    (hx : Loc X.env.scope x := by first | exact Or.inl rfl | exact Or.inr rfl) (hs : swapsWith e (some (.Name x p')) pos.line X.env = pure false := by rfl)
    (hf : X.fn x = true ∨ X.env.scope.names.lookup x = some .local := by first | exact .inl rfl | exact .inr rfl) : cSs X (.Assign [.Name x p'] e pos :: rest) D σ H :=
  g_set i hN hi he (fun v H1 q r => by rw [dp_bl r]; exact k H1 q) hx hs hf
theorem g_if {t : Bool} (hc : Gt X c σ H t) (h1 : t = true → ∀ H1, Ex H H1 → cSs X body { D with nx := cSs X rest D } σ H1) (h2 : t = false → ∀ H1, Ex H H1 → cSs X orelse { D with nx := cSs X rest D } σ H1) : cSs X (.If c body orelse pos :: rest) D σ H :=
  g_st (ps_if cT_pt cSs_ps cSs_ps) ((hc).go H (Ex.refl H) _ fun H1 x => by
    cases t with
    | true => exact h1 rfl H1 x
    | false => exact h2 rfl H1 x)
/-- an if without else whose body leaves -/
theorem g_when {t : Bool} (hc : Gt X c σ H t) (h1 : t = true → ∀ H1, Ex H H1 → cSs X body { D with nx := cSs X rest D } σ H1) (h2 : t = false → ∀ H1, Ex H H1 → cSs X rest D σ H1) : cSs X (.If c body [] pos :: rest) D σ H :=
  g_if hc h1 fun q H1 x => g_nil (h2 q H1 x)
theorem g_expr (he : Gv X e σ H R) (k : ∀ v H1, Ex H H1 → R v H1 → cSs X rest D σ H1) (hs : swapsWith e none pos.line X.env = pure false := by rfl) : cSs X (.Expr e pos :: rest) D σ H :=
  g_st (ps_expr cE_pe hs) ((he).go H (Ex.refl H) _ k)
theorem g_augI (i : Nat) {x : Str} {n m : Int} (hN : X.N.Nodup) (hi : X.N[i]? = some x) (hσ : σ[i]? = some (some (.int n))) (he : Gd X e σ H (.int m)) (k : ∀ H1, Ex H H1 → cSs X rest D (σ.set i (some (.int (n + m)))) H1)
    (hx : Loc X.env.scope x := by first | exact Or.inl rfl | exact Or.inr rfl) (hf : X.fn x = true ∨ X.env.scope.names.lookup x = some .local := by first | exact .inl rfl | exact .inr rfl) : cSs X (.AugAssign (.Name x p') .Add e pos :: rest) D σ H :=
  g_st (ps_aug hN hi hx cE_pe ip_add hf) ⟨.int n, hσ, (he).go H (Ex.refl H) _ fun v H1 x r => ⟨n, m, rfl, dp_int r, k H1 x⟩⟩
theorem g_augS (i : Nat) {x : Str} {n m : Int} (hN : X.N.Nodup) (hi : X.N[i]? = some x) (hσ : σ[i]? = some (some (.int n))) (he : Gd X e σ H (.int m)) (k : ∀ H1, Ex H H1 → cSs X rest D (σ.set i (some (.int (n - m)))) H1)
    (hx : Loc X.env.scope x := by first | exact Or.inl rfl | exact Or.inr rfl) (hf : X.fn x = true ∨ X.env.scope.names.lookup x = some .local := by first | exact .inl rfl | exact .inr rfl) : cSs X (.AugAssign (.Name x p') .Sub e pos :: rest) D σ H :=
  g_st (ps_aug hN hi hx cE_pe ip_sub hf) ⟨.int n, hσ, (he).go H (Ex.refl H) _ fun v H1 x r => ⟨n, m, rfl, dp_int r, k H1 x⟩⟩
/-- x, y = a, b -/
theorem g_par (i j : Nat) {x y : Str} {px py pt pt2 : Pos} {kt k2 : Nat} {d1 d2 : PyData} (hN : X.N.Nodup) (hi : X.N[i]? = some x) (hj : X.N[j]? = some y) (hij : i ≠ j) (he : Gs X [a, b] σ H [d1, d2])
    (k : ∀ v w H1, Ex H H1 → Dq X.K H1 v d1 → Dq X.K H1 w d2 → cSs X rest D ((σ.set i (some v)).set j (some w)) H1)
    (hx : X.env.scope.names.lookup x = some .local := by rfl) (hy : X.env.scope.names.lookup y = some .local := by rfl) (hc : X.calm = true := by rfl)
    (hw : swappedStores [.Tuple [.Name x px, .Name y py] kt pt] (.Tuple [a, b] k2 pt2) X.env = pure (some [x, y]) := by rfl)
    (hs : swapsWithSole [.Tuple [.Name x px, .Name y py] kt pt] (.Tuple [a, b] k2 pt2) pos.line X.env = pure false := by rfl) :
    cSs X (.Assign [.Tuple [.Name x px, .Name y py] kt pt] (.Tuple [a, b] k2 pt2) pos :: rest) D σ H :=
  g_st (ps_par hc hN hi hj hij hx hy cA_pa hw hs) ((he).go H (Ex.refl H) _ fun vs H1 q r => by
    obtain ⟨v, w, rfl, r1, r2⟩ := dp2 r
    exact ⟨v, w, rfl, k v w H1 q r1 r2⟩)
theorem g_parI (i j : Nat) {x y : Str} {px py pt pt2 : Pos} {kt k2 : Nat} {n m : Int} (hN : X.N.Nodup) (hi : X.N[i]? = some x) (hj : X.N[j]? = some y) (hij : i ≠ j) (he : Gs X [a, b] σ H [.int n, .int m])
    (k : ∀ H1, Ex H H1 → cSs X rest D ((σ.set i (some (.int n))).set j (some (.int m))) H1)
    (hx : X.env.scope.names.lookup x = some .local := by rfl) (hy : X.env.scope.names.lookup y = some .local := by rfl) (hc : X.calm = true := by rfl)
    (hw : swappedStores [.Tuple [.Name x px, .Name y py] kt pt] (.Tuple [a, b] k2 pt2) X.env = pure (some [x, y]) := by rfl)
    (hs : swapsWithSole [.Tuple [.Name x px, .Name y py] kt pt] (.Tuple [a, b] k2 pt2) pos.line X.env = pure false := by rfl) :
    cSs X (.Assign [.Tuple [.Name x px, .Name y py] kt pt] (.Tuple [a, b] k2 pt2) pos :: rest) D σ H :=
  g_par i j hN hi hj hij he (fun v w H1 q r1 r2 => by rw [dp_int r1, dp_int r2]; exact k H1 q) hx hy hc hw hs
/-- a target stores data -/
theorem g_asg {tg : Expr} {g : TG} (hg : PG X tg g) (he : Gv X e σ H R) (k : ∀ v H1, Ex H H1 → R v H1 → g v σ H1 (cSs X rest D))
    (hs : swapsWithSole [tg] e pos.line X.env = pure false := by rfl) (hw : swappedStores [tg] e X.env = pure none := by rfl)
    (h1 : (assignEach [tg] X.env).map (·.2) = [assign tg X.env] := by rfl) : cSs X (.Assign [tg] e pos :: rest) D σ H := g_st (ps_asg cE_pe hg hs hw h1) ((he).go H (Ex.refl H) _ k)
theorem gtup_of {K : PySem.W.Frag} {v : V} {ds : List PyData} {n : Nat} {t : TGs} {Q : L2.St → Hp → Prop} (h : Dq K H v (.tuple ds)) (hn : ds.length = n) (k : ∀ vs, DqAll K H vs ds → t vs σ H Q) : gTup K n t v σ H Q := by
  obtain ⟨p, xs, rfl, h1, h2⟩ := dp_tup h
  exact ⟨p, xs, rfl, h1, (dpa_len h2).trans hn, k xs h2⟩

/-! ### calls of defs -/
structure Df (P : Program) (w : World) (K : PySem.W.Frag) (mg : Str → Option Value) (base : Heap) (CX : CXT) (nm : Str) (k : Nat) (ps : List Str) (sp : Sp) : Prop where
  ex : ∃ f fd, mg nm = some (.ref f) ∧ PySem.W.keepIn K (.ref f) = true ∧ Binds K fd ps [] ∧ FnOk P w K mg base CX k f fd ps sp
/-- a promise by data -/
def spD (K : PySem.W.Frag) (F : List PyData → PyData → Prop) : Sp := fun vs H Q _ => ∃ ds d, DqAll K H vs ds ∧ F ds d ∧ ∀ v H2, Ex H H2 → Dq K H2 v d → Q v H2
theorem x_callR {nm : Str} {k n : Nat} {ps : List Str} {sp : Sp} {CX : CXT} {RA : List V → Hp → Prop} (Df_ : Df X.prog X.w X.K X.mg X.base CX nm k ps sp) (hr : Room n X.A) (hk : k ≤ n) (hx : Passes CX X E0) (ha : Gl X (e :: es) σ H RA)
    (hs : ∀ vs H1, Ex H H1 → RA vs H1 → ∀ Q : VK, (∀ v H2, Ex H1 H2 → R v H2 → Q v H2) → sp vs H1 Q E0) (hg : L2.Gl X nm := by rfl) (hdb : (nm == ("__debug__" : Str)) = false := by decide)
    (he : starEach (e :: es) X.env = (false, eval e X.env) :: starEach es X.env := by rfl) (hpl : (backTo pos (starEach es X.env)).any (·.1) = false := by rfl) : Gv X (.Call (.Name nm kp) (e :: es) [] pos) σ H R := by
  obtain ⟨f, fd, hm, hkp, hb, F⟩ := Df_.ex
  refine gv_of (pe_call F (hr.mono hk) hg hm hkp hb .nil hx cA_pa hdb he hpl) fun H1 x Q q => (ha).go H1 x _ fun vs H2 y r => ?_
  rw [List.append_nil]
  exact hs vs H2 (x.trans y) r Q fun v H3 z rv => q v H3 (y.trans z) rv
theorem x_call {nm : Str} {k n : Nat} {ps : List Str} {CX : CXT} {F : List PyData → PyData → Prop} {f : PyData} (Df_ : Df X.prog X.w X.K X.mg X.base CX nm k ps (spD X.K F)) (hr : Room n X.A) (hk : k ≤ n) (hx : Passes CX X E0) (ha : Gs X (e :: es) σ H ds)
    (hF : F ds f) (hg : L2.Gl X nm := by rfl) (hdb : (nm == ("__debug__" : Str)) = false := by decide)
    (he : starEach (e :: es) X.env = (false, eval e X.env) :: starEach es X.env := by rfl) (hpl : (backTo pos (starEach es X.env)).any (·.1) = false := by rfl) : Gd X (.Call (.Name nm kp) (e :: es) [] pos) σ H f :=
  x_callR Df_ hr hk hx ha (fun vs H1 _ r Q q => ⟨ds, f, r, hF, q⟩) hg hdb he hpl
theorem x_call0 {nm : Str} {k n : Nat} {ps : List Str} {CX : CXT} {F : List PyData → PyData → Prop} {f : PyData} (Df_ : Df X.prog X.w X.K X.mg X.base CX nm k ps (spD X.K F)) (hr : Room n X.A) (hk : k ≤ n) (hx : Passes CX X E0)
    (hF : F [] f) (hg : L2.Gl X nm := by rfl) (hdb : (nm == ("__debug__" : Str)) = false := by decide) : Gd X (.Call (.Name nm kp) [] [] pos) σ H f := by
  obtain ⟨f', fd, hm, hkp, hb, Fo⟩ := Df_.ex
  exact gv_of (pe_call0 Fo (hr.mono hk) hg hm hkp hb .nil hx hdb) fun H1 x Q q => ⟨[], f, .nil, hF, q⟩
end

/-! ### a def's body -/
abbrev cxB (P : Program) (w : World) (K : PySem.W.Frag) (mg : Str → Option Value) (base : Heap) (N : List Str) (nm : Str) (sc : Scope) (f : Addr) (cdv : Value) (A : Around) (outer : List Env) (s : Shared) (H : Hp) (E : XK) : Cx := (cxOf CX0 P w K mg base N nm sc f cdv A outer s H E).nox
section
variable {P : Program} {w : World} {K : PySem.W.Frag} {mg : Str → Option Value} {base : Heap}
theorem Df.mkR {nm : Str} {st : Stmt} {f : Addr} {fd : FuncData} {N ps : List Str} {sp : Sp} (k : Nat) (Fu : Fun K nm nm st f fd) (hm : mg nm = some (.ref f)) (hb : Binds K fd ps []) (S : FnScope N ps (defScope st)) (len : ∀ vs H Q E, sp vs H Q E → vs.length = ps.length)
    (body : ∀ cdv A outer s H0 E, Room k (cxB P w K mg base N nm (defScope st) f cdv A outer s H0 E).A → ∀ vs H Q, sp vs H Q E → H = H0 →
      cSs (cxB P w K mg base N nm (defScope st) f cdv A outer s H0 E) (defBody st) { nx := fun _ H' => Q .non H', rt := Q } (start N vs) H) : Df P w K mg base CX0 nm (k + 1) ps sp :=
  ⟨f, fd, hm, Fu.kp, hb, Fu.ok S len fun cdv A outer s H vs Q E hr h => ⟨_, cSs_ps, body cdv A outer s H E hr vs H Q h rfl⟩⟩
theorem Df.mk' {nm : Str} {st : Stmt} {f : Addr} {fd : FuncData} {N ps : List Str} {F : List PyData → PyData → Prop} (k : Nat) (Fu : Fun K nm nm st f fd) (hm : mg nm = some (.ref f)) (hb : Binds K fd ps []) (S : FnScope N ps (defScope st)) (len : ∀ ds d, F ds d → ds.length = ps.length)
    (body : ∀ cdv A outer s H0 E, Room k (cxB P w K mg base N nm (defScope st) f cdv A outer s H0 E).A → ∀ ds d vs H (Q : VK), F ds d → DqAll K H vs ds → (∀ v H2, Ex H H2 → Dq K H2 v d → Q v H2) →
      cSs (cxB P w K mg base N nm (defScope st) f cdv A outer s H0 E) (defBody st) { nx := fun _ H' => Q .non H', rt := Q } (start N vs) H) : Df P w K mg base CX0 nm (k + 1) ps (spD K F) :=
  Df.mkR k Fu hm hb S (fun vs H Q E ⟨ds, d, h1, h2, _⟩ => (dpa_len h1).trans (len ds d h2)) fun cdv A outer s H0 E hr vs H Q ⟨ds, d, h1, h2, h3⟩ _ => body cdv A outer s H0 E hr ds d vs H Q h2 h1 h3
end

/-! ### built-ins -/
section
variable {X : Cx} {e a b c : Expr} {es : List Expr} {σ : L2.St} {H H' : Hp} {d f : PyData} {ds : List PyData} {pos p : Pos} {i j : Int}
theorem x_abs (ha : Gd X a σ H (.int i)) (hm : X.mg "abs" = none) (hg : L2.Gl X "abs" := by rfl) (hs : starEach [a] X.env = (false, eval a X.env) :: starEach [] X.env := by rfl) (hpl : (backTo pos (starEach [] X.env)).any (·.1) = false := by rfl) : Gd X (.Call (.Name "abs" p) [a] [] pos) σ H (.int (if i < 0 then -i else i)) :=
  x_cb (pe_callB call_abs hg hm (by decide +kernel) cA_pa (by decide) (by decide) hs hpl) (s_cons ha s_nil hs) fun H1 _ vs r Q q => by
    obtain ⟨x, rfl, r1⟩ := dp1 r
    rw [dp_int r1]
    exact ⟨i, rfl, q _ H1 (Ex.refl H1) (.int _)⟩
theorem x_max2 (ha : Gd X a σ H (.int i)) (hb : Gd X b σ H (.int j)) (hm : X.mg "max" = none) (hc : X.calm = true := by rfl) (hg : L2.Gl X "max" := by rfl) (hs : starEach [a, b] X.env = (false, eval a X.env) :: starEach [b] X.env := by rfl) (hs2 : starEach [b] X.env = (false, eval b X.env) :: starEach [] X.env := by rfl) (hpl : (backTo pos (starEach [b] X.env)).any (·.1) = false := by rfl) : Gd X (.Call (.Name "max" p) [a, b] [] pos) σ H (.int (if j > i then j else i)) :=
  x_cb (pe_callB (call_max2 hc) hg hm (by decide +kernel) cA_pa (by decide) (by decide) hs hpl) (s_cons ha (s_cons hb s_nil hs2) hs) fun H1 _ vs r Q q => by
    obtain ⟨x, y, rfl, r1, r2⟩ := dp2 r
    rw [dp_int r1, dp_int r2]
    exact ⟨i, j, rfl, q _ H1 (Ex.refl H1) (.int _)⟩
theorem x_min2 (ha : Gd X a σ H (.int i)) (hb : Gd X b σ H (.int j)) (hm : X.mg "min" = none) (hc : X.calm = true := by rfl) (hg : L2.Gl X "min" := by rfl) (hs : starEach [a, b] X.env = (false, eval a X.env) :: starEach [b] X.env := by rfl) (hs2 : starEach [b] X.env = (false, eval b X.env) :: starEach [] X.env := by rfl) (hpl : (backTo pos (starEach [b] X.env)).any (·.1) = false := by rfl) : Gd X (.Call (.Name "min" p) [a, b] [] pos) σ H (.int (if j < i then j else i)) :=
  x_cb (pe_callB (call_min2 hc) hg hm (by decide +kernel) cA_pa (by decide) (by decide) hs hpl) (s_cons ha (s_cons hb s_nil hs2) hs) fun H1 _ vs r Q q => by
    obtain ⟨x, y, rfl, r1, r2⟩ := dp2 r
    rw [dp_int r1, dp_int r2]
    exact ⟨i, j, rfl, q _ H1 (Ex.refl H1) (.int _)⟩
theorem x_sum {ns : List Int} (ha : Gd X a σ H (.list (ns.map .int))) (hm : X.mg "sum" = none) (hc : X.calm = true := by rfl) (hg : L2.Gl X "sum" := by rfl) (hs : starEach [a] X.env = (false, eval a X.env) :: starEach [] X.env := by rfl) (hpl : (backTo pos (starEach [] X.env)).any (·.1) = false := by rfl) : Gd X (.Call (.Name "sum" p) [a] [] pos) σ H (.int ns.sum) :=
  x_cb (pe_callB (cr_sum hc) hg hm (by decide +kernel) cA_pa (by decide) (by decide) hs hpl) (s_cons ha s_nil hs) fun H1 _ vs r Q q => by
    obtain ⟨x, rfl, r1⟩ := dp1 r
    obtain ⟨l, xs, rfl, h1, h2⟩ := dp_lst r1
    rw [dpa_ints ns h2] at h1
    exact ⟨l, ns, rfl, h1, q _ H1 (Ex.refl H1) (.int _)⟩
theorem x_all {bs : List Bool} (ha : Gd X a σ H (.list (bs.map .bool))) (hm : X.mg "all" = none) (hc : X.calm = true := by rfl) (hg : L2.Gl X "all" := by rfl) (hs : starEach [a] X.env = (false, eval a X.env) :: starEach [] X.env := by rfl) (hpl : (backTo pos (starEach [] X.env)).any (·.1) = false := by rfl) : Gd X (.Call (.Name "all" p) [a] [] pos) σ H (.bool (bs.all id)) :=
  x_cb (pe_callB (cr_all hc) hg hm (by decide +kernel) cA_pa (by decide) (by decide) hs hpl) (s_cons ha s_nil hs) fun H1 _ vs r Q q => by
    obtain ⟨x, rfl, r1⟩ := dp1 r
    obtain ⟨l, xs, rfl, h1, h2⟩ := dp_lst r1
    rw [dpa_bls bs h2] at h1
    exact ⟨l, bs, rfl, h1, q _ H1 (Ex.refl H1) (.bl _)⟩
theorem x_any {bs : List Bool} (ha : Gd X a σ H (.list (bs.map .bool))) (hm : X.mg "any" = none) (hc : X.calm = true := by rfl) (hg : L2.Gl X "any" := by rfl) (hs : starEach [a] X.env = (false, eval a X.env) :: starEach [] X.env := by rfl) (hpl : (backTo pos (starEach [] X.env)).any (·.1) = false := by rfl) : Gd X (.Call (.Name "any" p) [a] [] pos) σ H (.bool (bs.any id)) :=
  x_cb (pe_callB (cr_any hc) hg hm (by decide +kernel) cA_pa (by decide) (by decide) hs hpl) (s_cons ha s_nil hs) fun H1 _ vs r Q q => by
    obtain ⟨x, rfl, r1⟩ := dp1 r
    obtain ⟨l, xs, rfl, h1, h2⟩ := dp_lst r1
    rw [dpa_bls bs h2] at h1
    exact ⟨l, bs, rfl, h1, q _ H1 (Ex.refl H1) (.bl _)⟩
theorem x_lenL (ha : Gd X a σ H (.list ds)) (hm : X.mg "len" = none) (hg : L2.Gl X "len" := by rfl) (hs : starEach [a] X.env = (false, eval a X.env) :: starEach [] X.env := by rfl) (hpl : (backTo pos (starEach [] X.env)).any (·.1) = false := by rfl) : Gd X (.Call (.Name "len" p) [a] [] pos) σ H (.int ds.length) :=
  x_cb (pe_callB call_len_seq hg hm PySem.boot_len cA_pa (by decide) (by decide) hs hpl) (s_cons ha s_nil hs) fun H1 _ vs r Q q => by
    obtain ⟨x, rfl, r1⟩ := dp1 r
    obtain ⟨l, xs, rfl, h1, h2⟩ := dp_lst r1
    refine ⟨l, xs, rfl, .inl h1, q _ H1 (Ex.refl H1) ?_⟩
    rw [dpa_len h2]
    exact .int _
theorem x_lenT (ha : Gd X a σ H (.tuple ds)) (hm : X.mg "len" = none) (hg : L2.Gl X "len" := by rfl) (hs : starEach [a] X.env = (false, eval a X.env) :: starEach [] X.env := by rfl) (hpl : (backTo pos (starEach [] X.env)).any (·.1) = false := by rfl) : Gd X (.Call (.Name "len" p) [a] [] pos) σ H (.int ds.length) :=
  x_cb (pe_callB call_len_seq hg hm PySem.boot_len cA_pa (by decide) (by decide) hs hpl) (s_cons ha s_nil hs) fun H1 _ vs r Q q => by
    obtain ⟨x, rfl, r1⟩ := dp1 r
    obtain ⟨l, xs, rfl, h1, h2⟩ := dp_tup r1
    refine ⟨l, xs, rfl, .inr h1, q _ H1 (Ex.refl H1) ?_⟩
    rw [dpa_len h2]
    exact .int _
theorem x_list (ha : Gd X a σ H (.list ds)) (hm : X.mg "list" = none) (hg : L2.Gl X "list" := by rfl) (hs : starEach [a] X.env = (false, eval a X.env) :: starEach [] X.env := by rfl) (hpl : (backTo pos (starEach [] X.env)).any (·.1) = false := by rfl) : Gd X (.Call (.Name "list" p) [a] [] pos) σ H (.list ds) :=
  x_cb (pe_callTy call_list_of hg hm (by decide +kernel) cA_pa (by decide) (by decide) hs hpl) (s_cons ha s_nil hs) fun H1 _ vs r Q q => by
    obtain ⟨x, rfl, r1⟩ := dp1 r
    obtain ⟨l, xs, rfl, h1, h2⟩ := dp_lst r1
    exact ⟨l, xs, rfl, .inl h1, fun p hp => q _ _ (Ex.new hp) (.lst (SqL.of upd_same) (dpa_mono (Ex.new hp) h2))⟩
/-- the type of data -/
def tyD : PyData → String
  | .none => "NoneType"
  | .bool _ => "bool"
  | .int _ => "int"
  | .str _ => "str"
  | .list _ => "list"
  | .tuple _ => "tuple"
  | .dict _ => "dict"
theorem tyx_of {K : PySem.W.Frag} {v : V} {d : PyData} (h : Dq K H v d) : TyX K H v (.type (tyD d)) := by
  cases h with
  | non => exact .base .non
  | bl c => exact .base (.bl c)
  | int n => exact .base (.int n)
  | str z => exact .base (.str z)
  | lst hs _ =>
    rcases hs with (hs | ⟨o, hs⟩) | ⟨o, its, n, hs, hc, _⟩
    · exact .base (.lst hs)
    · exact .base (.frz hs)
    · exact .kList hs hc
  | tup hs _ =>
    rcases hs with (hs | ⟨o, hs⟩) | ⟨o, its, n, hs, hc, _⟩
    · exact .base (.tup hs)
    · exact .fTuple hs
    · exact .kTuple hs hc
  | dct hs => exact .base (.dK hs)
theorem x_ty {T : Str} {Tn : String} (hm : X.mg T = none) (hv : bootBuiltins T = some (.type Tn)) (hg : L2.Gl X T := by rfl) (h1 : T ≠ "__name__" := by decide) (h2 : (T == ("__debug__" : Str)) = false := by decide) : Gv X (.Name T p) σ H fun v _ => v = .ty Tn :=
  gv_v (pe_bltn hg hm hv (show RelV (.ty Tn) (.type Tn) from rfl) h1 h2) ev_c
theorem x_isi {T : Str} {Tn : String} {q : Pos} {c : Bool} (ha : Gd X a σ H d) (hT : X.mg T = none) (hm : X.mg "isinstance" = none) (hv : bootBuiltins T = some (.type Tn) := by decide +kernel) (hk : kitB (tyD d) Tn = some c := by decide +kernel)
    (hgT : L2.Gl X T := by rfl) (h1 : T ≠ "__name__" := by decide) (h2 : (T == ("__debug__" : Str)) = false := by decide) (hg : L2.Gl X "isinstance" := by rfl)
    (hs : starEach [a, .Name T q] X.env = (false, eval a X.env) :: starEach [.Name T q] X.env := by rfl) (hs2 : starEach [.Name T q] X.env = (false, eval (.Name T q) X.env) :: starEach [] X.env := by rfl) (hpl : (backTo pos (starEach [.Name T q] X.env)).any (·.1) = false := by rfl) :
    Gd X (.Call (.Name "isinstance" p) [a, .Name T q] [] pos) σ H (.bool c) :=
  gv_of (pe_callB call_isi hg hm (by decide +kernel) cA_pa (by decide) (by decide) hs hpl) fun H1 x Q k =>
    (l_cons (R := fun vs H' => ∃ v, vs = [v, .ty Tn] ∧ Dq X.K H' v d) ha (fun _ _ _ z r => dp_mono z r) (l_cons (R := fun vs _ => vs = [.ty Tn]) (x_ty hT hv hgT h1 h2) (fun _ _ _ _ r => r) (l_nil (R := fun vs _ => vs = []) fun _ => rfl) (fun v vs _ r1 r2 => by rw [r1, r2]) hs2)
      (fun v vs _ r1 r2 => ⟨v, by rw [r2], r1⟩) hs).go H1 x _ fun vs H2 y ⟨v, e, r⟩ => ⟨v, .ty Tn, _, _, c, e, .ty Tn, tyx_of r, kit_ty hk, k _ H2 y (.bl c)⟩
/-- min, max of a pair of ints -/
theorem pair_raw {X : Cx} {pins : List (Addr × Obj)} {s : Shared} {p : Addr} (I : Inv X pins σ H s) (hs : SqT X.K H p [.int i, .int j]) : ∃ t u, s.heap.IsTuple p (intItems #[(i, t), (j, u)]) := by
  obtain ⟨its, rv, tp, _⟩ := I.tuple hs
  obtain ⟨u1, u2, rfl, ⟨t, rfl⟩, ⟨u, rfl⟩⟩ := vals2 rv
  have tq : s.heap.IsTuple p #[.int i t, .int j u] := tp
  exact ⟨t, u, by simpa [intItems] using tq⟩
section
variable {prog : Program} {w : World} {A : Around} {E : Value → Shared → Prop} {s : Shared} {l : Addr} {xs : Array (Int × Tok)} {Q : Value → Shared → Prop}
theorem pair_lt (hl : s.heap.IsTuple l (intItems xs)) : l < s.heap.objs.size := by
  obtain ⟨_, o, _⟩ := hl
  exact Heap.lt_size o
theorem iter_pair (hl : s.heap.IsTuple l (intItems xs))
    (h : ∀ s2 : Shared, s2 = { s with heap := s.heap.push { cls := .type "tuple_iterator", data := .fields #[.ref l, .int 0 0] } } → (s2.heap.IsTupleIter s.heap.objs.size l 0 ∧ s2.heap.IsTuple l (intItems xs)) →
      (∀ b ∈ [s.heap.objs.size, l], b < s2.heap.objs.size) → Q (.ref s.heap.objs.size) s2) : wpAny (model prog w) A (pyIter (.ref l)) Q E s := by
  have small := pair_lt hl
  refine wpAny_pyIter_tuple hl (h _ rfl ⟨⟨_, Heap.get?_push_size _ rfl, rfl, rfl⟩, hl.push _⟩ fun b hb => ?_)
  show b < (s.heap.push _).objs.size
  rw [Heap.size_push]
  simp only [List.mem_cons, List.not_mem_nil, or_false] at hb
  rcases hb with rfl | rfl
  · exact Nat.lt_succ_self _
  · exact Nat.lt_succ_of_lt small
theorem pair_old {h' : Heap} (hk : ∀ b o, b ∉ [s.heap.objs.size] → (s.heap.push { cls := .type "tuple_iterator", data := .fields #[.ref l, .int 0 0] }).get? b = some o → h'.get? b = some o) (b : Addr) (o : Obj) (q : s.heap.get? b = some o) : h'.get? b = some o := by
  refine hk b o (fun hm => ?_) (Heap.get?_push_of_some _ q)
  have eb : b = s.heap.objs.size := by simpa using hm
  have lb := Heap.lt_size q
  rw [eb] at lb
  exact absurd lb (Nat.lt_irrefl _)
theorem max_pair (hh : A.handled = none) (hl : s.heap.IsTuple l (intItems xs)) (hne : 0 < xs.size)
    (h : ∀ v h' tk, (intItems xs)[argBest (fun i j => decide (numAt xs i > numAt xs j)) (xs.size - 1)]? = some v → (∀ b o, s.heap.get? b = some o → h'.get? b = some o) → Q v { s with heap := h', toks := tk }) : wpAny (model prog w) A (call (.builtin "max") [.ref l]) Q E s := by
  have hne2 := pair_lt hl
  refine call_max_walk (iter_pair hl fun s2 eq st hfp => ?_)
  subst eq
  refine ⟨_, _, _, _, _, _, _, rfl, Walks.tuple (A := A.in1) hh _ l (Nat.ne_of_lt hne2) (intItems xs), st, hfp, by simpa [intItems] using hne, CmpOf.ints_gt (numAt xs) (fun _ _ => intItems_at), fun v h' tk hP hk => ?_⟩
  refine h v h' tk ?_ (pair_old hk)
  have sz : (intItems xs).size = xs.size := by simp [intItems]
  rw [sz] at hP
  exact hP
theorem min_pair (hh : A.handled = none) (hl : s.heap.IsTuple l (intItems xs)) (hne : 0 < xs.size)
    (h : ∀ v h' tk, (intItems xs)[argBest (fun i j => decide (numAt xs i < numAt xs j)) (xs.size - 1)]? = some v → (∀ b o, s.heap.get? b = some o → h'.get? b = some o) → Q v { s with heap := h', toks := tk }) : wpAny (model prog w) A (call (.builtin "min") [.ref l]) Q E s := by
  have hne2 := pair_lt hl
  refine call_min_walk (iter_pair hl fun s2 eq st hfp => ?_)
  subst eq
  refine ⟨_, _, _, _, _, _, _, rfl, Walks.tuple (A := A.in1) hh _ l (Nat.ne_of_lt hne2) (intItems xs), st, hfp, by simpa [intItems] using hne, CmpOf.ints_lt (numAt xs) (fun _ _ => intItems_at), fun v h' tk hP hk => ?_⟩
  refine h v h' tk ?_ (pair_old hk)
  have sz : (intItems xs).size = xs.size := by simp [intItems]
  rw [sz] at hP
  exact hP
end
def rPair (K : PySem.W.Frag) (g : Int → Int → Int) : List V → Hp → VK → Prop := fun vs H Q => ∃ p i j, vs = [.ref p] ∧ SqT K H p [.int i, .int j] ∧ Q (.int (g i j)) H
theorem best_gt {t u : Tok} {v : Value} (h : (intItems #[(i, t), (j, u)])[argBest (fun a b => decide (numAt #[(i, t), (j, u)] a > numAt #[(i, t), (j, u)] b)) 1]? = some v) : ∃ tk, v = .int (if j > i then j else i) tk := by
  by_cases c : j > i
  · have q : argBest (fun a b => decide (numAt #[(i, t), (j, u)] a > numAt #[(i, t), (j, u)] b)) 1 = 1 := by simp [argBest, numAt, c]
    rw [q] at h
    refine ⟨u, ?_⟩
    rw [if_pos c]
    have z : (intItems #[(i, t), (j, u)])[1]? = some (.int j u) := by simp [intItems]
    exact (Option.some.inj (z.symm.trans h)).symm
  · have q : argBest (fun a b => decide (numAt #[(i, t), (j, u)] a > numAt #[(i, t), (j, u)] b)) 1 = 0 := by simp [argBest, numAt, c]
    rw [q] at h
    refine ⟨t, ?_⟩
    rw [if_neg c]
    have z : (intItems #[(i, t), (j, u)])[0]? = some (.int i t) := by simp [intItems]
    exact (Option.some.inj (z.symm.trans h)).symm
theorem best_lt {t u : Tok} {v : Value} (h : (intItems #[(i, t), (j, u)])[argBest (fun a b => decide (numAt #[(i, t), (j, u)] a < numAt #[(i, t), (j, u)] b)) 1]? = some v) : ∃ tk, v = .int (if j < i then j else i) tk := by
  by_cases c : j < i
  · have q : argBest (fun a b => decide (numAt #[(i, t), (j, u)] a < numAt #[(i, t), (j, u)] b)) 1 = 1 := by simp [argBest, numAt, c]
    rw [q] at h
    refine ⟨u, ?_⟩
    rw [if_pos c]
    have z : (intItems #[(i, t), (j, u)])[1]? = some (.int j u) := by simp [intItems]
    exact (Option.some.inj (z.symm.trans h)).symm
  · have q : argBest (fun a b => decide (numAt #[(i, t), (j, u)] a < numAt #[(i, t), (j, u)] b)) 1 = 0 := by simp [argBest, numAt, c]
    rw [q] at h
    refine ⟨t, ?_⟩
    rw [if_neg c]
    have z : (intItems #[(i, t), (j, u)])[0]? = some (.int i t) := by simp [intItems]
    exact (Option.some.inj (z.symm.trans h)).symm
theorem call_maxP (hc : X.calm = true) : CallR X (.builtin "max") (rPair X.K fun i j => if j > i then j else i) := by
  intro pins s σ H vs us Q I r h
  obtain ⟨p, i, j, rfl, hs, q⟩ := h
  rw [Vals.ref1 r]
  obtain ⟨t, u, hp⟩ := pair_raw I hs
  refine max_pair (I.ok.hd hc) hp (by simp) fun v h' tk hv hk => ?_
  obtain ⟨tk', rfl⟩ := best_gt hv
  exact ⟨.int _, H, I.kept hk, ⟨_, rfl⟩, q⟩
theorem call_minP (hc : X.calm = true) : CallR X (.builtin "min") (rPair X.K fun i j => if j < i then j else i) := by
  intro pins s σ H vs us Q I r h
  obtain ⟨p, i, j, rfl, hs, q⟩ := h
  rw [Vals.ref1 r]
  obtain ⟨t, u, hp⟩ := pair_raw I hs
  refine min_pair (I.ok.hd hc) hp (by simp) fun v h' tk hv hk => ?_
  obtain ⟨tk', rfl⟩ := best_lt hv
  exact ⟨.int _, H, I.kept hk, ⟨_, rfl⟩, q⟩
theorem dp_pair {K : PySem.W.Frag} {v : V} (h : Dq K H v (.tuple [.int i, .int j])) : ∃ p, v = .ref p ∧ SqT K H p [.int i, .int j] := by
  obtain ⟨p, xs, rfl, h1, h2⟩ := dp_tup h
  have z : xs = [.int i, .int j] := dpa_ints [i, j] h2
  rw [z] at h1
  exact ⟨p, rfl, h1⟩
theorem x_maxP (ha : Gd X a σ H (.tuple [.int i, .int j])) (hm : X.mg "max" = none) (hc : X.calm = true := by rfl) (hg : L2.Gl X "max" := by rfl) (hs : starEach [a] X.env = (false, eval a X.env) :: starEach [] X.env := by rfl) (hpl : (backTo pos (starEach [] X.env)).any (·.1) = false := by rfl) : Gd X (.Call (.Name "max" p) [a] [] pos) σ H (.int (if j > i then j else i)) :=
  x_cb (pe_callB (call_maxP hc) hg hm (by decide +kernel) cA_pa (by decide) (by decide) hs hpl) (s_cons ha s_nil hs) fun H1 _ vs r Q q => by
    obtain ⟨x, rfl, r1⟩ := dp1 r
    obtain ⟨l, rfl, h1⟩ := dp_pair r1
    exact ⟨l, i, j, rfl, h1, q _ H1 (Ex.refl H1) (.int _)⟩
theorem x_minP (ha : Gd X a σ H (.tuple [.int i, .int j])) (hm : X.mg "min" = none) (hc : X.calm = true := by rfl) (hg : L2.Gl X "min" := by rfl) (hs : starEach [a] X.env = (false, eval a X.env) :: starEach [] X.env := by rfl) (hpl : (backTo pos (starEach [] X.env)).any (·.1) = false := by rfl) : Gd X (.Call (.Name "min" p) [a] [] pos) σ H (.int (if j < i then j else i)) :=
  x_cb (pe_callB (call_minP hc) hg hm (by decide +kernel) cA_pa (by decide) (by decide) hs hpl) (s_cons ha s_nil hs) fun H1 _ vs r Q q => by
    obtain ⟨x, rfl, r1⟩ := dp1 r
    obtain ⟨l, rfl, h1⟩ := dp_pair r1
    exact ⟨l, i, j, rfl, h1, q _ H1 (Ex.refl H1) (.int _)⟩

/-! ### comprehensions -/
mutual
/-- data without a list -/
def nl : PyData → Bool
  | .list _ => false
  | .tuple ds => nls ds
  | _ => true
def nls : List PyData → Bool
  | [] => true
  | d :: ds => nl d && nls ds
end
section
variable {K : PySem.W.Frag}
theorem sqt_mut {D p : Addr} {xs ys vs : List V} (hD : H D = some (.lst xs)) (h : SqT K H p vs) : SqT K (upd H D (.lst ys)) p vs := by
  rcases h with (h | ⟨o, h⟩) | h
  · exact .inl (.inl (by rw [upd_ne (ne_of h hD (by intro z; cases z))]; exact h))
  · exact .inl (.inr ⟨o, by rw [upd_ne (ne_of h hD (by intro z; cases z))]; exact h⟩)
  · exact .inr h
mutual
theorem dp_mut {D : Addr} {xs ys : List V} (hD : H D = some (.lst xs)) : ∀ (d : PyData) (v : V), nl d = true → Dq K H v d → Dq K (upd H D (.lst ys)) v d
  | .none, _, _, h => by cases h; exact .non
  | .bool b, _, _, h => by cases h; exact .bl b
  | .int i, _, _, h => by cases h; exact .int i
  | .str x, _, _, h => by cases h; exact .str x
  | .list _, _, n, _ => by cases n
  | .tuple ds, _, n, h => by
    cases h with
    | tup hs ha => exact .tup (sqt_mut hD hs) (dpa_mut hD ds _ n ha)
  | .dict _, _, _, h => by
    cases h with
    | dct h => exact .dct (by rw [upd_ne (ne_of h hD (by intro z; cases z))]; exact h)
theorem dpa_mut {D : Addr} {xs ys : List V} (hD : H D = some (.lst xs)) : ∀ (ds : List PyData) (vs : List V), nls ds = true → DqAll K H vs ds → DqAll K (upd H D (.lst ys)) vs ds
  | [], _, _, h => by cases h; exact .nil
  | d :: ds, _, n, h => by
    have n' : (nl d && nls ds) = true := n
    rw [Bool.and_eq_true] at n'
    cases h with
    | cons h1 h2 => exact .cons (dp_mut hD d _ n'.1 h1) (dpa_mut hD ds _ n'.2 h2)
end
end
theorem nls_take : ∀ {fs : List PyData} (i : Nat), nls fs = true → nls (fs.take i) = true
  | _, 0, _ => rfl
  | [], _ + 1, _ => rfl
  | d :: ds, i + 1, n => by
    have n' : (nl d && nls ds) = true := n
    rw [Bool.and_eq_true] at n'
    show (nl d && nls (ds.take i)) = true
    rw [n'.1, nls_take i n'.2] <;> rfl
theorem nls_at : ∀ {fs : List PyData} {i : Nat} {f : PyData}, nls fs = true → fs[i]? = some f → nl f = true
  | [], _, _, _, h => by simp at h
  | d :: ds, 0, f, n, h => by
    have n' : (nl d && nls ds) = true := n
    rw [Bool.and_eq_true] at n'
    have z := Option.some.inj h
    rw [← z]
    exact n'.1
  | d :: ds, i + 1, f, n, h => by
    have n' : (nl d && nls ds) = true := n
    rw [Bool.and_eq_true] at n'
    exact nls_at (i := i) n'.2 h
theorem nls_map {α : Type} (f : α → PyData) (hf : ∀ a, nl (f a) = true) : ∀ l : List α, nls (l.map f) = true
  | [] => rfl
  | a :: l => by
    show (nl (f a) && nls (l.map f)) = true
    rw [hf a, nls_map f hf l] <;> rfl
/-- a turn's word: i items made in the list at D -/
def Lcw (K : PySem.W.Frag) (H1 : Hp) (D : Addr) (fs : List PyData) (i : Nat) (H' : Hp) : Prop := H1 D = none ∧ Ex H1 H' ∧ ∃ vs, H' D = some (.lst vs) ∧ DqAll K H' vs (fs.take i)
theorem lcw_turn {K : PySem.W.Frag} {H1 H' : Hp} {D : Addr} {fs : List PyData} {i : Nat} {f : PyData} {te : TE} {σ2 : L2.St} (p : Lcw K H1 D fs i H') (hf : fs[i]? = some f) (hz : fs.length ≤ 100000) (hn : nls fs = true)
    (he : ∀ Q : VK, (∀ v H2, Ex H' H2 → Dq K H2 v f → Q v H2) → te σ2 H' Q) :
    te σ2 H' fun y H4 => ∃ acc, H4 D = some (.lst acc) ∧ acc.length < sizeLine ∧ Lcw K H1 D fs (i + 1) (upd H4 D (.lst (acc ++ [y]))) := by
  obtain ⟨p1, p2, vs, p3, p4⟩ := p
  refine he _ fun v H2 x r => ⟨vs, x D _ p3, ?_, p1, Ex.mut (p2.trans x) p1, vs ++ [v], upd_same, ?_⟩
  · have l1 := dpa_len p4
    have l2 := (List.getElem?_eq_some_iff.mp hf).1
    rw [List.length_take] at l1
    exact sz_lt (by omega)
  · rw [List.take_add_one, hf]
    refine dpa_app (dpa_mut (x D _ p3) _ _ (nls_take i hn) (dpa_mono x p4)) (.cons (dp_mut (x D _ p3) _ _ (nls_at hn hf) r) .nil)
def cB (X : Cx) (scope : Scope) (e : Expr) : TE := fun σ H Q => ∀ (s : Shared) (H0 : Hp) (C : Addr) (cl : List (Str × Addr)) (fp : List Addr), cE (X.blk s H0 scope (compEnvC scope cl C X.env) fp) e σ H Q
theorem cB_pe {scope : Scope} (s : Shared) (H0 : Hp) (C : Addr) (cl : List (Str × Addr)) (fp : List Addr) : PE (X.blk s H0 scope (compEnvC scope cl C X.env) fp) e (cB X scope e) := ⟨fun pins s1 _ _ _ I h => h s H0 C cl fp pins s1 I⟩
theorem wipe1 (σ : L2.St) (j : Nat) (x : Option V) : wipe ((wipe σ [j]).set j x) [j] = wipe σ [j] := by
  show ((σ.set j none).set j x).set j none = σ.set j none
  rw [List.set_set, List.set_set]
section
variable {iter elt : Expr} {scope : Scope} {x : Str} {px : Pos} {fs : List PyData}
/-- [elt for x in iter], iter a list; x in slot j -/
theorem x_lcL (jj : Nat) (hN : X.N.Nodup) (hi : Gd X iter σ H (.list ds)) (ok : BlkOk X.N X.env.scope scope [(x, jj)]) (hl : fs.length = ds.length) (hz : fs.length ≤ 100000) (hn : nls fs = true)
    (he : ∀ (i : Nat) (d f : PyData) (v : V) (H1 : Hp), ds[i]? = some d → fs[i]? = some f → Ex H H1 → Dq X.K H1 v d → ∀ s H0 C cl fp, Gd (X.blk s H0 scope (compEnvC scope cl C X.env) fp) elt ((wipe σ [jj]).set jj (some v)) H1 f)
    (hj : X.N[jj]? = some x := by rfl)
    (hg : ∀ (s : Shared) (H0 : Hp) (C : Addr) (cl : List (Str × Addr)) (fp : List Addr), PG (X.blk s H0 scope (compEnvC scope cl C X.env) fp) (.Name x px) (gName jj))
    (hc : X.calm = true := by rfl) (hs : ∀ x, foldedSetIterable iter X.env x = pure x := by intro _; rfl) : Gd X (.ListComp elt [⟨.Name x px, iter, [], 0⟩] scope pos) σ H (.list fs) :=
  gv_of (pe_lc (own := [(x, jj)]) (tt := tYes) hc hN (pi_list cE_pe) ok hg (fun _ _ _ _ _ => pts_nil) (fun s H0 C cl fp => cB_pe s H0 C cl fp) hs) fun H1 x1 Q q => (hi).go H1 x1 _ fun v H2 y r => by
    obtain ⟨a, xs, rfl, h1, h2⟩ := dp_lst r
    refine ⟨a, rfl, ⟨xs, h1⟩, fun D hD => lc_list (xs := xs) (Lcw X.K H2 D fs) ⟨hD, Ex.new hD, [], upd_same, .nil⟩ (fun i H' _ p => ex_l p.2.1 h1) (fun i u H' hu p => ?_) fun H' p => ?_⟩
    · obtain ⟨d, hd, rd⟩ := dpa_get' h2 hu
      have li : i < fs.length := by rw [hl]; exact (List.getElem?_eq_some_iff.mp hd).1
      refine ⟨wipe1 σ jj _, ?_⟩
      refine lcw_turn (te := cB X scope elt) p (List.getElem?_eq_getElem li) hz hn fun Q' q' s H0 C cl fp => ?_
      exact (he i d _ u H' hd (List.getElem?_eq_getElem li) (x1.trans (y.trans p.2.1)) (dp_mono p.2.1 rd) s H0 C cl fp).go H' (Ex.refl H') Q' q'
    · obtain ⟨p1, p2, vs, p3, p4⟩ := p
      rw [dpa_len h2, ← hl, List.take_length] at p4
      exact q _ H' (y.trans p2) (.lst (SqL.of p3) p4)
theorem x_lcT (jj : Nat) (hN : X.N.Nodup) (hi : Gd X iter σ H (.tuple ds)) (ok : BlkOk X.N X.env.scope scope [(x, jj)]) (hl : fs.length = ds.length) (hz : fs.length ≤ 100000) (hn : nls fs = true)
    (he : ∀ (i : Nat) (d f : PyData) (v : V) (H1 : Hp), ds[i]? = some d → fs[i]? = some f → Ex H H1 → Dq X.K H1 v d → ∀ s H0 C cl fp, Gd (X.blk s H0 scope (compEnvC scope cl C X.env) fp) elt ((wipe σ [jj]).set jj (some v)) H1 f)
    (hj : X.N[jj]? = some x := by rfl)
    (hg : ∀ (s : Shared) (H0 : Hp) (C : Addr) (cl : List (Str × Addr)) (fp : List Addr), PG (X.blk s H0 scope (compEnvC scope cl C X.env) fp) (.Name x px) (gName jj))
    (hc : X.calm = true := by rfl) (hs : ∀ x, foldedSetIterable iter X.env x = pure x := by intro _; rfl) : Gd X (.ListComp elt [⟨.Name x px, iter, [], 0⟩] scope pos) σ H (.list fs) :=
  gv_of (pe_lc (own := [(x, jj)]) (tt := tYes) hc hN (pi_tup cE_pe) ok hg (fun _ _ _ _ _ => pts_nil) (fun s H0 C cl fp => cB_pe s H0 C cl fp) hs) fun H1 x1 Q q => (hi).go H1 x1 _ fun v H2 y r => by
    obtain ⟨a, xs, rfl, h1, h2⟩ := dp_tup r
    refine ⟨a, rfl, ⟨xs, h1⟩, fun D hD => lc_tup (xs := xs) (Lcw X.K H2 D fs) ⟨hD, Ex.new hD, [], upd_same, .nil⟩ (fun i H' _ p => ex_t p.2.1 h1) (fun i u H' hu p => ?_) fun H' p => ?_⟩
    · obtain ⟨d, hd, rd⟩ := dpa_get' h2 hu
      have li : i < fs.length := by rw [hl]; exact (List.getElem?_eq_some_iff.mp hd).1
      refine ⟨wipe1 σ jj _, ?_⟩
      refine lcw_turn (te := cB X scope elt) p (List.getElem?_eq_getElem li) hz hn fun Q' q' s H0 C cl fp => ?_
      exact (he i d _ u H' hd (List.getElem?_eq_getElem li) (x1.trans (y.trans p.2.1)) (dp_mono p.2.1 rd) s H0 C cl fp).go H' (Ex.refl H') Q' q'
    · obtain ⟨p1, p2, vs, p3, p4⟩ := p
      rw [dpa_len h2, ← hl, List.take_length] at p4
      exact q _ H' (y.trans p2) (.lst (SqL.of p3) p4)
end
end
end Lw

namespace Lw
open PySem PySem.Spec PyProof.Rows L2 Evl

/-- a def of the top as it stands -/
structure Th (K : PySem.W.Frag) (mg : Str → Option Value) (nm : Str) (st : Stmt) (ps : List Str) : Prop where
  ex : ∃ f fd, mg nm = some (.ref f) ∧ Fun K nm nm st f fd ∧ Binds K fd ps []
/-- built-in names that the top leaves as they are -/
structure Bu (mg : Str → Option Value) : Prop where
  isinstance : mg "isinstance" = none
  int : mg "int" = none
  bool : mg "bool" = none
  tuple : mg "tuple" = none
  list : mg "list" = none
  len : mg "len" = none
  all : mg "all" = none
  any : mg "any" = none
  sum : mg "sum" = none
  min : mg "min" = none
  max : mg "max" = none
  abs : mg "abs" = none
  zip : mg "zip" = none
  range : mg "range" = none
theorem of_dec {p : Prop} [Decidable p] (h : decide p = true) : p := of_decide_eq_true h
theorem of_ndec {p : Prop} [Decidable p] (h : decide p = false) : ¬ p := of_decide_eq_false h
def isInt : PyData → Bool
  | .int _ => true
  | _ => false
theorem ki1 : kitB "NoneType" "int" = some false := by decide +kernel
theorem ki2 : kitB "bool" "int" = some true := by decide +kernel
theorem ki3 : kitB "int" "int" = some true := by decide +kernel
theorem ki4 : kitB "str" "int" = some false := by decide +kernel
theorem ki5 : kitB "list" "int" = some false := by decide +kernel
theorem ki6 : kitB "tuple" "int" = some false := by decide +kernel
theorem ki7 : kitB "dict" "int" = some false := by decide +kernel
theorem kb1 : kitB "NoneType" "bool" = some false := by decide +kernel
theorem kb2 : kitB "bool" "bool" = some true := by decide +kernel
theorem kb3 : kitB "int" "bool" = some false := by decide +kernel
theorem kb4 : kitB "str" "bool" = some false := by decide +kernel
theorem kb5 : kitB "list" "bool" = some false := by decide +kernel
theorem kb6 : kitB "tuple" "bool" = some false := by decide +kernel
theorem kb7 : kitB "dict" "bool" = some false := by decide +kernel
theorem kt1 : kitB "NoneType" "tuple" = some false := by decide +kernel
theorem kt2 : kitB "bool" "tuple" = some false := by decide +kernel
theorem kt3 : kitB "int" "tuple" = some false := by decide +kernel
theorem kt4 : kitB "str" "tuple" = some false := by decide +kernel
theorem kt5 : kitB "list" "tuple" = some false := by decide +kernel
theorem kt6 : kitB "tuple" "tuple" = some true := by decide +kernel
theorem kt7 : kitB "dict" "tuple" = some false := by decide +kernel
theorem kl1 : kitB "NoneType" "list" = some false := by decide +kernel
theorem kl2 : kitB "bool" "list" = some false := by decide +kernel
theorem kl3 : kitB "int" "list" = some false := by decide +kernel
theorem kl4 : kitB "str" "list" = some false := by decide +kernel
theorem kl5 : kitB "list" "list" = some true := by decide +kernel
theorem kl6 : kitB "tuple" "list" = some false := by decide +kernel
theorem kl7 : kitB "dict" "list" = some false := by decide +kernel
theorem isInt_is (d : PyData) : ∃ b1 b2, kitB (tyD d) "int" = some b1 ∧ kitB (tyD d) "bool" = some b2 ∧ (b1 && !b2) = isInt d := by
  cases d
  · exact ⟨false, false, ki1, kb1, rfl⟩
  · exact ⟨true, true, ki2, kb2, rfl⟩
  · exact ⟨true, false, ki3, kb3, rfl⟩
  · exact ⟨false, false, ki4, kb4, rfl⟩
  · exact ⟨false, false, ki5, kb5, rfl⟩
  · exact ⟨false, false, ki6, kb6, rfl⟩
  · exact ⟨false, false, ki7, kb7, rfl⟩
def isTup : PyData → Bool
  | .tuple _ => true
  | _ => false
theorem isTup_is (d : PyData) : kitB (tyD d) "tuple" = some (isTup d) := by
  cases d
  · exact kt1
  · exact kt2
  · exact kt3
  · exact kt4
  · exact kt5
  · exact kt6
  · exact kt7
def isLst : PyData → Bool
  | .list _ => true
  | _ => false
theorem isLst_is (d : PyData) : kitB (tyD d) "list" = some (isLst d) := by
  cases d
  · exact kl1
  · exact kl2
  · exact kl3
  · exact kl4
  · exact kl5
  · exact kl6
  · exact kl7
def isAmt : PyData → Bool
  | .int i => decide (0 ≤ i)
  | _ => false
def pr (x y : Int) : PyData := .tuple [.int x, .int y]
def lsI (l : List Int) : PyData := .list (l.map .int)

section
variable {X : Cx} {a : Expr} {σ : L2.St} {H : Hp} {d : PyData} {pos p q : Pos} {c : Bool}
theorem x_isiInt (ha : Gd X a σ H d) (hk : kitB (tyD d) "int" = some c) (hT : X.mg "int" = none) (hm : X.mg "isinstance" = none) (hgT : L2.Gl X "int" := by rfl) (hg : L2.Gl X "isinstance" := by rfl)
    (hs : starEach [a, .Name "int" q] X.env = (false, eval a X.env) :: starEach [.Name "int" q] X.env := by rfl) (hs2 : starEach [.Name "int" q] X.env = (false, eval (.Name "int" q) X.env) :: starEach [] X.env := by rfl) (hpl : (backTo pos (starEach [.Name "int" q] X.env)).any (·.1) = false := by rfl) :
    Gd X (.Call (.Name "isinstance" p) [a, .Name "int" q] [] pos) σ H (.bool c) := x_isi (T := "int") (Tn := "int") ha hT hm (by decide +kernel) hk hgT (by decide) (by decide) hg hs hs2 hpl
theorem x_isiBool (ha : Gd X a σ H d) (hk : kitB (tyD d) "bool" = some c) (hT : X.mg "bool" = none) (hm : X.mg "isinstance" = none) (hgT : L2.Gl X "bool" := by rfl) (hg : L2.Gl X "isinstance" := by rfl)
    (hs : starEach [a, .Name "bool" q] X.env = (false, eval a X.env) :: starEach [.Name "bool" q] X.env := by rfl) (hs2 : starEach [.Name "bool" q] X.env = (false, eval (.Name "bool" q) X.env) :: starEach [] X.env := by rfl) (hpl : (backTo pos (starEach [.Name "bool" q] X.env)).any (·.1) = false := by rfl) :
    Gd X (.Call (.Name "isinstance" p) [a, .Name "bool" q] [] pos) σ H (.bool c) := x_isi (T := "bool") (Tn := "bool") ha hT hm (by decide +kernel) hk hgT (by decide) (by decide) hg hs hs2 hpl
theorem x_isiTup (ha : Gd X a σ H d) (hk : kitB (tyD d) "tuple" = some c) (hT : X.mg "tuple" = none) (hm : X.mg "isinstance" = none) (hgT : L2.Gl X "tuple" := by rfl) (hg : L2.Gl X "isinstance" := by rfl)
    (hs : starEach [a, .Name "tuple" q] X.env = (false, eval a X.env) :: starEach [.Name "tuple" q] X.env := by rfl) (hs2 : starEach [.Name "tuple" q] X.env = (false, eval (.Name "tuple" q) X.env) :: starEach [] X.env := by rfl) (hpl : (backTo pos (starEach [.Name "tuple" q] X.env)).any (·.1) = false := by rfl) :
    Gd X (.Call (.Name "isinstance" p) [a, .Name "tuple" q] [] pos) σ H (.bool c) := x_isi (T := "tuple") (Tn := "tuple") ha hT hm (by decide +kernel) hk hgT (by decide) (by decide) hg hs hs2 hpl
theorem x_isiLst (ha : Gd X a σ H d) (hk : kitB (tyD d) "list" = some c) (hT : X.mg "list" = none) (hm : X.mg "isinstance" = none) (hgT : L2.Gl X "list" := by rfl) (hg : L2.Gl X "isinstance" := by rfl)
    (hs : starEach [a, .Name "list" q] X.env = (false, eval a X.env) :: starEach [.Name "list" q] X.env := by rfl) (hs2 : starEach [.Name "list" q] X.env = (false, eval (.Name "list" q) X.env) :: starEach [] X.env := by rfl) (hpl : (backTo pos (starEach [.Name "list" q] X.env)).any (·.1) = false := by rfl) :
    Gd X (.Call (.Name "isinstance" p) [a, .Name "list" q] [] pos) σ H (.bool c) := x_isi (T := "list") (Tn := "list") ha hT hm (by decide +kernel) hk hgT (by decide) (by decide) hg hs hs2 hpl
end
/-- the names by their slots -/
def Names (X : Cx) : List Str → Nat → Prop
  | [], _ => True
  | x :: r, i => X.N[i]? = some x ∧ Names X r (i + 1)
theorem names_of {X : Cx} : ∀ (l k : List Str), X.N = k ++ l → Names X l k.length
  | [], _, _ => True.intro
  | x :: r, k, h => by
    refine ⟨by rw [h, List.getElem?_append_right (Nat.le_refl _), Nat.sub_self] <;> rfl, ?_⟩
    have z := names_of r (k ++ [x]) (by rw [h, List.append_assoc] <;> rfl)
    rw [List.length_append] at z
    exact z
section
variable {P : Program} {w : World} {K : PySem.W.Frag} {mg : Str → Option Value} {base : Heap}
theorem Df.goR {nm : Str} {st : Stmt} {N ps : List Str} {sp : Sp} (k : Nat) (T : Th K mg nm st ps) (S : FnScope N ps (defScope st)) (len : ∀ vs H Q E, sp vs H Q E → vs.length = ps.length)
    (body : ∀ f cdv A outer s H0 E, Room k (cxB P w K mg base N nm (defScope st) f cdv A outer s H0 E).A → Names (cxB P w K mg base N nm (defScope st) f cdv A outer s H0 E) N 0 → (cxB P w K mg base N nm (defScope st) f cdv A outer s H0 E).N.Nodup → ∀ vs H (Q : VK), sp vs H Q E → H = H0 →
      cSs (cxB P w K mg base N nm (defScope st) f cdv A outer s H0 E) (defBody st) { nx := fun _ H' => Q .non H', rt := Q } (start N vs) H) : Df P w K mg base CX0 nm (k + 1) ps sp := by
  obtain ⟨f, fd, hm, Fu, hb⟩ := T.ex
  exact Df.mkR k Fu hm hb S len fun cdv A outer s H0 E hr => body f cdv A outer s H0 E hr (names_of N [] rfl) S.nd
theorem Df.go {nm : Str} {st : Stmt} {N ps : List Str} {F : List PyData → PyData → Prop} (k : Nat) (T : Th K mg nm st ps) (S : FnScope N ps (defScope st)) (len : ∀ ds d, F ds d → ds.length = ps.length)
    (body : ∀ f cdv A outer s H0 E, Room k (cxB P w K mg base N nm (defScope st) f cdv A outer s H0 E).A → Names (cxB P w K mg base N nm (defScope st) f cdv A outer s H0 E) N 0 → (cxB P w K mg base N nm (defScope st) f cdv A outer s H0 E).N.Nodup → ∀ ds d vs H (Q : VK), F ds d → DqAll K H vs ds → (∀ v H2, Ex H H2 → Dq K H2 v d → Q v H2) →
      cSs (cxB P w K mg base N nm (defScope st) f cdv A outer s H0 E) (defBody st) { nx := fun _ H' => Q .non H', rt := Q } (start N vs) H) : Df P w K mg base CX0 nm (k + 1) ps (spD K F) :=
  Df.goR k T S (fun vs H Q E ⟨ds, d, h1, h2, _⟩ => (dpa_len h1).trans (len ds d h2)) fun f cdv A outer s H0 E hr hn nd vs H Q ⟨ds, d, h1, h2, h3⟩ _ => body f cdv A outer s H0 E hr hn nd ds d vs H Q h2 h1 h3
end
/-! ### what is a place, a leap, counts -/
def isPl : PyData → Bool
  | .tuple [p, q] => isInt p && isInt q
  | _ => false
theorem isPl_pair {x : PyData} (h : isPl x = true) : ∃ i j, x = .tuple [.int i, .int j] := by
  unfold isPl at h
  split at h
  · rename_i p q
    rw [Bool.and_eq_true] at h
    cases p with
    | int i =>
      cases q with
      | int j => exact ⟨i, j, rfl⟩
      | _ => exact absurd h.2 Bool.false_ne_true
    | _ => exact absurd h.1 Bool.false_ne_true
  · cases h
def isLp : PyData → Bool
  | .tuple [.int i, .int j] => decide (0 ≤ if j < i then j else i) && decide (0 < if j > i then j else i)
  | _ => false
theorem isLp_of {x : PyData} (h : isPl x = false) : isLp x = false := by
  unfold isLp
  split
  · cases h
  · rfl
theorem isLp_ok {a b : Int} (ha : 0 ≤ a) (hb : 0 ≤ b) (h : 0 < a ∨ 0 < b) : isLp (pr a b) = true := by
  show (decide _ && decide _) = true
  rw [Bool.and_eq_true]
  exact ⟨decide_eq_true (by split <;> omega), decide_eq_true (by split <;> omega)⟩
theorem isLp_is {a b : Int} (h : isLp (pr a b) = true) : 0 ≤ a ∧ 0 ≤ b ∧ (0 < a ∨ 0 < b) := by
  have h' : (decide (0 ≤ if b < a then b else a) && decide (0 < if b > a then b else a)) = true := h
  rw [Bool.and_eq_true] at h'
  have h1 := of_decide_eq_true h'.1
  have h2 := of_decide_eq_true h'.2
  split at h1 <;> split at h2 <;> omega
def isCt : PyData → Bool
  | .list es => decide (es.length = 8) && (es.map isAmt).all id
  | _ => false
def lenOk : PyData → Prop
  | .list es => es.length ≤ 100000
  | .tuple es => es.length ≤ 100000
  | _ => True
end Lw

namespace Lw
open PySem PySem.Spec PyProof.Rows L2 Evl
section
variable {X : Cx} {e a b c : Expr} {es : List Expr} {rest body orelse : List Stmt} {σ : L2.St} {H H' : Hp} {d : PyData} {ds : List PyData} {pos p' kp px py pz pu pt : Pos} {kt : Nat} {D : Ends} {x y z u : Str} {n m l o : Int}
abbrev Ld (X : Cx) (x : Str) : Prop := Loc X.env.scope x
abbrev Lf (X : Cx) (x : Str) : Prop := X.fn x = true ∨ X.env.scope.names.lookup x = some .local
theorem g_unp2I (i j : Nat) (hN : X.N.Nodup) (hi : X.N[i]? = some x) (hj : X.N[j]? = some y) (he : Gd X e σ H (.tuple [.int n, .int m])) (k : ∀ H1, Ex H H1 → cSs X rest D ((σ.set i (some (.int n))).set j (some (.int m))) H1)
    (h1 : Ld X x := by first | exact Or.inl rfl | exact Or.inr rfl) (h2 : Ld X y := by first | exact Or.inl rfl | exact Or.inr rfl) (f1 : Lf X x := by first | exact .inl rfl | exact .inr rfl) (f2 : Lf X y := by first | exact .inl rfl | exact .inr rfl) (hc : X.calm = true := by rfl)
    (hs : swapsWithSole [.Tuple [.Name x px, .Name y py] kt pt] e pos.line X.env = pure false := by rfl) (hw : swappedStores [.Tuple [.Name x px, .Name y py] kt pt] e X.env = pure none := by rfl) :
    cSs X (.Assign [.Tuple [.Name x px, .Name y py] kt pt] e pos :: rest) D σ H :=
  g_asg (pg_tup hc (pgs_cons (pg_name hN hi h1 f1) (pgs_cons (pg_name hN hj h2 f2) pgs_nil))) he (fun v H1 q r => gtup_of r rfl fun vs rs => by
    have e1 := dpa_ints [n, m] rs
    exact ⟨.int n, [.int m], e1, .int m, [], rfl, rfl, k H1 q⟩) hs hw
theorem g_unp3I (i j s : Nat) (hN : X.N.Nodup) (hi : X.N[i]? = some x) (hj : X.N[j]? = some y) (hk : X.N[s]? = some z) (he : Gd X e σ H (.tuple [.int n, .int m, .int l])) (k : ∀ H1, Ex H H1 → cSs X rest D (((σ.set i (some (.int n))).set j (some (.int m))).set s (some (.int l))) H1)
    (h1 : Ld X x := by first | exact Or.inl rfl | exact Or.inr rfl) (h2 : Ld X y := by first | exact Or.inl rfl | exact Or.inr rfl) (h3 : Ld X z := by first | exact Or.inl rfl | exact Or.inr rfl) (f1 : Lf X x := by first | exact .inl rfl | exact .inr rfl) (f2 : Lf X y := by first | exact .inl rfl | exact .inr rfl) (f3 : Lf X z := by first | exact .inl rfl | exact .inr rfl) (hc : X.calm = true := by rfl)
    (hs : swapsWithSole [.Tuple [.Name x px, .Name y py, .Name z pz] kt pt] e pos.line X.env = pure false := by rfl) (hw : swappedStores [.Tuple [.Name x px, .Name y py, .Name z pz] kt pt] e X.env = pure none := by rfl) :
    cSs X (.Assign [.Tuple [.Name x px, .Name y py, .Name z pz] kt pt] e pos :: rest) D σ H :=
  g_asg (pg_tup hc (pgs_cons (pg_name hN hi h1 f1) (pgs_cons (pg_name hN hj h2 f2) (pgs_cons (pg_name hN hk h3 f3) pgs_nil)))) he (fun v H1 q r => gtup_of r rfl fun vs rs => by
    have e1 := dpa_ints [n, m, l] rs
    exact ⟨.int n, [.int m, .int l], e1, .int m, [.int l], rfl, .int l, [], rfl, rfl, k H1 q⟩) hs hw
theorem g_unp4I (i j s t : Nat) (hN : X.N.Nodup) (hi : X.N[i]? = some x) (hj : X.N[j]? = some y) (hk : X.N[s]? = some z) (hl : X.N[t]? = some u) (he : Gd X e σ H (.tuple [.int n, .int m, .int l, .int o])) (k : ∀ H1, Ex H H1 → cSs X rest D ((((σ.set i (some (.int n))).set j (some (.int m))).set s (some (.int l))).set t (some (.int o))) H1)
    (h1 : Ld X x := by first | exact Or.inl rfl | exact Or.inr rfl) (h2 : Ld X y := by first | exact Or.inl rfl | exact Or.inr rfl) (h3 : Ld X z := by first | exact Or.inl rfl | exact Or.inr rfl) (h4 : Ld X u := by first | exact Or.inl rfl | exact Or.inr rfl) (f1 : Lf X x := by first | exact .inl rfl | exact .inr rfl) (f2 : Lf X y := by first | exact .inl rfl | exact .inr rfl) (f3 : Lf X z := by first | exact .inl rfl | exact .inr rfl) (f4 : Lf X u := by first | exact .inl rfl | exact .inr rfl) (hc : X.calm = true := by rfl)
    (hs : swapsWithSole [.Tuple [.Name x px, .Name y py, .Name z pz, .Name u pu] kt pt] e pos.line X.env = pure false := by rfl) (hw : swappedStores [.Tuple [.Name x px, .Name y py, .Name z pz, .Name u pu] kt pt] e X.env = pure none := by rfl) :
    cSs X (.Assign [.Tuple [.Name x px, .Name y py, .Name z pz, .Name u pu] kt pt] e pos :: rest) D σ H :=
  g_asg (pg_tup hc (pgs_cons (pg_name hN hi h1 f1) (pgs_cons (pg_name hN hj h2 f2) (pgs_cons (pg_name hN hk h3 f3) (pgs_cons (pg_name hN hl h4 f4) pgs_nil))))) he (fun v H1 q r => gtup_of r rfl fun vs rs => by
    have e1 := dpa_ints [n, m, l, o] rs
    exact ⟨.int n, [.int m, .int l, .int o], e1, .int m, [.int l, .int o], rfl, .int l, [.int o], rfl, .int o, [], rfl, rfl, k H1 q⟩) hs hw
/-- while, by a word and a measure; the test's truth b -/
theorem g_while {t : Nat → L2.St → Hp → Bool} (W : Nat → L2.St → Hp → Prop) (m0 : Nat) (h0 : W m0 σ H) (hp : PassesOwn (model X.prog X.w) X.A X.env X.xe)
    (hc : ∀ m σ' H', W m σ' H' → Gt X c σ' H' (t m σ' H'))
    (h1 : ∀ m σ' H', W m σ' H' → t m σ' H' = true → ∀ H1, Ex H' H1 → cSs X body { D with nx := fun σ2 H2 => ∃ m', m' < m ∧ W m' σ2 H2, ct := fun σ2 H2 => ∃ m', m' < m ∧ W m' σ2 H2, bk := cSs X rest D } σ' H1)
    (h2 : ∀ m σ' H', W m σ' H' → t m σ' H' = false → ∀ H1, Ex H' H1 → cSs X rest D σ' H1) : cSs X (.While c body [] pos :: rest) D σ H :=
  g_st (ps_while hp cT_pt cSs_ps) ⟨W, ⟨m0, h0⟩, fun m σ' H' hw => (hc m σ' H' hw).go H' (Ex.refl H') _ fun H1 x => by
    cases q : t m σ' H' with
    | true => exact ⟨_, fun _ _ z => z, h1 m σ' H' hw q H1 x⟩
    | false => exact h2 m σ' H' hw q H1 x⟩
end

/-! ### sizes -/
/-- below 2 ^ n -/
def Bd (n : Nat) (i : Int) : Prop := i.natAbs < 2 ^ n
theorem Bd.log {n : Nat} {i : Int} (h : Bd n i) (h0 : 0 < n) : i.natAbs.log2 < n := PySem.Flt.log2_lt_of h0 h
theorem Bd.mono {n m : Nat} {i : Int} (h : Bd n i) (hm : n ≤ m) : Bd m i := Nat.lt_of_lt_of_le h (Nat.pow_le_pow_right (by decide) hm)
theorem Bd.mok {n m : Nat} {i j : Int} (hi : Bd n i) (hj : Bd m j) (h0 : 0 < n) (h1 : 0 < m) (h : n + m ≤ 130000000) : MOk i j := by
  have a := hi.log h0
  have b := hj.log h1
  show _ < _
  omega
theorem Bd.mul {n m : Nat} {i j : Int} (hi : Bd n i) (hj : Bd m j) : Bd (n + m) (i * j) := wide_lt hi hj
theorem Bd.add {n : Nat} {i j : Int} (hi : Bd n i) (hj : Bd n j) : Bd (n + 1) (i + j) := by
  have a : i.natAbs < 2 ^ n := hi
  have b : j.natAbs < 2 ^ n := hj
  show (i + j).natAbs < 2 ^ (n + 1)
  rw [Nat.pow_succ]
  omega
theorem Bd.neg {n : Nat} {i : Int} (hi : Bd n i) : Bd n (-i) := by
  show (-i).natAbs < _
  rw [Int.natAbs_neg]
  exact hi
theorem Bd.sub {n : Nat} {i j : Int} (hi : Bd n i) (hj : Bd n j) : Bd (n + 1) (i - j) := by
  rw [Int.sub_eq_add_neg]
  exact hi.add hj.neg
theorem Bd.div {n : Nat} {i j : Int} (hi : Bd n i) : Bd n (i / j) := by
  show (i / j).natAbs < _
  exact Nat.lt_of_le_of_lt (Int.natAbs_ediv_le_natAbs i j) hi
theorem Bd.le {n : Nat} {i j : Int} (hi : Bd n i) (h : j.natAbs ≤ i.natAbs) : Bd n j := Nat.lt_of_le_of_lt h hi
theorem Bd.cdiv {n : Nat} {i j : Int} (hj : Bd n j) (h0 : 0 < n) (h : n ≤ 9000) (hp : 0 < j) : CDivW i j := ⟨hp, Nat.lt_of_lt_of_le (hj.log h0) h⟩
theorem Bd.of {n : Nat} {i : Int} (h : -(2 ^ n) < i) (h2 : i < 2 ^ n) : Bd n i := by
  show i.natAbs < 2 ^ n
  have e : ((2 ^ n : Nat) : Int) = (2 : Int) ^ n := by push_cast; rfl
  have z : ((i.natAbs : Nat) : Int) < ((2 ^ n : Nat) : Int) := by
    rw [e]
    omega
  exact_mod_cast z
end Lw

namespace Lw
open PySem PySem.Spec PyProof.Rows L2 Evl
section
variable {X : Cx} {e a b c iter tg : Expr} {es : List Expr} {rest body orelse : List Stmt} {σ : L2.St} {H H' : Hp} {d : PyData} {ds ds1 ds2 : List PyData} {pos p' kp px py pz pu pt : Pos} {kt : Nat} {D : Ends} {x y z u : Str} {g : TG} {R : V → Hp → Prop}
theorem g_forE {wi : TI} (hi : PI X tg iter wi) (hg : PG X tg g) (hp : PassesOwn (model X.prog X.w) X.A X.env X.xe) (hc : X.calm = true) (hs : ∀ x, foldedSetIterable iter X.env x = pure x) (h : tFor wi g (cSs X body) { D with nx := cSs X rest D } σ H) : cSs X (.For tg iter body [] pos :: rest) D σ H :=
  g_st (ps_for hp hc hi hg cSs_ps hs) h
/-- a turn's ends: the heap has grown since H', P holds -/
abbrev Tn (D : Ends) (out : L2.St → Hp → Prop) (H' : Hp) (P : L2.St → Hp → Prop) : Ends := { D with nx := fun σ3 H3 => Ex H' H3 ∧ P σ3 H3, ct := fun σ3 H3 => Ex H' H3 ∧ P σ3 H3, bk := out }
theorem g_forL (hg : PG X tg g) (hi : Gd X iter σ H (.list ds)) (P : Nat → L2.St → Hp → Prop) (h0 : ∀ H1, Ex H H1 → P 0 σ H1) (hp : PassesOwn (model X.prog X.w) X.A X.env X.xe)
    (hs : ∀ (i : Nat) (d : PyData) (v : V) (σ' : L2.St) (H' : Hp), ds[i]? = some d → Ex H H' → Dq X.K H' v d → P i σ' H' → g v σ' H' fun σ2 H2 => cSs X body (Tn D (cSs X rest D) H' (P (i + 1))) σ2 H2)
    (hm : ∀ (Q Q' : L2.St → Hp → Prop) v σ' H', (∀ s h, Q s h → Q' s h) → g v σ' H' Q → g v σ' H' Q')
    (hd : ∀ σ' H', Ex H H' → P ds.length σ' H' → cSs X rest D σ' H') (hc : X.calm = true := by rfl) (hf : ∀ x, foldedSetIterable iter X.env x = pure x := by intro _; rfl) : cSs X (.For tg iter body [] pos :: rest) D σ H :=
  g_forE (pi_list cE_pe) hg hp hc hf (hi.go H (Ex.refl H) _ fun v H1 x1 r => by
    obtain ⟨p, xs, rfl, h1, h2⟩ := dp_lst r
    refine ⟨p, rfl, ⟨xs, h1⟩, for_list (xs := xs) (fun i σ' H' => Ex H1 H' ∧ P i σ' H') ⟨Ex.refl H1, h0 H1 x1⟩ (fun i σ' H' _ q => ex_l q.1 h1) (fun i w σ' H' hi q => ?_) fun σ' H' q => ?_⟩
    · obtain ⟨d, hd', rd⟩ := dpa_get' h2 hi
      refine hm _ _ _ _ _ (fun s h q2 => ?_) (hs i d w σ' H' hd' (x1.trans q.1) (dp_mono q.1 rd) q.2)
      refine fun pins st I => wpAny_mono (q2 pins st I) (fun f s' z => ?_) fun _ _ z => z
      cases f with
      | next => obtain ⟨σ3, H3, I3, z1, z2⟩ := z; exact ⟨σ3, H3, I3, q.1.trans z1, z2⟩
      | cont => obtain ⟨σ3, H3, I3, z1, z2⟩ := z; exact ⟨σ3, H3, I3, q.1.trans z1, z2⟩
      | brk => exact z
      | ret _ => exact z
    · refine hd σ' H' (x1.trans q.1) ?_
      rw [← dpa_len h2]
      exact q.2)
theorem m_name {j : Nat} (Q Q' : L2.St → Hp → Prop) (v : V) (σ' : L2.St) (H' : Hp) (k : ∀ s h, Q s h → Q' s h) (h : gName j v σ' H' Q) : gName j v σ' H' Q' := k _ _ h
/-- for x in a list: x in slot j -/
theorem g_forLn (j : Nat) (hN : X.N.Nodup) (hj : X.N[j]? = some x) (hi : Gd X iter σ H (.list ds)) (P : Nat → L2.St → Hp → Prop) (h0 : ∀ H1, Ex H H1 → P 0 σ H1) (hp : PassesOwn (model X.prog X.w) X.A X.env X.xe)
    (hs : ∀ (i : Nat) (d : PyData) (v : V) (σ' : L2.St) (H' : Hp), ds[i]? = some d → Ex H H' → Dq X.K H' v d → P i σ' H' → cSs X body (Tn D (cSs X rest D) H' (P (i + 1))) (σ'.set j (some v)) H')
    (hd : ∀ σ' H', Ex H H' → P ds.length σ' H' → cSs X rest D σ' H') (h1 : Ld X x := by first | exact Or.inl rfl | exact Or.inr rfl) (f1 : Lf X x := by first | exact .inl rfl | exact .inr rfl)
    (hc : X.calm = true := by rfl) (hf : ∀ x, foldedSetIterable iter X.env x = pure x := by intro _; rfl) : cSs X (.For (.Name x px) iter body [] pos :: rest) D σ H :=
  g_forL (pg_name hN hj h1 f1) hi P h0 hp hs m_name hd hc hf
/-- for (..) in zip of two lists of one length -/
theorem g_zip {elts : List Expr} (hg : PG X (.Tuple elts kt pt) g) (ha : Gd X a σ H (.list ds1)) (hb : Gd X b σ H (.list ds2)) (hl : ds1.length = ds2.length) (P : Nat → L2.St → Hp → Prop) (h0 : ∀ H1, Ex H H1 → P 0 σ H1) (hp : PassesOwn (model X.prog X.w) X.A X.env X.xe) (hz : X.mg "zip" = none)
    (hs : ∀ (i : Nat) (d1 d2 : PyData) (v : V) (σ' : L2.St) (H' : Hp), ds1[i]? = some d1 → ds2[i]? = some d2 → Ex H H' → Dq X.K H' v (.tuple [d1, d2]) → P i σ' H' → g v σ' H' fun σ2 H2 => cSs X body (Tn D (cSs X rest D) H' (P (i + 1))) σ2 H2)
    (hst : ∀ i σ' H1 H2, Ex H1 H2 → P i σ' H1 → P i σ' H2)
    (hm : ∀ (Q Q' : L2.St → Hp → Prop) v σ' H', (∀ s h, Q s h → Q' s h) → g v σ' H' Q → g v σ' H' Q')
    (hd : ∀ σ' H', Ex H H' → P ds1.length σ' H' → cSs X rest D σ' H') (hc : X.calm = true := by rfl) (hgz : L2.Gl X "zip" := by rfl)
    (s1 : starEach [a, b] X.env = (false, eval a X.env) :: starEach [b] X.env := by rfl) (s2 : starEach [b] X.env = (false, eval b X.env) :: starEach [] X.env := by rfl) (hpl : (backTo p' (starEach [b] X.env)).any (·.1) = false := by rfl)
    (hf : ∀ x, foldedSetIterable (.Call (.Name "zip" px) [a, b] [] p') X.env x = pure x := by intro _; rfl) : cSs X (.For (.Tuple elts kt pt) (.Call (.Name "zip" px) [a, b] [] p') body [] pos :: rest) D σ H :=
  g_forE (pi_zip hgz hz cA_pa s1 hpl) hg hp hc hf ((s_cons ha (s_cons hb s_nil s2) s1).go H (Ex.refl H) _ fun vs H1 x1 r => by
    obtain ⟨v1, v2, rfl, r1, r2⟩ := dp2 r
    obtain ⟨p, xs, rfl, h1, h2⟩ := dp_lst r1
    obtain ⟨q, ys, rfl, h3, h4⟩ := dp_lst r2
    refine ⟨p, q, xs, ys, rfl, h1, h3, RZ.for_zipL (xs := xs) (ys := ys) (by rw [dpa_len h2, dpa_len h4]; exact hl) (fun i σ' H' => Ex H1 H' ∧ P i σ' H') ⟨Ex.refl H1, h0 H1 x1⟩ (fun i σ' H' q => ⟨ex_l q.1 h1, ex_l q.1 h3⟩) (fun i v w T σ' H' hi hj q hT => ?_) fun σ' H' q => ?_⟩
    · obtain ⟨d1, hd1, rd1⟩ := dpa_get' h2 hi
      obtain ⟨d2, hd2, rd2⟩ := dpa_get' h4 hj
      have xT : Ex H' (upd H' T (.tup [v, w])) := Ex.new hT
      refine hm _ _ _ _ _ (fun s h q2 => ?_) (hs i d1 d2 (.ref T) σ' _ hd1 hd2 ((x1.trans q.1).trans xT) (.tup (SqT.of upd_same) (.cons (dp_mono (q.1.trans xT) rd1) (.cons (dp_mono (q.1.trans xT) rd2) .nil))) (hst _ _ _ _ xT q.2))
      refine fun pins st I => wpAny_mono (q2 pins st I) (fun f s' z => ?_) fun _ _ z => z
      cases f with
      | next => obtain ⟨σ3, H3, I3, z1, z2⟩ := z; exact ⟨σ3, H3, I3, (q.1.trans xT).trans z1, z2⟩
      | cont => obtain ⟨σ3, H3, I3, z1, z2⟩ := z; exact ⟨σ3, H3, I3, (q.1.trans xT).trans z1, z2⟩
      | brk => exact z
      | ret _ => exact z
    · refine hd σ' H' (x1.trans q.1) ?_
      rw [← dpa_len h2]
      exact q.2)
/-- the target x, (y, z) of ints -/
theorem g_tgt3 {i j l : Nat} {v : V} {n m o : Int} {K : PySem.W.Frag} {Q : L2.St → Hp → Prop} (h : Dq K H v (.tuple [.int n, .tuple [.int m, .int o]])) (k : Q (((σ.set i (some (.int n))).set j (some (.int m))).set l (some (.int o))) H) :
    gTup K 2 (gCons (gName i) (gCons (gTup K 2 (gCons (gName j) (gCons (gName l) gNil))) gNil)) v σ H Q :=
  gtup_of h rfl fun vs rs => by
    obtain ⟨v1, v2, rfl, r1, r2⟩ := dp2 rs
    rw [dp_int r1]
    refine ⟨_, _, rfl, v2, [], rfl, gtup_of r2 rfl fun ws rw => ?_⟩
    obtain ⟨w1, w2, rfl, q1, q2⟩ := dp2 rw
    rw [dp_int q1, dp_int q2]
    exact ⟨_, _, rfl, _, _, rfl, rfl, rfl, k⟩
theorem m_tgt3 {K : PySem.W.Frag} {i j l : Nat} (Q Q' : L2.St → Hp → Prop) (v : V) (σ' : L2.St) (H' : Hp) (k : ∀ s h, Q s h → Q' s h) (h : gTup K 2 (gCons (gName i) (gCons (gTup K 2 (gCons (gName j) (gCons (gName l) gNil))) gNil)) v σ' H' Q) :
    gTup K 2 (gCons (gName i) (gCons (gTup K 2 (gCons (gName j) (gCons (gName l) gNil))) gNil)) v σ' H' Q' := by
  obtain ⟨a, xs, e1, hs, hl, v1, r1, e2, v2, r2, e3, b, ys, e4, hs2, hl2, w1, t1, e5, w2, t2, e6, e7, e8, q2⟩ := h
  exact ⟨a, xs, e1, hs, hl, v1, r1, e2, v2, r2, e3, b, ys, e4, hs2, hl2, w1, t1, e5, w2, t2, e6, e7, e8, k _ _ q2⟩
/-- the target x, y of any data -/
theorem g_tgt2 {i j : Nat} {v : V} {d1 d2 : PyData} {K : PySem.W.Frag} {Q : L2.St → Hp → Prop} (h : Dq K H v (.tuple [d1, d2])) (k : ∀ v1 v2, Dq K H v1 d1 → Dq K H v2 d2 → Q ((σ.set i (some v1)).set j (some v2)) H) :
    gTup K 2 (gCons (gName i) (gCons (gName j) gNil)) v σ H Q :=
  gtup_of h rfl fun vs rs => by
    obtain ⟨v1, v2, rfl, r1, r2⟩ := dp2 rs
    exact ⟨_, _, rfl, _, _, rfl, rfl, k v1 v2 r1 r2⟩
theorem m_tgt2 {K : PySem.W.Frag} {i j : Nat} (Q Q' : L2.St → Hp → Prop) (v : V) (σ' : L2.St) (H' : Hp) (k : ∀ s h, Q s h → Q' s h) (h : gTup K 2 (gCons (gName i) (gCons (gName j) gNil)) v σ' H' Q) : gTup K 2 (gCons (gName i) (gCons (gName j) gNil)) v σ' H' Q' := by
  obtain ⟨a, xs, e1, hs, hl, v1, r1, e2, v2, r2, e3, e4, q⟩ := h
  exact ⟨a, xs, e1, hs, hl, v1, r1, e2, v2, r2, e3, e4, k _ _ q⟩
end
end Lw

namespace Lw
open PySem PySem.Spec PyProof.Rows L2 Evl
/-! ### the program, mirrored -/
def eightL (a b : Int) : List (Int × Int) := [(a, b), (a, -b), (-a, b), (-a, -b), (b, a), (b, -a), (-b, a), (-b, -a)]
def prs (l : List (Int × Int)) : PyData := .list (l.map fun p => pr p.1 p.2)
def ledL : List Int → List (Int × Int) → Int × Int
  | c :: cs, p :: ps => let r := ledL cs ps; (c * p.1 + r.1, c * p.2 + r.2)
  | _, _ => (0, 0)
def led (a b : Int) (cs : List Int) : Int × Int := ledL cs (eightL a b)
theorem ledL_snoc : ∀ (cs : List Int) (ps : List (Int × Int)) (i : Nat) (c : Int) (p : Int × Int), cs[i]? = some c → ps[i]? = some p →
    ledL (cs.take (i + 1)) (ps.take (i + 1)) = ((ledL (cs.take i) (ps.take i)).1 + c * p.1, (ledL (cs.take i) (ps.take i)).2 + c * p.2)
  | [], _, _, _, _, h, _ => by simp at h
  | _ :: _, [], _, _, _, _, h => by simp at h
  | d :: cs, q :: ps, 0, c, p, h1, h2 => by
    have e1 := Option.some.inj h1
    have e2 := Option.some.inj h2
    subst e1 e2
    show (d * q.1 + (0 : Int), d * q.2 + (0 : Int)) = ((0 : Int) + d * q.1, (0 : Int) + d * q.2)
    rw [Int.add_zero, Int.add_zero, Int.zero_add, Int.zero_add]
  | d :: cs, q :: ps, i + 1, c, p, h1, h2 => by
    have ih := ledL_snoc cs ps i c p h1 h2
    show (d * q.1 + (ledL (cs.take (i + 1)) (ps.take (i + 1))).1, d * q.2 + (ledL (cs.take (i + 1)) (ps.take (i + 1))).2) = ((d * q.1 + (ledL (cs.take i) (ps.take i)).1) + c * p.1, (d * q.2 + (ledL (cs.take i) (ps.take i)).2) + c * p.2)
    rw [ih, Int.add_assoc, Int.add_assoc]
/-- counts of at most so many bits -/
def CtOk (n : Nat) (cs : List Int) : Prop := cs.length = 8 ∧ ∀ c ∈ cs, 0 ≤ c ∧ Bd n c
theorem isCt_ok {n : Nat} {cs : List Int} (h : CtOk n cs) : isCt (lsI cs) = true := by
  show (decide ((cs.map PyData.int).length = 8) && ((cs.map PyData.int).map isAmt).all id) = true
  rw [List.length_map, h.1, List.map_map, List.all_map, Bool.and_eq_true]
  refine ⟨rfl, List.all_eq_true.mpr fun c hc => ?_⟩
  exact decide_eq_true (h.2 c hc).1
theorem eightL_bd {n : Nat} {a b : Int} (ha : Bd n a) (hb : Bd n b) : ∀ p ∈ eightL a b, Bd n p.1 ∧ Bd n p.2 := fun p hp => by
  simp only [eightL, List.mem_cons, List.not_mem_nil, or_false] at hp
  rcases hp with rfl | rfl | rfl | rfl | rfl | rfl | rfl | rfl <;> first | exact ⟨ha, hb⟩ | exact ⟨ha, hb.neg⟩ | exact ⟨ha.neg, hb⟩ | exact ⟨ha.neg, hb.neg⟩ | exact ⟨hb, ha⟩ | exact ⟨hb, ha.neg⟩ | exact ⟨hb.neg, ha⟩ | exact ⟨hb.neg, ha.neg⟩
/-- Euclid's steps -/
def gcdS : Nat → Int × Int × Int × Int × Int × Int → Int × Int × Int × Int × Int × Int
  | 0, s => s
  | k + 1, (o, n, oa, na, ob, nb) => if n = 0 then (o, n, oa, na, ob, nb) else gcdS k (n, o - o / n * n, na, oa - o / n * na, nb, ob - o / n * nb)
end Lw

namespace Lw
open PySem PySem.Spec PyProof.Rows L2 Evl
def into (q a b : Int) : Bool := decide (a % q = 0) && decide (b % q = 0)
/-- what Euclid's steps keep -/
structure EI (a b o n oa na ob nb : Int) : Prop where
  o0 : 0 ≤ o
  n0 : 0 ≤ n
  pos : 0 < o ∨ 0 < n
  ho : o = oa * a + ob * b
  hn : n = na * a + nb * b
  dv : ∀ q : Int, (q ∣ o ∧ q ∣ n) ↔ (q ∣ a ∧ q ∣ b)
  sg : ∃ p q r t : Int, 0 ≤ p ∧ 0 ≤ q ∧ 0 ≤ r ∧ 0 ≤ t ∧ o * q + n * p = b ∧ o * t + n * r = a ∧ p ≤ a + b + 1 ∧ q ≤ a + b + 1 ∧ r ≤ a + b + 1 ∧ t ≤ a + b + 1 ∧
    ((oa = p ∧ na = -q ∧ ob = -r ∧ nb = t) ∨ (oa = -p ∧ na = q ∧ ob = r ∧ nb = -t))
  om : o ≤ a + b
  nm : n ≤ a + b
theorem EI.start {a b : Int} (ha : 0 ≤ a) (hb : 0 ≤ b) (h : 0 < a ∨ 0 < b) : EI a b a b 1 0 0 1 where
  o0 := ha
  n0 := hb
  pos := h
  ho := by omega
  hn := by omega
  dv := fun _ => Iff.rfl
  sg := ⟨1, 0, 0, 1, by omega, by omega, by omega, by omega, by omega, by omega, by omega, by omega, by omega, by omega, .inl ⟨rfl, rfl, rfl, rfl⟩⟩
  om := by omega
  nm := by omega
theorem EI.step {a b o n oa na ob nb : Int} (h : EI a b o n oa na ob nb) (hn : 0 < n) : EI a b n (o - o / n * n) na (oa - o / n * na) nb (ob - o / n * nb) := by
  have m1 : o - o / n * n = o % n := by
    have z := Int.emod_add_mul_ediv o n
    rw [Int.mul_comm n] at z
    omega
  have t0 : 0 ≤ o / n := Int.ediv_nonneg h.o0 (by omega)
  have r0 : 0 ≤ o - o / n * n := by rw [m1]; exact Int.emod_nonneg _ (by omega)
  have r1 : o - o / n * n < n := by rw [m1]; exact Int.emod_lt_of_pos _ hn
  obtain ⟨p, q, r, t, hp, hq, hr, ht, e1, e2, bp, bq, br, bt, sg⟩ := h.sg
  generalize o / n = k at *
  have hho := h.ho
  have hhn := h.hn
  have hnm := h.nm
  have kq : 0 ≤ k * q := Int.mul_nonneg t0 hq
  have kt : 0 ≤ k * t := Int.mul_nonneg t0 ht
  have f1 : n * (p + k * q) + (o - k * n) * q = b := by grind
  have f2 : n * (r + k * t) + (o - k * n) * t = a := by grind
  have g1 : 0 ≤ (o - k * n) * q := Int.mul_nonneg r0 hq
  have g2 : 0 ≤ (o - k * n) * t := Int.mul_nonneg r0 ht
  have s1 : p + k * q ≤ n * (p + k * q) := by
    have z := Int.mul_le_mul_of_nonneg_right (show (1 : Int) ≤ n by omega) (show 0 ≤ p + k * q by omega)
    rw [Int.one_mul] at z
    exact z
  have s2 : r + k * t ≤ n * (r + k * t) := by
    have z := Int.mul_le_mul_of_nonneg_right (show (1 : Int) ≤ n by omega) (show 0 ≤ r + k * t by omega)
    rw [Int.one_mul] at z
    exact z
  have a0 : 0 ≤ a := by
    have z1 : 0 ≤ o * t := Int.mul_nonneg h.o0 ht
    have z2 : 0 ≤ n * r := Int.mul_nonneg h.n0 hr
    omega
  have b0 : 0 ≤ b := by
    have z1 : 0 ≤ o * q := Int.mul_nonneg h.o0 hq
    have z2 : 0 ≤ n * p := Int.mul_nonneg h.n0 hp
    omega
  refine ⟨h.n0, r0, .inl hn, hhn, ?_, fun z => ?_, ⟨q, p + k * q, t, r + k * t, hq, by omega, ht, by omega, f1, f2, bq, by omega, bt, by omega, ?_⟩, hnm, by omega⟩
  · grind
  · rw [← h.dv z]
    constructor
    · rintro ⟨⟨c, hc⟩, ⟨d, hd⟩⟩
      exact ⟨⟨k * c + d, by grind⟩, ⟨c, hc⟩⟩
    · rintro ⟨⟨c, hc⟩, ⟨d, hd⟩⟩
      exact ⟨⟨d, hd⟩, ⟨c - k * d, by grind⟩⟩
  · rcases sg with ⟨rfl, rfl, rfl, rfl⟩ | ⟨rfl, rfl, rfl, rfl⟩
    · exact .inr ⟨rfl, by grind, rfl, by grind⟩
    · exact .inl ⟨rfl, by grind, rfl, by grind⟩
abbrev E6 := Int × Int × Int × Int × Int × Int
theorem gcdS_inv {a b : Int} : ∀ (k : Nat) (o n oa na ob nb : Int), EI a b o n oa na ob nb → n.toNat ≤ k → ∃ g u x v y, gcdS k (o, n, oa, na, ob, nb) = (g, 0, u, x, v, y) ∧ EI a b g 0 u x v y
  | 0, o, n, oa, na, ob, nb, h, hk => by
    have z : n = 0 := by have := h.n0; omega
    subst z
    exact ⟨_, _, _, _, _, rfl, h⟩
  | k + 1, o, n, oa, na, ob, nb, h, hk => by
    by_cases z : n = 0
    · subst z
      exact ⟨_, _, _, _, _, rfl, h⟩
    · have hn : 0 < n := by have := h.n0; omega
      have h2 := h.step hn
      have e : gcdS (k + 1) (o, n, oa, na, ob, nb) = gcdS k (n, o - o / n * n, na, oa - o / n * na, nb, ob - o / n * nb) := by
        show (if n = 0 then _ else _) = _
        rw [if_neg z]
      rw [e]
      refine gcdS_inv k _ _ _ _ _ _ h2 ?_
      have m1 : o - o / n * n = o % n := by
        have z := Int.emod_add_mul_ediv o n
        rw [Int.mul_comm n] at z
        omega
      have r1 : o - o / n * n < n := by rw [m1]; exact Int.emod_lt_of_pos _ hn
      omega
/-- the greatest common number and how it is made up -/
def gcdE (a b : Int) : Int × Int × Int := let s := gcdS b.toNat (a, b, 1, 0, 0, 1); (s.1, s.2.2.1, s.2.2.2.2.1)
structure GE (a b g u v : Int) : Prop where
  pos : 0 < g
  da : g ∣ a
  db : g ∣ b
  mu : g = u * a + v * b
  gm : g ≤ a + b
  um : u.natAbs ≤ (a + b + 1).natAbs
  vm : v.natAbs ≤ (a + b + 1).natAbs
theorem gcdE_ok {a b : Int} (ha : 0 ≤ a) (hb : 0 ≤ b) (h : 0 < a ∨ 0 < b) : GE a b (gcdE a b).1 (gcdE a b).2.1 (gcdE a b).2.2 := by
  obtain ⟨g, u, x, v, y, e, I⟩ := gcdS_inv b.toNat a b 1 0 0 1 (EI.start ha hb h) (Nat.le_refl _)
  unfold gcdE
  simp only [e]
  have d := (I.dv g).mp ⟨Int.dvd_refl g, ⟨0, by omega⟩⟩
  obtain ⟨p, q, r, t, hp, hq, hr, ht, e1, e2, bp, bq, br, bt, sg⟩ := I.sg
  refine ⟨by rcases I.pos with z | z <;> omega, d.1, d.2, I.ho, I.om, ?_, ?_⟩
  · rcases sg with ⟨z, _⟩ | ⟨z, _⟩ <;> omega
  · rcases sg with ⟨_, _, z, _⟩ | ⟨_, _, z, _⟩ <;> omega
end Lw

namespace Lw
open PySem PySem.Spec PyProof.Rows L2 Evl
theorem GE.gcd {a b g u v : Int} (h : GE a b g u v) (q : Int) : (q ∣ a ∧ q ∣ b) ↔ q ∣ g := by
  constructor
  · rintro ⟨⟨c, hc⟩, ⟨d, hd⟩⟩
    exact ⟨u * c + v * d, by have := h.mu; grind⟩
  · exact fun z => ⟨Int.dvd_trans z h.da, Int.dvd_trans z h.db⟩
abbrev P4 := Int × Int × Int × Int
def alongA (u v x y : Int) : P4 := (u * x, v * x, v * y, u * y)
def moreP (a b e s : Int) : Int × Int := if b % 2 = 0 then (s, e) else if a % 2 = 0 then (e, s) else (e, 0)
def evenP (a b : Int) (t : P4) : P4 :=
  let m := moreP a b ((t.1 - t.2.2.1) % 2) ((t.2.1 - t.2.2.2) % 2)
  (t.1 + m.1 * b, t.2.1 - m.1 * a, t.2.2.1 + m.2 * a, t.2.2.2 - m.2 * b)
def mx0 (n : Int) : Int := if n > 0 then n else 0
def ctTo (t : P4) : List Int :=
  let p := (t.1 + t.2.2.1) / 2
  let q := (t.1 - t.2.2.1) / 2
  let r := (t.2.1 + t.2.2.2) / 2
  let s := (t.2.1 - t.2.2.2) / 2
  [mx0 p, mx0 q, mx0 (-q), mx0 (-p), mx0 r, mx0 s, mx0 (-s), mx0 (-r)]
theorem mx0_sub (n : Int) : mx0 n = mx0 (-n) + n := by unfold mx0; split <;> split <;> omega
theorem led_ct {a b : Int} {t : P4} (h1 : (t.1 - t.2.2.1) % 2 = 0) (h2 : (t.2.1 - t.2.2.2) % 2 = 0) : led a b (ctTo t) = (t.1 * a + t.2.1 * b, t.2.2.1 * b + t.2.2.2 * a) := by
  obtain ⟨al, bl, bc, ac⟩ := t
  have e1 : (al + bc) / 2 + (al - bc) / 2 = al := by simp only at h1; omega
  have e2 : (al + bc) / 2 - (al - bc) / 2 = bc := by simp only at h1; omega
  have e3 : (bl + ac) / 2 + (bl - ac) / 2 = bl := by simp only at h2; omega
  have e4 : (bl + ac) / 2 - (bl - ac) / 2 = ac := by simp only at h2; omega
  show ledL [mx0 ((al + bc) / 2), mx0 ((al - bc) / 2), mx0 (-((al - bc) / 2)), mx0 (-((al + bc) / 2)), mx0 ((bl + ac) / 2), mx0 ((bl - ac) / 2), mx0 (-((bl - ac) / 2)), mx0 (-((bl + ac) / 2))] (eightL a b) = (al * a + bl * b, bc * b + ac * a)
  generalize (al + bc) / 2 = p at *
  generalize (al - bc) / 2 = q at *
  generalize (bl + ac) / 2 = r at *
  generalize (bl - ac) / 2 = s at *
  have m1 := mx0_sub p
  have m2 := mx0_sub q
  have m3 := mx0_sub r
  have m4 := mx0_sub s
  generalize mx0 p = p1 at *
  generalize mx0 q = q1 at *
  generalize mx0 r = r1 at *
  generalize mx0 s = s1 at *
  generalize mx0 (-p) = p2 at *
  generalize mx0 (-q) = q2 at *
  generalize mx0 (-r) = r2 at *
  generalize mx0 (-s) = s2 at *
  subst m1 m2 m3 m4
  simp only [ledL, eightL]
  rw [← e1, ← e2, ← e3, ← e4]
  refine Prod.ext ?_ ?_
  · show _ = (p + q) * a + (r + s) * b
    grind
  · show _ = (p - q) * b + (r - s) * a
    grind
theorem even_led {a b : Int} (t : P4) : (evenP a b t).1 * a + (evenP a b t).2.1 * b = t.1 * a + t.2.1 * b ∧ (evenP a b t).2.2.1 * b + (evenP a b t).2.2.2 * a = t.2.2.1 * b + t.2.2.2 * a := by
  obtain ⟨al, bl, bc, ac⟩ := t
  unfold evenP
  generalize moreP a b _ _ = m
  obtain ⟨m1, m2⟩ := m
  constructor
  · show (al + m1 * b) * a + (bl - m1 * a) * b = al * a + bl * b
    grind
  · show (bc + m2 * a) * b + (ac - m2 * b) * a = bc * b + ac * a
    grind
theorem even_ok {a b al bl bc ac : Int} (hab : ¬ (a % 2 = 0 ∧ b % 2 = 0)) (h : a % 2 = 1 → b % 2 = 1 → (al + bc + bl + ac) % 2 = 0) :
    ((evenP a b (al, bl, bc, ac)).1 - (evenP a b (al, bl, bc, ac)).2.2.1) % 2 = 0 ∧ ((evenP a b (al, bl, bc, ac)).2.1 - (evenP a b (al, bl, bc, ac)).2.2.2) % 2 = 0 := by
  unfold evenP moreP
  simp only
  have c1 : (al - bc) % 2 = 0 ∨ (al - bc) % 2 = 1 := by omega
  have c2 : (bl - ac) % 2 = 0 ∨ (bl - ac) % 2 = 1 := by omega
  split
  · rcases c1 with c1 | c1 <;> rcases c2 with c2 | c2 <;> simp only [c1, c2, Int.zero_mul, Int.one_mul] <;> omega
  · split
    · rcases c1 with c1 | c1 <;> rcases c2 with c2 | c2 <;> simp only [c1, c2, Int.zero_mul, Int.one_mul] <;> omega
    · have z := h (by omega) (by omega)
      rcases c1 with c1 | c1 <;> rcases c2 with c2 | c2 <;> simp only [c1, c2, Int.zero_mul, Int.one_mul] <;> omega
/-- which number bars, or none -/
def barBy (a b x y : Int) : Option Int :=
  let g := (gcdE a b).1
  if x % g ≠ 0 ∨ y % g ≠ 0 then some g else if (a / g + b / g) % 2 = 0 ∧ (x / g + y / g) % 2 ≠ 0 then some (2 * g) else none
def tellCt (a b x y : Int) : List Int :=
  let g := (gcdE a b).1
  ctTo (evenP (a / g) (b / g) (alongA (gcdE a b).2.1 (gcdE a b).2.2 (x / g) (y / g)))
theorem led_scale {a b g : Int} : ∀ cs : List Int, led (g * a) (g * b) cs = (g * (led a b cs).1, g * (led a b cs).2) := by
  intro cs
  have gen : ∀ (cs : List Int) (ps : List (Int × Int)), ledL cs (ps.map fun p => (g * p.1, g * p.2)) = (g * (ledL cs ps).1, g * (ledL cs ps).2) := by
    intro cs
    induction cs with
    | nil => intro ps; simp [ledL]
    | cons c cs ih =>
      intro ps
      cases ps with
      | nil => simp [ledL]
      | cons p ps =>
        simp only [List.map_cons, ledL, ih ps]
        refine Prod.ext ?_ ?_
        · show c * (g * p.1) + g * (ledL cs ps).1 = g * (c * p.1 + (ledL cs ps).1)
          grind
        · show c * (g * p.2) + g * (ledL cs ps).2 = g * (c * p.2 + (ledL cs ps).2)
          grind
  have e : eightL (g * a) (g * b) = (eightL a b).map fun p => (g * p.1, g * p.2) := by
    simp only [eightL, List.map_cons, List.map_nil, Int.mul_neg]
  unfold led
  rw [e]
  exact gen cs _
theorem tell_led {a b x y : Int} (ha : 0 ≤ a) (hb : 0 ≤ b) (h : 0 < a ∨ 0 < b) (hn : barBy a b x y = none) : led a b (tellCt a b x y) = (x, y) := by
  have G := gcdE_ok ha hb h
  unfold barBy at hn
  simp only at hn
  unfold tellCt
  simp only
  generalize (gcdE a b).1 = g at *
  generalize (gcdE a b).2.1 = u at *
  generalize (gcdE a b).2.2 = v at *
  have gp := G.pos
  split at hn
  · cases hn
  · rename_i h1
    split at hn
    · cases hn
    · rename_i h2
      have h1x : x % g = 0 := by omega
      have h1y : y % g = 0 := by omega
      obtain ⟨a', rfl⟩ := G.da
      obtain ⟨b', rfl⟩ := G.db
      obtain ⟨x', rfl⟩ := Int.dvd_of_emod_eq_zero h1x
      obtain ⟨y', rfl⟩ := Int.dvd_of_emod_eq_zero h1y
      rw [Int.mul_ediv_cancel_left _ (by omega), Int.mul_ediv_cancel_left _ (by omega)] at h2
      rw [Int.mul_ediv_cancel_left _ (by omega), Int.mul_ediv_cancel_left _ (by omega)] at h2
      rw [Int.mul_ediv_cancel_left _ (by omega), Int.mul_ediv_cancel_left _ (by omega), Int.mul_ediv_cancel_left _ (by omega), Int.mul_ediv_cancel_left _ (by omega)]
      have one : u * a' + v * b' = 1 := by
        have z := G.mu
        have z2 : g * (u * a' + v * b') = g * 1 := by grind
        exact Int.eq_of_mul_eq_mul_left (by omega) z2
      have E := even_ok (a := a') (b := b') (al := u * x') (bl := v * x') (bc := v * y') (ac := u * y') (fun ⟨z1, z2⟩ => by
        obtain ⟨c, rfl⟩ := Int.dvd_of_emod_eq_zero z1
        obtain ⟨d, rfl⟩ := Int.dvd_of_emod_eq_zero z2
        have z3 : 2 * (u * c + v * d) = 1 := by grind
        omega) (fun z1 z2 => by
        have z3 : (x' + y') % 2 = 0 := by
          by_cases z : (x' + y') % 2 = 0
          · exact z
          · exact absurd ⟨by omega, z⟩ h2
        obtain ⟨c, hc⟩ := Int.dvd_of_emod_eq_zero z3
        have z4 : u * x' + v * y' + v * x' + u * y' = 2 * ((u + v) * c) := by grind
        rw [z4]
        omega)
      rw [led_scale]
      show (g * (led a' b' (ctTo (evenP a' b' (alongA u v x' y')))).1, g * (led a' b' (ctTo (evenP a' b' (alongA u v x' y')))).2) = _
      unfold alongA
      rw [led_ct E.1 E.2, (even_led _).1, (even_led _).2]
      refine Prod.ext ?_ ?_
      · show g * (u * x' * a' + v * x' * b') = g * x'
        have z : u * x' * a' + v * x' * b' = (u * a' + v * b') * x' := by grind
        rw [z, one, Int.one_mul]
      · show g * (v * y' * b' + u * y' * a') = g * y'
        have z : v * y' * b' + u * y' * a' = (u * a' + v * b') * y' := by grind
        rw [z, one, Int.one_mul]
/-- what bars, by the law's own look -/
def barsP (a b x y q : Int) : Bool := decide (0 < q) && (into q a b && !into q x y || into q (a + b) (a - b) && !decide ((x + y) % q = 0))
theorem bar_ok {a b x y q : Int} (ha : 0 ≤ a) (hb : 0 ≤ b) (h : 0 < a ∨ 0 < b) (hq : barBy a b x y = some q) : 0 < q ∧ barsP a b x y q = true := by
  have G := gcdE_ok ha hb h
  unfold barBy at hq
  simp only at hq
  generalize (gcdE a b).1 = g at *
  generalize (gcdE a b).2.1 = u at *
  generalize (gcdE a b).2.2 = v at *
  have gp := G.pos
  have da := Int.emod_eq_zero_of_dvd G.da
  have db := Int.emod_eq_zero_of_dvd G.db
  split at hq
  · rename_i h1
    have e := Option.some.inj hq
    subst e
    refine ⟨gp, ?_⟩
    unfold barsP into
    rw [decide_eq_true gp, decide_eq_true da, decide_eq_true db]
    rcases h1 with h1 | h1 <;> simp [h1]
  · rename_i h1
    split at hq
    · rename_i h2
      have e := Option.some.inj hq
      subst e
      have h1x : x % g = 0 := by omega
      have h1y : y % g = 0 := by omega
      obtain ⟨a', rfl⟩ := G.da
      obtain ⟨b', rfl⟩ := G.db
      obtain ⟨x', rfl⟩ := Int.dvd_of_emod_eq_zero h1x
      obtain ⟨y', rfl⟩ := Int.dvd_of_emod_eq_zero h1y
      rw [Int.mul_ediv_cancel_left _ (by omega), Int.mul_ediv_cancel_left _ (by omega)] at h2
      rw [Int.mul_ediv_cancel_left _ (by omega), Int.mul_ediv_cancel_left _ (by omega)] at h2
      refine ⟨by omega, ?_⟩
      obtain ⟨c, hc⟩ := Int.dvd_of_emod_eq_zero h2.1
      have p2 : (0 : Int) < 2 * g := by omega
      have e1 : (g * a' + g * b') % (2 * g) = 0 := Int.emod_eq_zero_of_dvd ⟨c, by grind⟩
      have e2 : (g * a' - g * b') % (2 * g) = 0 := Int.emod_eq_zero_of_dvd ⟨c - b', by grind⟩
      have e3 : ¬ (g * x' + g * y') % (2 * g) = 0 := fun z => by
        obtain ⟨d, hd⟩ := Int.dvd_of_emod_eq_zero z
        have z2 : g * (x' + y') = g * (2 * d) := by grind
        have z3 := Int.eq_of_mul_eq_mul_left (by omega) z2
        exact h2.2 (by omega)
      unfold barsP into
      rw [decide_eq_true p2, decide_eq_true e1, decide_eq_true e2, decide_eq_false e3]
      simp
    · cases hq
end Lw
namespace Lw
open PySem PySem.Spec PyProof.Rows L2 Evl
theorem Bd.nat {n : Nat} {i j : Int} (hi : Bd n i) (h : j.natAbs ≤ i.natAbs) : Bd n j := Nat.lt_of_le_of_lt h hi
theorem Bd.small {n : Nat} {i : Int} (h : i.natAbs ≤ 1) (hn : 0 < n) : Bd n i := Nat.lt_of_le_of_lt h (Nat.one_lt_pow (by omega) (by decide))
theorem EI.bd {a b o n oa na ob nb : Int} {k : Nat} (h : EI a b o n oa na ob nb) (ha : Bd k a) (hb : Bd k b) : Bd (k + 2) o ∧ Bd (k + 2) n ∧ Bd (k + 2) oa ∧ Bd (k + 2) na ∧ Bd (k + 2) ob ∧ Bd (k + 2) nb := by
  obtain ⟨p, q, r, t, hp, hq, hr, ht, e1, e2, bp, bq, br, bt, sg⟩ := h.sg
  have s1 : Bd (k + 1) (a + b) := ha.add hb
  have s2 : Bd (k + 2) (a + b + 1) := s1.add (Bd.small (by decide) (by omega))
  have o0 := h.o0
  have n0 := h.n0
  have om := h.om
  have nm := h.nm
  refine ⟨s2.nat (by omega), s2.nat (by omega), s2.nat ?_, s2.nat ?_, s2.nat ?_, s2.nat ?_⟩
  all_goals rcases sg with ⟨z1, z2, z3, z4⟩ | ⟨z1, z2, z3, z4⟩ <;> omega
end Lw
namespace Lw
open PySem PySem.Spec PyProof.Rows L2 Evl
theorem cSs_nx {X : Cx} {sts : List Stmt} {D : Ends} {σ : L2.St} {H : Hp} {M N : L2.St → Hp → Prop} (k : ∀ σ' H', M σ' H' → N σ' H') (h : cSs X sts { D with nx := M } σ H) : cSs X sts { D with nx := N } σ H := fun pins s I => wpAny_mono (h pins s I) (fun f s' q => by
  cases f with
  | next => obtain ⟨σ3, H3, I3, q2⟩ := q; exact ⟨σ3, H3, I3, k σ3 H3 q2⟩
  | cont => exact q
  | brk => exact q
  | ret _ => exact q) fun _ _ q => q
/-- an if both whose ways end in M -/
theorem g_ifC {X : Cx} {c : Expr} {body orelse rest : List Stmt} {pos : Pos} {D : Ends} {σ : L2.St} {H : Hp} {t : Bool} (M : L2.St → Hp → Prop) (hc : Gt X c σ H t) (h1 : t = true → ∀ H1, Ex H H1 → cSs X body { D with nx := M } σ H1)
    (h2 : t = false → ∀ H1, Ex H H1 → cSs X orelse { D with nx := M } σ H1) (k : ∀ σ' H', M σ' H' → cSs X rest D σ' H') : cSs X (.If c body orelse pos :: rest) D σ H :=
  g_if hc (fun z H1 x => cSs_nx k (h1 z H1 x)) fun z H1 x => cSs_nx k (h2 z H1 x)
end Lw

namespace Lw
open PySem PySem.Spec PyProof.Rows L2 Evl
/-- a class of the top with one field, made by its __init__ -/
structure Tc (K : PySem.W.Frag) (mg : Str → Option Value) (cn fn : Str) (C : Addr) (qi qs : Str) (si ss : Stmt) (pi ps : List Str) : Prop where
  gl : mg cn = some (.ref C)
  cl : Cls K C
  na : NoAttr K C fn
  mi : ∃ f fd, Mk K C f ∧ Fun K "__init__" qi si f fd ∧ Binds K fd pi []
  ms : ∃ f fd, Meth K C "shows" f ∧ Fun K "shows" qs ss f fd ∧ Binds K fd ps []
/-- its __init__ keeps a promise; its shows -/
structure Mi (P : Program) (w : World) (K : PySem.W.Frag) (mg : Str → Option Value) (base : Heap) (cn : Str) (C : Addr) (k : Nat) (ps : List Str) (sp : Sp) : Prop where
  gl : mg cn = some (.ref C)
  ex : ∃ f fd, Mk K C f ∧ Binds K fd ps [] ∧ FnOk P w K mg base CX0 k f fd ps sp
structure Ms (P : Program) (w : World) (K : PySem.W.Frag) (mg : Str → Option Value) (base : Heap) (C : Addr) (m : Str) (k : Nat) (ps : List Str) (sp : Sp) : Prop where
  cl : Cls K C
  ex : ∃ f fd, Meth K C m f ∧ Binds K fd ps [] ∧ FnOk P w K mg base CX0 k f fd ps sp
section
variable {P : Program} {w : World} {K : PySem.W.Frag} {mg : Str → Option Value} {base : Heap}
theorem fn_go {nm qn : Str} {st : Stmt} {N ps : List Str} {sp : Sp} {f : Addr} {fd : FuncData} (k : Nat) (Fu : Fun K nm qn st f fd) (S : FnScope N ps (defScope st)) (len : ∀ vs H Q E, sp vs H Q E → vs.length = ps.length)
    (body : ∀ cdv A outer s H0 E, Room k (cxB P w K mg base N qn (defScope st) f cdv A outer s H0 E).A → Names (cxB P w K mg base N qn (defScope st) f cdv A outer s H0 E) N 0 → (cxB P w K mg base N qn (defScope st) f cdv A outer s H0 E).N.Nodup → ∀ vs H (Q : VK), sp vs H Q E →
      cSs (cxB P w K mg base N qn (defScope st) f cdv A outer s H0 E) (defBody st) { nx := fun _ H' => Q .non H', rt := Q } (start N vs) H) : FnOk P w K mg base CX0 (k + 1) f fd ps sp :=
  Fu.ok S len fun cdv A outer s H vs Q E hr h => ⟨_, cSs_ps, body cdv A outer s H E hr (names_of N [] rfl) S.nd vs H Q h⟩
end
section
variable {X : Cx} {e o : Expr} {es : List Expr} {σ : L2.St} {H : Hp} {d : PyData} {ds : List PyData} {pos apos p' kp : Pos} {R : V → Hp → Prop}
theorem x_fldV {p C dx : Addr} {fs : List (Str × V)} {f : Str} {v : V} (ho : Gv X e σ H fun v' _ => v' = .ref p) (hp : H p = some (.ins C dx fs)) (c : Cls X.K C) (n : NoAttr X.K C f) (hl : fs.lookup f = some v) (hb : attributeBase e f X.env (eval e X.env) = eval e X.env := by rfl) :
    Gv X (.Attribute e f pos) σ H fun v' _ => v' = v := gv_of (pe_fld cE_pe hb) fun H1 x Q q => ho.go H1 x _ fun v' H2 y r => ⟨p, C, dx, fs, v, r, y _ _ (x _ _ hp), c, n, hl, q v H2 y rfl⟩
theorem x_fld {p C dx : Addr} {fs : List (Str × V)} {f : Str} {v : V} (ho : Gv X e σ H fun v' _ => v' = .ref p) (hp : H p = some (.ins C dx fs)) (c : Cls X.K C) (n : NoAttr X.K C f) (hl : fs.lookup f = some v) (hd : Dq X.K H v d) (hb : attributeBase e f X.env (eval e X.env) = eval e X.env := by rfl) :
    Gd X (.Attribute e f pos) σ H d := gv_of (pe_fld cE_pe hb) fun H1 x Q q => ho.go H1 x _ fun v' H2 y r => ⟨p, C, dx, fs, v, r, y _ _ (x _ _ hp), c, n, hl, q v H2 y (dp_mono (x.trans y) hd)⟩
/-- o.m(e, ..) -/
theorem x_meth {sp : Sp} {C p dx : Addr} {fs : List (Str × V)} {m : Str} {k n : Nat} {ps : List Str} {RA : List V → Hp → Prop} {pl : Sem Bool} (M : Ms X.prog X.w X.K X.mg X.base C m k ps sp) (hr : Room n X.A) (hk : k ≤ n) (ho : Gv X o σ H fun v' _ => v' = .ref p) (hp : H p = some (.ins C dx fs)) (hl : fs.lookup m = none)
    (ha : Gl X (e :: es) σ H RA) (hs : ∀ vs H1, Ex H H1 → RA vs H1 → ∀ Q : VK, (∀ v H2, Ex H1 H2 → R v H2 → Q v H2) → sp (.ref p :: vs) H1 Q E0)
    (hst : starEach (e :: es) X.env = (false, eval e X.env) :: starEach es X.env := by rfl) (hpl : (backTo pos (starEach es X.env)).any (·.1) = false := by rfl)
    (ht : eval (.Call (.Attribute o m apos) (e :: es) [] pos) X.env = (do let u ← eval o X.env; standAt apos.atName; let (g, one) ← holding [u] (getMethod u m pl); callWith pos g one (backTo pos (starEach (e :: es) X.env)) (backToKw pos (keywordEach [] X.env))) := by rfl) : Gv X (.Call (.Attribute o m apos) (e :: es) [] pos) σ H R := by
  obtain ⟨f, fd, hm, hb, F⟩ := M.ex
  refine gv_of (pe_meth cE_pe M.cl hm F (hr.mono hk) hb .nil pass0 cA_pa hst hpl ht) fun H1 x Q q => ho.go H1 x _ fun v' H2 y r => ⟨p, dx, fs, r, y _ _ (x _ _ hp), hl, ha.go H2 (x.trans y) _ fun vs H3 z rv => ?_⟩
  rw [List.append_nil, r]
  exact hs vs H3 ((x.trans y).trans z) rv Q fun v H4 u rw => q v H4 ((y.trans z).trans u) rw
/-- C(e, ..) -/
theorem x_make {sp : Sp} {C : Addr} {cn : Str} {k n : Nat} {ps : List Str} {RA : List V → Hp → Prop} (M : Mi X.prog X.w X.K X.mg X.base cn C k ps sp) (hr : Room n X.A) (hk : k + 1 ≤ n) (ha : Gl X (e :: es) σ H RA)
    (hs : ∀ vs H1 x dx, Ex H H1 → RA vs H1 → H1 x = none → H1 dx = none → dx ≠ x → ∀ Q : VK, (∀ H2, Ex H1 H2 → R (.ref x) H2 → Q .non H2) → sp (.ref x :: vs) (upd (upd H1 dx (.own x)) x (.ins C dx [])) Q E0) (hg : L2.Gl X cn := by rfl) (hdb : (cn == ("__debug__" : Str)) = false := by decide)
    (he : starEach (e :: es) X.env = (false, eval e X.env) :: starEach es X.env := by rfl) (hpl : (backTo pos (starEach es X.env)).any (·.1) = false := by rfl) : Gv X (.Call (.Name cn kp) (e :: es) [] pos) σ H R := by
  obtain ⟨f, fd, hm, hb, F⟩ := M.ex
  refine gv_of (pe_make hm F (hr.mono hk) hg M.gl hb .nil pass0 cA_pa hdb he hpl) fun H1 x Q q => ha.go H1 x _ fun vs H2 y r z dz n1 n2 n3 => ?_
  rw [List.append_nil]
  exact hs vs H2 z dz (x.trans y) r n1 n2 n3 _ fun H3 u rw => ⟨rfl, q _ H3 (y.trans u) rw⟩
end
theorem eqv_pr (a b x y : Int) : PyData.eqv (pr a b) (pr x y) = decide ((a, b) = (x, y)) := by
  show ((a == x) && ((b == y) && true)) = _
  rw [Bool.and_true]
  by_cases h : a = x
  · by_cases h2 : b = y
    · subst h h2
      simp
    · simp [h, h2]
  · simp [h]
/-- a Way at p: its counts at l -/
def WayAt (C : Addr) (H : Hp) (p l : Addr) : Prop := ∃ dx, H p = some (.ins C dx [("counts", .ref l)])
def NevAt (C : Addr) (H : Hp) (p : Addr) (q : Int) : Prop := ∃ dx, H p = some (.ins C dx [("by", .int q)])
def wayOk (a b x y : Int) (cs : List Int) : Bool := isCt (lsI cs) && decide (led a b cs = (x, y))
/-- __init__ of Way -/
def spWi (K : PySem.W.Frag) (C : Addr) : Sp := fun vs H Q _ => ∃ p dx v ds, vs = [.ref p, v] ∧ H p = some (.ins C dx []) ∧ Dq K H v (.list ds) ∧
  ∀ (l : Addr) (xs : List V) (H' : Hp), H l = none → (∀ b o, H b = some o → b ≠ p → H' b = some o) → H' p = some (.ins C dx [("counts", .ref l)]) → H' l = some (.lst xs) → DqAll K H xs ds → Q .non H'
def spNi (C : Addr) : Sp := fun vs H Q _ => ∃ p dx n, vs = [.ref p, .int n] ∧ H p = some (.ins C dx []) ∧ ∀ (H' : Hp), (∀ b o, H b = some o → b ≠ p → H' b = some o) → H' p = some (.ins C dx [("by", .int n)]) → Q .non H'
def spWs (K : PySem.W.Frag) (C : Addr) : Sp := fun vs H Q _ => ∃ p l lv pv a b x y cs, vs = [.ref p, lv, pv] ∧ WayAt C H p l ∧ Dq K H (.ref l) (lsI cs) ∧ Dq K H lv (pr a b) ∧ Dq K H pv (pr x y) ∧
  (isLp (pr a b) = true ∧ Bd 60000 a ∧ Bd 60000 b ∧ cs.length ≤ 1000 ∧ ∀ c ∈ cs, Bd 60000 c) ∧ ∀ H2, Ex H H2 → Q (.bl (wayOk a b x y cs)) H2
def spNs (K : PySem.W.Frag) (C : Addr) : Sp := fun vs H Q _ => ∃ p q lv pv a b x y, vs = [.ref p, lv, pv] ∧ NevAt C H p q ∧ Dq K H lv (pr a b) ∧ Dq K H pv (pr x y) ∧ ∀ H2, Ex H H2 → Q (.bl (barsP a b x y q)) H2
theorem ct_of {n : Nat} {cs : List Int} (h : isCt (lsI cs) = true) (hb : ∀ c ∈ cs, Bd n c) : CtOk n cs := by
  have h' : (decide ((cs.map PyData.int).length = 8) && ((cs.map PyData.int).map isAmt).all id) = true := h
  rw [List.length_map, List.map_map, List.all_map, Bool.and_eq_true] at h'
  refine ⟨of_decide_eq_true h'.1, fun c hc => ⟨?_, hb c hc⟩⟩
  exact of_decide_eq_true (List.all_eq_true.mp h'.2 c hc)
/-- told: a Never by q, or a Way by counts, new -/
def spTold (K : PySem.W.Frag) (CW CN : Addr) : Sp := fun vs H Q _ => ∃ lv pv a b x y, vs = [lv, pv] ∧ Dq K H lv (pr a b) ∧ Dq K H pv (pr x y) ∧ (0 ≤ a ∧ 0 ≤ b ∧ (0 < a ∨ 0 < b) ∧ Bd 2000 a ∧ Bd 2000 b ∧ Bd 2000 x ∧ Bd 2000 y) ∧
  (∀ q p H2, barBy a b x y = some q → H p = none → Ex H H2 → NevAt CN H2 p q → Q (.ref p) H2) ∧
  (∀ p l H2, barBy a b x y = none → H p = none → H l = none → Ex H H2 → WayAt CW H2 p l → H2 l = some (.lst ((tellCt a b x y).map V.int)) → Q (.ref p) H2)
end Lw
namespace Lw
open PySem PySem.Spec PyProof.Rows L2 Evl
section
variable {X : Cx} {e : Expr} {σ : L2.St} {H : Hp} {pos kp : Pos} {C : Addr}
theorem made_ex {H1 : Hp} {x dx C : Addr} (n1 : H1 x = none) (n2 : H1 dx = none) (n3 : dx ≠ x) : Ex H1 (upd (upd H1 dx (.own x)) x (.ins C dx [])) := fun b o q => by
  rw [upd_ne (ne_of_none q n1), upd_ne (ne_of_none q n2)]
  exact q
theorem x_never {cn : Str} {n : Int} {k m : Nat} {ps : List Str} (M : Mi X.prog X.w X.K X.mg X.base cn C k ps (spNi C)) (hr : Room m X.A) (hk : k + 1 ≤ m) (ha : Gd X e σ H (.int n)) (hg : L2.Gl X cn := by rfl) (hdb : (cn == ("__debug__" : Str)) = false := by decide)
    (he : starEach [e] X.env = (false, eval e X.env) :: starEach [] X.env := by rfl) (hpl : (backTo pos (starEach [] X.env)).any (·.1) = false := by rfl) : Gv X (.Call (.Name cn kp) [e] [] pos) σ H fun v H' => ∃ p, v = .ref p ∧ H p = none ∧ NevAt C H' p n :=
  x_make M hr hk (RA := fun vs _ => vs = [.int n]) (l_cons ha (fun _ _ _ z r => dp_mono z r) (l_nil (R := fun vs _ => vs = []) fun _ => rfl) (fun v vs _ r1 r2 => by rw [dp_int r1, r2]) he)
    (fun vs H1 x dx x1 r n1 n2 n3 Q q => ⟨x, dx, n, by rw [r], upd_same, fun H' h1 h2 => q H' (Same.made n1 n2 h1) ⟨x, rfl, fresh_back x1 n1, dx, h2⟩⟩) hg hdb he hpl
theorem x_way {cn : Str} {cs : List Int} {k m : Nat} {ps : List Str} (M : Mi X.prog X.w X.K X.mg X.base cn C k ps (spWi X.K C)) (hr : Room m X.A) (hk : k + 1 ≤ m) (ha : Gd X e σ H (lsI cs)) (hg : L2.Gl X cn := by rfl) (hdb : (cn == ("__debug__" : Str)) = false := by decide)
    (he : starEach [e] X.env = (false, eval e X.env) :: starEach [] X.env := by rfl) (hpl : (backTo pos (starEach [] X.env)).any (·.1) = false := by rfl) : Gv X (.Call (.Name cn kp) [e] [] pos) σ H fun v H' => ∃ p l, v = .ref p ∧ H p = none ∧ H l = none ∧ WayAt C H' p l ∧ H' l = some (.lst (cs.map V.int)) :=
  x_make M hr hk (RA := fun vs H' => ∃ v, vs = [v] ∧ Dq X.K H' v (lsI cs)) (l_cons ha (fun _ _ _ z r => dp_mono z r) (l_nil (R := fun vs _ => vs = []) fun _ => rfl) (fun v vs _ r1 r2 => ⟨v, by rw [r2], r1⟩) he)
    (fun vs H1 x dx x1 ⟨v, r, rv⟩ n1 n2 n3 Q q => ⟨x, dx, v, cs.map .int, by rw [r], upd_same, dp_mono (made_ex n1 n2 n3) rv, fun l xs H' hl h1 h2 h3 h4 => q H' (Same.made n1 n2 h1) ⟨x, l, rfl, fresh_back x1 n1, fresh_back x1 (fresh_back (made_ex n1 n2 n3) hl), ⟨dx, h2⟩, by rw [h3, dpa_ints cs h4]⟩⟩) hg hdb he hpl
end
theorem GE.bd {a b g u v : Int} {k : Nat} (h : GE a b g u v) (ha : Bd k a) (hb : Bd k b) : Bd (k + 1) g ∧ Bd (k + 2) u ∧ Bd (k + 2) v := by
  have s1 : Bd (k + 1) (a + b) := ha.add hb
  have s2 : Bd (k + 2) (a + b + 1) := s1.add (Bd.small (by decide) (by omega))
  have p := h.pos
  have m := h.gm
  exact ⟨s1.nat (by omega), s2.nat h.um, s2.nat h.vm⟩
end Lw

namespace Lw
open PySem PySem.Spec PyProof.Rows L2 Evl
/-! ### changed at l alone -/
def Mu (l : Addr) (A B : Hp) : Prop := ∀ b o, b ≠ l → A b = some o → B b = some o
theorem Mu.refl {l : Addr} (A : Hp) : Mu l A A := fun _ _ _ h => h
theorem Mu.trans {l : Addr} {A B C : Hp} (x : Mu l A B) (y : Mu l B C) : Mu l A C := fun b o n h => y b o n (x b o n h)
theorem Mu.of {l : Addr} {A B : Hp} (x : Ex A B) : Mu l A B := fun b o _ h => x b o h
theorem Mu.upd {l : Addr} {A : Hp} {o : HO} : Mu l A (upd A l o) := fun b _ n h => by rw [upd_ne n]; exact h
/-- what was made ahead of l -/
theorem Mu.old {l : Addr} {A B C : Hp} (x : Ex C A) (h : C l = none) (y : Mu l A B) : Ex C B := fun b o q => y b o (ne_of_none q h) (x b o q)
section
variable {K : PySem.W.Frag} {H H' : Hp} {l : Addr} {xs : List V}
theorem sqt_mu (m : Mu l H H') (hl : H l = some (.lst xs)) {p : Addr} {vs : List V} (h : SqT K H p vs) : SqT K H' p vs := by
  rcases h with (h | ⟨o, h⟩) | h
  · exact .inl (.inl (m _ _ (ne_of h hl (by intro z; cases z)) h))
  · exact .inl (.inr ⟨o, m _ _ (ne_of h hl (by intro z; cases z)) h⟩)
  · exact .inr h
mutual
theorem dp_mu' (m : Mu l H H') (hl : H l = some (.lst xs)) : ∀ (d : PyData) (v : V), nl d = true → Dq K H v d → Dq K H' v d
  | .none, _, _, h => by cases h; exact .non
  | .bool b, _, _, h => by cases h; exact .bl b
  | .int i, _, _, h => by cases h; exact .int i
  | .str x, _, _, h => by cases h; exact .str x
  | .list _, _, n, _ => by cases n
  | .tuple ds, _, n, h => by
    cases h with
    | tup hs ha => exact .tup (sqt_mu m hl hs) (dpa_mu' m hl ds _ n ha)
  | .dict _, _, _, h => by
    cases h with
    | dct h => exact .dct (m _ _ (ne_of h hl (by intro z; cases z)) h)
theorem dpa_mu' (m : Mu l H H') (hl : H l = some (.lst xs)) : ∀ (ds : List PyData) (vs : List V), nls ds = true → DqAll K H vs ds → DqAll K H' vs ds
  | [], _, _, h => by cases h; exact .nil
  | d :: ds, _, n, h => by
    have n' : (nl d && nls ds) = true := n
    rw [Bool.and_eq_true] at n'
    cases h with
    | cons h1 h2 => exact .cons (dp_mu' m hl d _ n'.1 h1) (dpa_mu' m hl ds _ n'.2 h2)
end
theorem dp_mu {v : V} {d : PyData} (m : Mu l H H') (hl : H l = some (.lst xs)) (h : Dq K H v d) (n : nl d = true := by rfl) : Dq K H' v d := dp_mu' m hl d v n h
theorem dpa_mu {vs : List V} {ds : List PyData} (m : Mu l H H') (hl : H l = some (.lst xs)) (h : DqAll K H vs ds) (n : nls ds = true) : DqAll K H' vs ds := dpa_mu' m hl ds vs n h
/-- a list of one's own -/
def Tq (K : PySem.W.Frag) (H : Hp) (v : V) (ds : List PyData) : Prop := ∃ p vs, v = .ref p ∧ H p = some (.lst vs) ∧ DqAll K H vs ds
theorem Tq.dq {v : V} {ds : List PyData} (h : Tq K H v ds) : Dq K H v (.list ds) := by
  obtain ⟨p, vs, rfl, h1, h2⟩ := h
  exact .lst (SqL.of h1) h2
theorem Tq.ex {v : V} {ds : List PyData} (x : Ex H H') (h : Tq K H v ds) : Tq K H' v ds := by
  obtain ⟨p, vs, rfl, h1, h2⟩ := h
  exact ⟨p, vs, rfl, x _ _ h1, dpa_mono x h2⟩
/-- .. new since H0 -/
def Fq (K : PySem.W.Frag) (H0 H : Hp) (v : V) (ds : List PyData) : Prop := ∃ p vs, v = .ref p ∧ H0 p = none ∧ H p = some (.lst vs) ∧ DqAll K H vs ds
theorem Fq.tq {H0 : Hp} {v : V} {ds : List PyData} (h : Fq K H0 H v ds) : Tq K H v ds := by
  obtain ⟨p, vs, rfl, _, h1, h2⟩ := h
  exact ⟨p, vs, rfl, h1, h2⟩
theorem shaped_all : ∀ (l : List PyData), (∀ d ∈ l, d.canLay0 = true ∧ d.depth ≤ 2) → PyData.canLayAll0 l = true ∧ PyData.depthAll l ≤ 2
  | [], _ => ⟨rfl, by show (0 : Nat) ≤ 2; decide⟩
  | d :: l, h => by
    obtain ⟨h1, h2⟩ := shaped_all l fun z hz => h z (List.mem_cons_of_mem _ hz)
    obtain ⟨h3, h4⟩ := h d List.mem_cons_self
    refine ⟨?_, ?_⟩
    · show (d.canLay0 && PyData.canLayAll0 l) = true
      rw [h3, h1] <;> rfl
    · simp only [PyData.depthAll]
      omega
theorem shaped_list {l : List PyData} (h : ∀ d ∈ l, d.canLay0 = true ∧ d.depth ≤ 2) : SeqAt.shaped (.list l) = true := by
  obtain ⟨h1, h2⟩ := shaped_all l h
  unfold SeqAt.shaped
  have z : (PyData.list l).canLay0 = true := h1
  rw [z, Bool.true_and]
  refine decide_eq_true ?_
  simp only [PyData.depth]
  omega
theorem shaped_ints (l : List Int) : SeqAt.shaped (lsI l) = true := shaped_list fun d hd => by
  obtain ⟨n, _, rfl⟩ := List.mem_map.mp hd
  exact ⟨rfl, by simp [PyData.depth]⟩
theorem shaped_prs (l : List (Int × Int)) : SeqAt.shaped (prs l) = true := shaped_list fun d hd => by
  obtain ⟨n, _, rfl⟩ := List.mem_map.mp hd
  exact ⟨rfl, by simp [pr, PyData.depth, PyData.depthAll]⟩
theorem eqv_lsI : ∀ (l m : List Int), PyData.eqv (lsI l) (lsI m) = decide (l = m) := by
  have gen : ∀ (l m : List Int), PyData.eqvAll (l.map .int) (m.map .int) = decide (l = m) := by
    intro l
    induction l with
    | nil => intro m; cases m <;> simp [PyData.eqvAll]
    | cons a l ih =>
      intro m
      cases m with
      | nil => simp [PyData.eqvAll]
      | cons b m =>
        show ((a == b) && PyData.eqvAll (l.map .int) (m.map .int)) = _
        rw [ih m]
        by_cases h : a = b <;> by_cases h2 : l = m <;> simp [h, h2]
  exact gen
end

section
variable {X : Cx} {e a b o iter tg : Expr} {es : List Expr} {rest body : List Stmt} {σ : L2.St} {H : Hp} {d : PyData} {ds ds1 ds2 : List PyData} {pos p' apos kp px : Pos} {D : Ends} {g : TG}
abbrev Gf (X : Cx) (e : Expr) (σ : L2.St) (H : Hp) (ds : List PyData) : Prop := Gv X e σ H fun v H' => Fq X.K H H' v ds
abbrev Gk (X : Cx) (e : Expr) (σ : L2.St) (H : Hp) (ds : List PyData) : Prop := Gv X e σ H fun v H' => Tq X.K H' v ds
theorem Gv.fk (h : Gv X e σ H fun v H' => Fq X.K H H' v ds) : Gk X e σ H ds := h.imp fun _ _ _ r => r.tq
theorem Gv.kd (h : Gv X e σ H fun v H' => Tq X.K H' v ds) : Gd X e σ H (.list ds) := h.imp fun _ _ _ r => r.dq
theorem f_new {H1 H2 : Hp} {vs : List V} (x : Ex H H1) (y : Ex H1 H2) (r : DqAll X.K H2 vs ds) : ∀ p, H2 p = none → Ex H1 (upd H2 p (.lst vs)) ∧ Fq X.K H (upd H2 p (.lst vs)) (.ref p) ds := fun p hp =>
  ⟨y.trans (Ex.new hp), p, vs, rfl, fresh_back (x.trans y) hp, upd_same, dpa_mono (Ex.new hp) r⟩
theorem f_lst (h : Gs X es σ H ds) (hl : ds.length ≤ 100000) : Gf X (.List es pos) σ H ds := gv_of (pe_lst cA_pa) fun H1 x Q q => h.go H1 x _ fun vs H2 y r =>
  ⟨sz_of (by rw [dpa_len r]; exact hl), fun p hp => let z := f_new x y r p hp; q _ _ z.1 z.2⟩
theorem f_cat (ha : Gk X a σ H ds1) (hb : Gk X b σ H ds2) (hl : ds1.length + ds2.length ≤ 100000) : Gf X (.BinOp a .Add b pos) σ H (ds1 ++ ds2) := gv_of (pe_op op_cat cE_pe cE_pe) fun H1 x Q q => ha.go H1 x _ fun v H2 y ⟨p, vs, e1, h1, h2⟩ => hb.go H2 (x.trans y) _ fun u H3 z ⟨p2, us, e2, h3, h4⟩ =>
  ⟨p, p2, vs, us, e1, e2, z _ _ h1, h3, sz_of (by rw [dpa_len h2, dpa_len h4]; exact hl), fun p3 hp => let w := f_new x (y.trans z) (dpa_app (dpa_mono z h2) h4) p3 hp; q _ _ w.1 w.2⟩
theorem dpa_rep {K : PySem.W.Frag} {vs : List V} {n : Nat} (h : DqAll K H vs ds) : DqAll K H (List.replicate n vs).flatten (List.replicate n ds).flatten := by
  induction n with
  | zero => exact .nil
  | succ n ih =>
    rw [List.replicate_succ, List.replicate_succ, List.flatten_cons, List.flatten_cons]
    exact dpa_app h ih
theorem f_rep {n : Int} (ha : Gk X a σ H ds) (hb : Gd X b σ H (.int n)) (hn : 0 ≤ n ∧ n ≤ 1000 ∧ ds.length ≤ 100) : Gf X (.BinOp a .Mult b pos) σ H (List.replicate n.toNat ds).flatten := gv_of (pe_op op_rep cE_pe cE_pe) fun H1 x Q q => ha.go H1 x _ fun v H2 y ⟨p, vs, e1, h1, h2⟩ => hb.go H2 (x.trans y) _ fun u H3 z r =>
  ⟨p, n, vs, e1, dp_int r, z _ _ h1, by omega, by omega, by
    rw [dpa_len h2]
    have a1 : n.toNat ≤ 1000 := by omega
    exact Nat.le_trans (Nat.mul_le_mul hn.2.2 a1) (by decide), fun p3 hp => let w := f_new x (y.trans z) (dpa_rep (n := n.toNat) (dpa_mono z h2)) p3 hp; q _ _ w.1 w.2⟩
theorem f_list (ha : Gd X a σ H (.list ds)) (hm : X.mg "list" = none) (hg : L2.Gl X "list" := by rfl) (hs : starEach [a] X.env = (false, eval a X.env) :: starEach [] X.env := by rfl) (hpl : (backTo pos (starEach [] X.env)).any (·.1) = false := by rfl) : Gf X (.Call (.Name "list" kp) [a] [] pos) σ H ds :=
  gv_of (pe_callTy call_list_of hg hm (by decide +kernel) cA_pa (by decide) (by decide) hs hpl) fun H1 x Q q => (s_cons ha s_nil hs).go H1 x _ fun vs H2 y r => by
    obtain ⟨v, rfl, r1⟩ := dp1 r
    obtain ⟨l, xs, rfl, h1, h2⟩ := dp_lst r1
    exact ⟨l, xs, rfl, .inl h1, fun p hp => let w := f_new x y h2 p hp; q _ _ w.1 w.2⟩
/-- a slice's ends -/
structure Go (X : Cx) (e : Option Expr) (σ : L2.St) (H : Hp) (n : Option Int) : Prop where
  go : ∃ t, PO X e t ∧ ∀ H1, Ex H H1 → ∀ Q : Option Int → Hp → Prop, (∀ H2, Ex H1 H2 → Q n H2) → t σ H1 Q
theorem o_none : Go X none σ H none := ⟨tNoPart, po_none, fun H1 _ _ q => q H1 (Ex.refl H1)⟩
theorem o_some {n : Int} (h : Gd X e σ H (.int n)) : Go X (some e) σ H (some n) := ⟨tPart (cE X e), po_some cE_pe, fun H1 x Q q => h.go H1 x _ fun v H2 y r => ⟨n, dp_int r, q H2 y⟩⟩
def cutD {α : Type} (xs : List α) (lo hi : Option Int) : List α := (xs.drop (HT.sIx xs.length 0 lo)).take (HT.sIx xs.length xs.length hi - HT.sIx xs.length 0 lo)
theorem dpa_cut {K : PySem.W.Frag} {vs : List V} {lo hi : Option Int} (h : DqAll K H vs ds) : DqAll K H (cutV vs lo hi) (cutD ds lo hi) := by
  unfold cutV cutD
  rw [dpa_len h]
  exact dpa_take _ (dpa_drop _ h)
theorem f_sl {lo hi : Option Expr} {i j : Option Int} {p2 : Pos} (ha : Gd X a σ H (.list ds)) (hl : Go X lo σ H i) (hh : Go X hi σ H j) : Gf X (.Subscript a (.Slice lo hi none p2) pos) σ H (cutD ds i j) := by
  obtain ⟨t1, g1, k1⟩ := hl.go
  obtain ⟨t2, g2, k2⟩ := hh.go
  refine gv_of (pe_slice sl_list cE_pe g1 g2) fun H1 x Q q => ha.go H1 x _ fun v H2 y r => k1 H2 (x.trans y) _ fun H3 z => k2 H3 ((x.trans y).trans z) _ fun H4 w => ?_
  obtain ⟨l, xs, rfl, h1, h2⟩ := dp_lst r
  refine ⟨l, xs, rfl, ex_l (z.trans w) h1, fun p hp => ?_⟩
  have u := f_new x ((y.trans z).trans w) (dpa_cut (lo := i) (hi := j) (dpa_mono (z.trans w) h2)) p hp
  exact q _ _ u.1 u.2
theorem f_rev {k : Nat} {p1 p2 p3 : Pos} (ha : Gd X a σ H (.list ds)) : Gf X (.Subscript a (.Slice none none (some (.UnaryOp .USub (.Constant (.int 1) k p1) p2)) p3) pos) σ H ds.reverse := gv_of (pe_revL cE_pe) fun H1 x Q q => ha.go H1 x _ fun v H2 y r => by
  obtain ⟨l, xs, rfl, h1, h2⟩ := dp_lst r
  exact ⟨l, xs, rfl, h1, fun p hp => let w := f_new x y (dpa_rev h2) p hp; q _ _ w.1 w.2⟩
theorem k_var (i : Nat) {x : Str} {v : V} (hN : X.N[i]? = some x) (hs : σ[i]? = some (some v)) (hd : Tq X.K H v ds)
    (hv : Vis X.env.scope x := by first | exact Or.inl rfl | exact Or.inr (Or.inl rfl) | exact Or.inr (Or.inr rfl)) (h1 : (x == ("__debug__" : Str)) = false := by decide) (h2 : (x == ("__classdict__" : Str)) = false := by decide) : Gk X (.Name x pos) σ H ds :=
  (x_varV i hN hs hv h1 h2).imp fun v' H2 x r => by rw [r]; exact hd.ex x

/-! statements that change a list of one's own -/
theorem g_append {l : Addr} {xs : List V} {R : V → Hp → Prop} (ho : Gv X o σ H fun v _ => v = .ref l) (ha : Gv X a σ H R) (hl : H l = some (.lst xs)) (hz : xs.length < 100000) (k : ∀ v H1, Ex H H1 → R v H1 → cSs X rest D σ (upd H1 l (.lst (xs ++ [v]))))
    (hbase : attributeBase o "append" X.env (eval o X.env) = eval o X.env := by rfl)
    (hfew : ((backTo pos (starEach [a] X.env)).all (fun x => !x.1) && (backToKw pos (keywordEach [] X.env)).all (fun x => x.1.isSome) && decide (([a] : List Expr).length + ([] : List Keyword).length + (if ([] : List Keyword).isEmpty then 0 else 1) < 30)) = true := by rfl)
    (hline : (apos.endLine == pos.line) = true := by rfl) (hs : starEach [a] X.env = (false, eval a X.env) :: starEach [] X.env := by rfl) (hplain : (backTo pos (starEach [] X.env)).any (·.1) = false := by rfl)
    (hsw : swapsWith (.Call (.Attribute o "append" apos) [a] [] pos) none p'.line X.env = pure false := by rfl) : cSs X (.Expr (.Call (.Attribute o "append" apos) [a] [] pos) p' :: rest) D σ H :=
  g_st (ps_expr (pe_bm PySem.F.plainAttrs_list PySem.F.slot_list_append PySem.F.type_list_append mt_append cE_pe cA_pa hbase hfew hline hs hplain) hsw) (ho.go H (Ex.refl H) _ fun v H1 x r => ⟨by
    rw [r]
    exact .inl ⟨rfl, _, SqL.of (x _ _ hl)⟩, cA_of (pa_cons cE_pe pa_nil hs) (ha.go H1 x _ fun u H2 y ru => ⟨l, xs, u, r, rfl, y _ _ (x _ _ hl), sz_lt hz, k u H2 (x.trans y) ru⟩)⟩)
theorem g_extend {l : Addr} {xs : List V} (ho : Gv X o σ H fun v _ => v = .ref l) (ha : Gk X a σ H ds) (hl : H l = some (.lst xs)) (hz : xs.length + ds.length ≤ 100000) (k : ∀ vs H1, Ex H H1 → DqAll X.K H1 vs ds → cSs X rest D σ (upd H1 l (.lst (xs ++ vs))))
    (hbase : attributeBase o "extend" X.env (eval o X.env) = eval o X.env := by rfl)
    (hfew : ((backTo pos (starEach [a] X.env)).all (fun x => !x.1) && (backToKw pos (keywordEach [] X.env)).all (fun x => x.1.isSome) && decide (([a] : List Expr).length + ([] : List Keyword).length + (if ([] : List Keyword).isEmpty then 0 else 1) < 30)) = true := by rfl)
    (hline : (apos.endLine == pos.line) = true := by rfl) (hs : starEach [a] X.env = (false, eval a X.env) :: starEach [] X.env := by rfl) (hplain : (backTo pos (starEach [] X.env)).any (·.1) = false := by rfl)
    (hsw : swapsWith (.Call (.Attribute o "extend" apos) [a] [] pos) none p'.line X.env = pure false := by rfl) : cSs X (.Expr (.Call (.Attribute o "extend" apos) [a] [] pos) p' :: rest) D σ H :=
  g_st (ps_expr (pe_bm PySem.F.plainAttrs_list PySem.F.slot_list_extend PySem.F.type_list_extend mt_extend cE_pe cA_pa hbase hfew hline hs hplain) hsw) (ho.go H (Ex.refl H) _ fun v H1 x r => ⟨by
    rw [r]
    exact .inl ⟨rfl, _, SqL.of (x _ _ hl)⟩, cA_of (pa_cons cE_pe pa_nil hs) (ha.go H1 x _ fun u H2 y ⟨p, vs, e1, h1, h2⟩ => ⟨l, p, xs, vs, r, by rw [e1], y _ _ (x _ _ hl), h1, sz_of (by rw [dpa_len h2]; exact hz), k vs H2 (x.trans y) h2⟩)⟩)
/-- xs[i] = e -/
theorem g_setItem {l : Addr} {xs : List V} {n : Int} {j : Nat} {R : V → Hp → Prop} (he : Gv X e σ H R) (ho : Gv X o σ H fun v _ => v = .ref l) (hi : Gd X a σ H (.int n)) (hl : H l = some (.lst xs)) (hj : ixN xs.length n = some j) (m : ∀ v H1 H2, Ex H1 H2 → R v H1 → R v H2) (k : ∀ v H1, Ex H H1 → R v H1 → cSs X rest D σ (upd H1 l (.lst (xs.set j v))))
    (hA : ∀ v, assign (.Subscript o a pos) X.env v = (do let ov ← holding [v] (eval o X.env); let iv ← holding [v, ov] (eval a X.env); standAt pos; holding [v, ov, iv] (setItem ov iv v); release [v, ov, iv] []) := by intro _; rfl)
    (hs : swapsWithSole [.Subscript o a pos] e p'.line X.env = pure false := by rfl) (hw : swappedStores [.Subscript o a pos] e X.env = pure none := by rfl) (h1 : (assignEach [.Subscript o a pos] X.env).map (·.2) = [assign (.Subscript o a pos) X.env] := by rfl) : cSs X (.Assign [.Subscript o a pos] e p' :: rest) D σ H :=
  g_asg (pg_sub cE_pe cE_pe set_list hA) he (fun v H1 x r => ho.go H1 x _ fun u H2 y ru => hi.go H2 (x.trans y) _ fun w H3 z rw => ⟨l, xs, n, j, ru, dp_int rw, z _ _ (y _ _ (x _ _ hl)), hj, k v H3 ((x.trans y).trans z) (m _ _ _ (y.trans z) r)⟩) hs hw h1
/-- a loop over a new list whose body changes the list at l -/
abbrev Tm (l : Addr) (D : Ends) (out : L2.St → Hp → Prop) (H' : Hp) (P : L2.St → Hp → Prop) : Ends := { D with nx := fun σ3 H3 => Mu l H' H3 ∧ P σ3 H3, ct := fun σ3 H3 => Mu l H' H3 ∧ P σ3 H3, bk := out }
theorem g_forM {l : Addr} {xs0 : List V} (hg : PG X tg g) (hi : Gf X iter σ H ds) (hl : H l = some (.lst xs0)) (hn : nls ds = true) (P : Nat → L2.St → Hp → Prop) (h0 : ∀ H1, Ex H H1 → P 0 σ H1) (hp : PassesOwn (model X.prog X.w) X.A X.env X.xe)
    (hs : ∀ (i : Nat) (d : PyData) (v : V) (σ' : L2.St) (H' : Hp), ds[i]? = some d → Mu l H H' → Dq X.K H' v d → P i σ' H' → g v σ' H' fun σ2 H2 => cSs X body (Tm l D (cSs X rest D) H' (P (i + 1))) σ2 H2)
    (hm : ∀ (Q Q' : L2.St → Hp → Prop) v σ' H', (∀ s h, Q s h → Q' s h) → g v σ' H' Q → g v σ' H' Q')
    (hd : ∀ σ' H', Mu l H H' → P ds.length σ' H' → cSs X rest D σ' H') (hc : X.calm = true := by rfl) (hf : ∀ x, foldedSetIterable iter X.env x = pure x := by intro _; rfl) : cSs X (.For tg iter body [] pos :: rest) D σ H :=
  g_forE (pi_list cE_pe) hg hp hc hf (hi.go H (Ex.refl H) _ fun v H1 x1 ⟨p, xs, e1, hp0, h1, h2⟩ => by
    subst e1
    have npl : p ≠ l := fun z => by rw [z, hl] at hp0; cases hp0
    refine ⟨p, rfl, ⟨xs, SqL.of h1⟩, for_list (xs := xs) (fun i σ' H' => Mu l H1 H' ∧ P i σ' H') ⟨Mu.refl H1, h0 H1 x1⟩ (fun i σ' H' _ q => SqL.of (q.1 _ _ npl h1)) (fun i w σ' H' hi q => ?_) fun σ' H' q => ?_⟩
    · obtain ⟨d, hd', rd⟩ := dpa_get' h2 hi
      refine hm _ _ _ _ _ (fun s h q2 => ?_) (hs i d w σ' H' hd' ((Mu.of x1).trans q.1) (dp_mu q.1 (x1 _ _ hl) rd (nls_at hn hd')) q.2)
      refine fun pins st I => wpAny_mono (q2 pins st I) (fun f s' z => ?_) fun _ _ z => z
      cases f with
      | next => obtain ⟨σ3, H3, I3, z1, z2⟩ := z; exact ⟨σ3, H3, I3, q.1.trans z1, z2⟩
      | cont => obtain ⟨σ3, H3, I3, z1, z2⟩ := z; exact ⟨σ3, H3, I3, q.1.trans z1, z2⟩
      | brk => exact z
      | ret _ => exact z
    · refine hd σ' H' ((Mu.of x1).trans q.1) ?_
      rw [← dpa_len h2]
      exact q.2)
/-- for x in range(0, hi, step) -/
theorem g_range3 {x : Str} {e1 e2 e3 : Expr} {hi c : Int} (j : Nat) (hN : X.N.Nodup) (hj : X.N[j]? = some x) (h1 : Gd X e1 σ H (.int 0)) (h2 : Gd X e2 σ H (.int hi)) (h3 : Gd X e3 σ H (.int c)) (hc : 0 < c ∧ c < 1000000) (hh : 0 ≤ hi ∧ hi < 1000000) (hz : X.mg "range" = none) (P : Nat → L2.St → Hp → Prop) (h0 : ∀ H1, Ex H H1 → P 0 σ H1) (hp : PassesOwn (model X.prog X.w) X.A X.env X.xe)
    (hs : ∀ (i : Nat) (n : Int) (σ' : L2.St) (H' : Hp), 0 ≤ n → n < hi → Ex H H' → P i σ' H' → cSs X body (Tn D (cSs X rest D) H' (P (i + 1))) (σ'.set j (some (.int n))) H')
    (hd : ∀ m σ' H', Ex H H' → P m σ' H' → cSs X rest D σ' H') (l1 : Ld X x := by first | exact Or.inl rfl | exact Or.inr rfl) (f1 : Lf X x := by first | exact .inl rfl | exact .inr rfl) (hca : X.calm = true := by rfl) (hgz : L2.Gl X "range" := by rfl)
    (s1 : starEach [e1, e2, e3] X.env = (false, eval e1 X.env) :: starEach [e2, e3] X.env := by rfl) (s2 : starEach [e2, e3] X.env = (false, eval e2 X.env) :: starEach [e3] X.env := by rfl) (s3 : starEach [e3] X.env = (false, eval e3 X.env) :: starEach [] X.env := by rfl) (hpl : (backTo p' (starEach [e2, e3] X.env)).any (·.1) = false := by rfl)
    (hf : ∀ x, foldedSetIterable (.Call (.Name "range" kp) [e1, e2, e3] [] p') X.env x = pure x := by intro _; rfl) : cSs X (.For (.Name x px) (.Call (.Name "range" kp) [e1, e2, e3] [] p') body [] pos :: rest) D σ H :=
  g_forE (pi_range3 hgz hz cA_pa s1 hpl) (pg_name hN hj l1 f1) hp hca hf ((s_cons h1 (s_cons h2 (s_cons h3 s_nil s3) s2) s1).go H (Ex.refl H) _ fun vs H1 x1 r => by
    have ev : vs = [.int 0, .int hi, .int c] := dpa_ints [0, hi, c] r
    have sz : Builtin.Range.rangeSize 0 hi c = ((if 0 < hi then ((hi - 1) / c + 1).toNat else 0 : Nat) : Int) := by
      unfold Builtin.Range.rangeSize
      rw [if_pos hc.1]
      have q : 0 ≤ (hi - 1) / c ∨ hi ≤ 0 := by
        by_cases z : 0 < hi
        · exact .inl (Int.ediv_nonneg (by omega) (by omega))
        · exact .inr (by omega)
      split
      · have e0 : hi - 0 - 1 = hi - 1 := by omega
        rw [e0]
        omega
      · rfl
    refine ⟨0, hi, c, if 0 < hi then ((hi - 1) / c + 1).toNat else 0, ev, ⟨by omega, by omega, ?_, sz⟩, for_rangeC (fun i σ' H' => Ex H1 H' ∧ P i σ' H') ⟨Ex.refl H1, h0 H1 x1⟩ (fun i σ' H' hlt q => ?_) fun σ' H' q => hd _ σ' H' (x1.trans q.1) q.2⟩
    · have fit : ∀ z : Int, -1000000000000 < z → z < 1000000000000 → Builtin.Range.rangeFitsLong z = true := fun z a1 a2 => by
        unfold Builtin.Range.rangeFitsLong
        simp
        omega
      have q2 : (hi - 1) / c ≤ hi ∨ hi ≤ 0 := by
        by_cases z : 0 < hi
        · exact .inl (by
            have := Int.ediv_le_self c (show 0 ≤ hi - 1 by omega)
            omega)
        · exact .inr (by omega)
      unfold Builtin.Range.small
      rw [sz, fit 0 (by omega) (by omega), fit hi (by omega) (by omega), fit c (by omega) (by omega), fit _ (by omega) (by split <;> omega), if_pos hc.1, fit (hi + (c - 1)) (by omega) (by omega), Bool.or_true] <;> rfl
    · have bound : 0 + (i : Int) * c < hi ∧ 0 ≤ 0 + (i : Int) * c := by
        split at hlt
        · have z : (i : Int) ≤ (hi - 1) / c := by omega
          have z2 : (i : Int) * c ≤ (hi - 1) / c * c := Int.mul_le_mul_of_nonneg_right z (by omega)
          have z3 : (hi - 1) / c * c ≤ hi - 1 := Int.ediv_mul_le _ (by omega)
          have z4 : 0 ≤ (i : Int) * c := Int.mul_nonneg (by omega) (by omega)
          omega
        · omega
      refine fun pins st I => wpAny_mono (hs i _ σ' H' bound.2 bound.1 (x1.trans q.1) q.2 pins st I) (fun f s' z => ?_) fun _ _ z => z
      cases f with
      | next => obtain ⟨σ3, H3, I3, z1, z2⟩ := z; exact ⟨σ3, H3, I3, q.1.trans z1, z2⟩
      | cont => obtain ⟨σ3, H3, I3, z1, z2⟩ := z; exact ⟨σ3, H3, I3, q.1.trans z1, z2⟩
      | brk => exact z
      | ret _ => exact z)
end
end Lw

namespace Lw
open PySem PySem.Spec PyProof.Rows L2 Evl
/-! ### a law's own draws -/
def numL (cell at_ whole : Int) : Int :=
  if 10 ^ 18 ≤ cell then cell / (1 + at_ % 7) else
    let mixed := ((cell + 977 * at_) * 48271 + whole) % 2147483647
    let more := mixed * (cell + 31 * at_ + 7)
    more * (mixed + cell + 5) * (mixed * mixed + 11) / (1009 + at_)
def mostL : List Int := [3, 12, 100, 10 ^ 30]
def cellsL (ns : List Int) : List Int := if ns = [] then [3] else ns.take 63
def valL (ns : List Int) (at_ wide : Int) : Int :=
  let cs := cellsL ns
  let m := mostL.getD wide.toNat 0
  numL (cs.getD (at_ % (cs.length : Int)).toNat 0) at_ cs.length / 3 % (2 * m + 1) - m
theorem valL_bd (ns : List Int) (at_ wide : Int) : Bd 100 (valL ns at_ wide) := by
  unfold valL
  simp only
  generalize numL _ _ _ = z
  have hm : 0 ≤ mostL.getD wide.toNat 0 ∧ mostL.getD wide.toNat 0 ≤ 10 ^ 30 := by
    unfold mostL
    rcases wide.toNat with _ | _ | _ | _ | n
    · exact ⟨by decide, by decide⟩
    · exact ⟨by decide, by decide⟩
    · exact ⟨by decide, by decide⟩
    · exact ⟨by decide, by decide⟩
    · exact ⟨by simp, by simp⟩
  generalize mostL.getD wide.toNat 0 = m at *
  have h1 := Int.emod_nonneg (z / 3) (show 2 * m + 1 ≠ 0 by omega)
  have h2 := Int.emod_lt_of_pos (z / 3) (show 0 < 2 * m + 1 by omega)
  refine Bd.of ?_ ?_
  · have : (10 : Int) ^ 30 < 2 ^ 100 := by decide
    omega
  · have : (10 : Int) ^ 30 < 2 ^ 100 := by decide
    omega
theorem take63_ne {ns : List Int} (h : ns ≠ []) : 0 < (ns.take 63).length := by
  rw [List.length_take]
  have : 0 < ns.length := by cases ns with | nil => exact absurd rfl h | cons a l => simp
  omega
theorem cells_len (ns : List Int) : 0 < (cellsL ns).length ∧ (cellsL ns).length ≤ 63 := by
  unfold cellsL
  split
  · exact ⟨by decide, by decide⟩
  · rename_i h
    exact ⟨take63_ne h, by rw [List.length_take]; omega⟩
theorem cells_bd {n : Nat} {ns : List Int} (hn : 2 ≤ n) (h : ∀ c ∈ ns, Bd n c) : ∀ c ∈ cellsL ns, Bd n c := by
  unfold cellsL
  split
  · intro c hc
    have e : c = 3 := by simpa using hc
    subst e
    exact Bd.mono (n := 2) (show (3 : Nat) < 4 by decide) hn
  · exact fun c hc => h c (List.mem_of_mem_take hc)
theorem cut_to (l : List Int) (k : Nat) : cutD (l.map PyData.int) none (some (k : Int)) = (l.take k).map .int := by
  unfold cutD
  rw [HT.sIx_none, HT.sIx_nat, List.drop_zero, Nat.sub_zero, List.length_map, ← List.map_take]
  by_cases h : k ≤ l.length
  · rw [Nat.min_eq_left h]
  · rw [Nat.min_eq_right (by omega), List.take_of_length_le (Nat.le_refl _), List.take_of_length_le (by omega)]
theorem cut_from (l : List Int) (k : Nat) : cutD (l.map PyData.int) (some (k : Int)) none = (l.drop k).map .int := by
  unfold cutD
  rw [HT.sIx_none, HT.sIx_nat, List.length_map, ← List.map_drop, ← List.map_take]
  by_cases h : k ≤ l.length
  · rw [Nat.min_eq_left h, List.take_of_length_le (by rw [List.length_drop]; omega)]
  · rw [Nat.min_eq_right (by omega), Nat.sub_self, List.drop_eq_nil_of_le (show l.length ≤ k by omega)] <;> rfl
theorem atI_ints {l : List Int} {n : Int} (h0 : 0 ≤ n) (h : n < l.length) : atI (l.map PyData.int) n = some (.int (l.getD n.toNat 0)) := by
  have e : n = ((n.toNat : Nat) : Int) := by omega
  have q : n.toNat < l.length := by omega
  have z : (l.map PyData.int)[n.toNat]? = some (.int (l.getD n.toNat 0)) := by
    rw [List.getElem?_map, List.getElem?_eq_getElem q, List.getD_eq_getElem?_getD, List.getElem?_eq_getElem q]
    rfl
  rw [e]
  exact atI_nat z
/-- the leap's order in the law -/
theorem eight_law (a b : Int) : [(1 * a, b), (1 * a, -b), (-1 * a, b), (-1 * a, -b), (1 * b, a), (1 * b, -a), (-1 * b, a), (-1 * b, -a)] = eightL a b := by
  simp [eightL]
def bitsL : Nat := 1048577
theorem bd_bits {z : Int} (h : Builtin.Int.intBits z ≤ 1048576) : Bd bitsL z := by
  unfold Builtin.Int.intBits at h
  show z.natAbs < 2 ^ 1048577
  split at h
  · rename_i h0
    have : z.natAbs = 0 := by simpa using h0
    rw [this]
    exact Nat.two_pow_pos _
  · have q : z.natAbs < 2 ^ (z.natAbs.log2 + 1) := Nat.lt_log2_self
    exact Nat.lt_of_lt_of_le q (Nat.pow_le_pow_right (by decide) (by omega))
end Lw
namespace Lw
open PySem PySem.Spec PyProof.Rows L2 Evl
section
variable {H : Hp} {K : PySem.W.Frag}
theorem rd_eqD {d f : PyData} (hd : SeqAt.shaped d = true) (hf : SeqAt.shaped f = true) : RD K H (rEqD K) d f (.bool (PyData.eqv d f)) := fun H1 _ x y rx ry Q q =>
  ⟨d, f, to_dp d _ (SeqAt.canLay_of_shaped hd) rx, to_dp f _ (SeqAt.canLay_of_shaped hf) ry, hd, hf, q _ H1 (Ex.refl H1) (.bl _)⟩
theorem rd_neD {d f : PyData} (hd : SeqAt.shaped d = true) (hf : SeqAt.shaped f = true) : RD K H (rNeD K) d f (.bool (!PyData.eqv d f)) := fun H1 _ x y rx ry Q q =>
  ⟨d, f, to_dp d _ (SeqAt.canLay_of_shaped hd) rx, to_dp f _ (SeqAt.canLay_of_shaped hf) ry, hd, hf, q _ H1 (Ex.refl H1) (.bl _)⟩
end
/-- the eight leaps as the law makes them -/
def bigL (a b : Int) : List (Int × Int) := [(1 * a, b), (1 * a, -b), (-1 * a, b), (-1 * a, -b), (1 * b, a), (1 * b, -a), (-1 * b, a), (-1 * b, -a)]
def prL (l : List (Int × Int)) : List PyData := l.map fun p => pr p.1 p.2
theorem nls_prL : ∀ l : List (Int × Int), nls (prL l) = true := fun l => nls_map (fun p : Int × Int => pr p.1 p.2) (fun _ => rfl) l
theorem barsP_of {a b x y q : Int} (hq : 0 < q) : barsP a b x y q = ((decide (a % q = 0) && (decide (b % q = 0) && (decide (0 < x % q) || decide (0 < y % q)))) || ((decide ((a + b) % q = 0) && decide ((a - b) % q = 0)) && decide (0 < (x + y) % q))) := by
  have one : ∀ z : Int, decide (0 < z % q) = !decide (z % q = 0) := fun z => by
    have h := Int.emod_nonneg z (show q ≠ 0 by omega)
    by_cases c : z % q = 0
    · simp [c]
    · have : 0 < z % q := by omega
      simp [c, this]
  unfold barsP into
  rw [one, one, one, decide_eq_true hq]
  cases decide (a % q = 0) <;> cases decide (b % q = 0) <;> cases decide (x % q = 0) <;> cases decide (y % q = 0) <;> rfl
end Lw
namespace Lw
open PySem
theorem lkno {f g : Str} {v : L2.V} (h : (f == g) = false) : List.lookup f [(g, v)] = none := by simp [List.lookup, h]
end Lw

namespace Lw
open PySem PySem.Spec PyProof.Rows L2 Evl
section
variable {X : Cx} {iter elt a e : Expr} {scope : Scope} {x y : Str} {px py pos spos p' kp : Pos} {σ : L2.St} {H : Hp} {ds fs : List PyData} {rest : List Stmt} {D : Ends}
theorem lcL_read {Q : VK} (jj : Nat) (hi : Gd X iter σ H (.list ds)) (hl : fs.length = ds.length) (hz : fs.length ≤ 100000) (hn : nls fs = true)
    (he : ∀ (i : Nat) (d f : PyData) (v : V) (H1 : Hp), ds[i]? = some d → fs[i]? = some f → Ex H H1 → Dq X.K H1 v d → ∀ s H0 C cl fp, Gd (X.blk s H0 scope (compEnvC scope cl C X.env) fp) elt ((wipe σ [jj]).set jj (some v)) H1 f)
    (q : ∀ v H1, Ex H H1 → Fq X.K H H1 v fs → Q v H1) : tLc (iList X.K (cE X iter)) (gName jj) tYes (cB X scope elt) [jj] σ H Q := hi.go H (Ex.refl H) _ fun v H2 x1 r => by
  obtain ⟨a, xs, rfl, h1, h2⟩ := dp_lst r
  refine ⟨a, rfl, ⟨xs, h1⟩, fun D hD => lc_list (xs := xs) (Lcw X.K H2 D fs) ⟨hD, Ex.new hD, [], upd_same, .nil⟩ (fun i H' _ p => ex_l p.2.1 h1) (fun i u H' hu p => ?_) fun H' p => ?_⟩
  · obtain ⟨d, hd, rd⟩ := dpa_get' h2 hu
    have li : i < fs.length := by rw [hl]; exact (List.getElem?_eq_some_iff.mp hd).1
    refine ⟨wipe1 σ jj _, ?_⟩
    refine lcw_turn (te := cB X scope elt) p (List.getElem?_eq_getElem li) hz hn fun Q' q' s H0 C cl fp => ?_
    exact (he i d _ u H' hd (List.getElem?_eq_getElem li) (x1.trans p.2.1) (dp_mono p.2.1 rd) s H0 C cl fp).go H' (Ex.refl H') Q' q'
  · obtain ⟨p1, p2, vs, p3, p4⟩ := p
    rw [dpa_len h2, ← hl, List.take_length] at p4
    exact q _ H' (x1.trans p2) ⟨D, vs, rfl, fresh_back x1 p1, p3, p4⟩
/-- y = [elt for x in iter] -/
theorem g_setLcL (i jj : Nat) (hN : X.N.Nodup) (hy : X.N[i]? = some y) (hi : Gd X iter σ H (.list ds)) (ok : BlkOk X.N X.env.scope scope [(x, jj)]) (hl : fs.length = ds.length) (hz : fs.length ≤ 100000) (hn : nls fs = true)
    (he : ∀ (i : Nat) (d f : PyData) (v : V) (H1 : Hp), ds[i]? = some d → fs[i]? = some f → Ex H H1 → Dq X.K H1 v d → ∀ s H0 C cl fp, Gd (X.blk s H0 scope (compEnvC scope cl C X.env) fp) elt ((wipe σ [jj]).set jj (some v)) H1 f)
    (k : ∀ v H1, Ex H H1 → Fq X.K H H1 v fs → cSs X rest D (σ.set i (some v)) H1)
    (hg : ∀ (s : Shared) (H0 : Hp) (C : Addr) (cl : List (Str × Addr)) (fp : List Addr), PG (X.blk s H0 scope (compEnvC scope cl C X.env) fp) (.Name x px) (gName jj))
    (hsw : swapsWith (.ListComp elt [⟨.Name x px, iter, [], 0⟩] scope pos) (some (.Name y py)) spos.line X.env = pure true) (hyl : X.env.scope.names.lookup y = some .local := by rfl) (hc : X.calm = true := by rfl) (hs : ∀ x, foldedSetIterable iter X.env x = pure x := by intro _; rfl) :
    cSs X (.Assign [.Name y py] (.ListComp elt [⟨.Name x px, iter, [], 0⟩] scope pos) spos :: rest) D σ H :=
  g_st (ps_setLc (own := [(x, jj)]) (tt := tYes) hc hN hy hyl hsw (pi_list cE_pe) ok hg (fun _ _ _ _ _ => pts_nil) (fun s H0 C cl fp => cB_pe s H0 C cl fp) hs) (lcL_read jj hi hl hz hn he k)
end
/-- what isinstance asks of a class of one's own -/
structure Isi (K : PySem.W.Frag) (C : Addr) : Prop where
  cl : Cls K C
  ha : PySem.W.findIn K (.ref C) "__class__" = some (some (.builtin "object.__class__"))
  hn : PySem.W.specialIn K (.builtin "object.__class__") "__get__" = some (some (.builtin "getset_descriptor.__get__"))
  ht : PySem.W.takesIn K (.builtin "object.__class__") = some true
  hm : PySem.W.mroIn K C (.type "object") = some true
section
variable {X : Cx} {a e : Expr} {pos p kp q : Pos} {σ : L2.St} {H : Hp}
theorem x_cls {T : Str} {C : Addr} (hm : X.mg T = some (.ref C)) (hg : L2.Gl X T := by rfl) (h2 : (T == ("__debug__" : Str)) = false := by decide) : Gv X (.Name T p) σ H fun v _ => v = .ref C :=
  gv_v (pe_glob hg hm (show RelV (.ref C) (.ref C) from rfl) h2) ev_c
theorem x_isiO {T : Str} {r C C' dx : Addr} {fs : List (Str × V)} {c : Bool} (ho : Gv X a σ H fun v _ => v = .ref r) (hp : H r = some (.ins C dx fs)) (I : Isi X.K C) (hT : X.mg T = some (.ref C')) (hk : PySem.W.kitOne X.K (.ref C) (.ref C') = some c) (hm : X.mg "isinstance" = none)
    (hgT : L2.Gl X T := by rfl) (h2 : (T == ("__debug__" : Str)) = false := by decide) (hg : L2.Gl X "isinstance" := by rfl)
    (hs : starEach [a, .Name T q] X.env = (false, eval a X.env) :: starEach [.Name T q] X.env := by rfl) (hs2 : starEach [.Name T q] X.env = (false, eval (.Name T q) X.env) :: starEach [] X.env := by rfl) (hpl : (backTo pos (starEach [.Name T q] X.env)).any (·.1) = false := by rfl) :
    Gd X (.Call (.Name "isinstance" p) [a, .Name T q] [] pos) σ H (.bool c) :=
  gv_of (pe_callB call_isi hg hm (by decide +kernel) cA_pa (by decide) (by decide) hs hpl) fun H1 x Q k =>
    (l_cons (R := fun vs _ => vs = [.ref r, .ref C']) ho (fun _ _ _ _ z => z) (l_cons (R := fun vs _ => vs = [.ref C']) (x_cls hT hgT h2) (fun _ _ _ _ z => z) (l_nil (R := fun vs _ => vs = []) fun _ => rfl) (fun v vs _ r1 r2 => by rw [r1, r2]) hs2)
      (fun v vs _ r1 r2 => by rw [r1, r2]) hs).go H1 x _ fun vs H2 y z => ⟨.ref r, .ref C', _, _, c, z, .own C', .base (.ins (y _ _ (x _ _ hp)) I.cl I.ha I.hn I.ht I.hm), hk, k _ H2 y (.bl c)⟩
/-- told, its two ends -/
def ToldR (K : PySem.W.Frag) (CW CN : Addr) (a b x y : Int) (H : Hp) (v : V) (H' : Hp) : Prop :=
  (∃ q p, barBy a b x y = some q ∧ v = .ref p ∧ H p = none ∧ NevAt CN H' p q) ∨
  (∃ p l, barBy a b x y = none ∧ v = .ref p ∧ H p = none ∧ H l = none ∧ WayAt CW H' p l ∧ H' l = some (.lst ((tellCt a b x y).map V.int)))
theorem x_told {e1 e2 : Expr} {CW CN : Addr} {k n : Nat} {ps : List Str} {aa b x y : Int} (Df_ : Df X.prog X.w X.K X.mg X.base CX0 "told" k ps (spTold X.K CW CN)) (hr : Room n X.A) (hk : k ≤ n) (h1 : Gd X e1 σ H (pr aa b)) (h2 : Gd X e2 σ H (pr x y))
    (hb : 0 ≤ aa ∧ 0 ≤ b ∧ (0 < aa ∨ 0 < b) ∧ Bd 2000 aa ∧ Bd 2000 b ∧ Bd 2000 x ∧ Bd 2000 y) (hg : L2.Gl X "told" := by rfl)
    (hs : starEach [e1, e2] X.env = (false, eval e1 X.env) :: starEach [e2] X.env := by rfl) (hs2 : starEach [e2] X.env = (false, eval e2 X.env) :: starEach [] X.env := by rfl) (hpl : (backTo pos (starEach [e2] X.env)).any (·.1) = false := by rfl) :
    Gv X (.Call (.Name "told" kp) [e1, e2] [] pos) σ H (ToldR X.K CW CN aa b x y H) :=
  x_callR Df_ hr hk pass0 (s_cons h1 (s_cons h2 s_nil hs2) hs) (fun vs H1 x1 r Q q => by
    obtain ⟨v, u, rfl, r1, r2⟩ := dp2 r
    exact ⟨v, u, aa, b, x, y, rfl, r1, r2, hb, fun q' p H2 z1 z2 z3 z4 => q _ H2 z3 (.inl ⟨q', p, z1, rfl, fresh_back x1 z2, z4⟩), fun p l H2 z1 z2 z3 z4 z5 z6 => q _ H2 z4 (.inr ⟨p, l, z1, rfl, fresh_back x1 z2, fresh_back x1 z3, z5, z6⟩)⟩) hg (by decide) hs hpl
end
theorem moreP_le (a b e s : Int) (he : e.natAbs ≤ 1) (hs : s.natAbs ≤ 1) : (moreP a b e s).1.natAbs ≤ 1 ∧ (moreP a b e s).2.natAbs ≤ 1 := by
  unfold moreP
  split
  · exact ⟨hs, he⟩
  · split
    · exact ⟨he, hs⟩
    · exact ⟨he, by show (0 : Int).natAbs ≤ 1; decide⟩
theorem mx0_bd {n : Nat} {i : Int} (h : Bd n i) : Bd n (mx0 i) ∧ 0 ≤ mx0 i := by
  unfold mx0
  split
  · exact ⟨h, by omega⟩
  · exact ⟨h.nat (by simp), by decide⟩
/-- the told counts are counts of few bits -/
theorem tell_ok {a b x y : Int} (ha : 0 ≤ a) (hb : 0 ≤ b) (h : 0 < a ∨ 0 < b) (ba : Bd 2000 a) (bb : Bd 2000 b) (bx : Bd 2000 x) (by' : Bd 2000 y) : CtOk 5000 (tellCt a b x y) := by
  have G := gcdE_ok ha hb h
  obtain ⟨bg, bu, bv⟩ := G.bd ba bb
  unfold tellCt
  simp only
  generalize (gcdE a b).1 = g at *
  generalize (gcdE a b).2.1 = u at *
  generalize (gcdE a b).2.2 = v at *
  have q3 : Bd 2000 (x / g) := bx.div
  have q4 : Bd 2000 (y / g) := by'.div
  have q5 : Bd 2000 (a / g) := ba.div
  have q6 : Bd 2000 (b / g) := bb.div
  generalize a / g = a' at *
  generalize b / g = b' at *
  generalize x / g = x' at *
  generalize y / g = y' at *
  have t1 : Bd 4004 (u * x') := (bu.mul q3).mono (by decide)
  have t2 : Bd 4004 (v * x') := (bv.mul q3).mono (by decide)
  have t3 : Bd 4004 (v * y') := (bv.mul q4).mono (by decide)
  have t4 : Bd 4004 (u * y') := (bu.mul q4).mono (by decide)
  unfold alongA evenP
  simp only
  have m := moreP_le a' b' ((u * x' - v * y') % 2) ((v * x' - u * y') % 2) (by omega) (by omega)
  generalize moreP a' b' _ _ = mm at *
  obtain ⟨m1, m2⟩ := mm
  have w1 : Bd 1 m1 := Bd.small m.1 (by decide)
  have w2 : Bd 1 m2 := Bd.small m.2 (by decide)
  have s1 : Bd 4005 (u * x' + m1 * b') := t1.add ((w1.mul q6).mono (by decide))
  have s2 : Bd 4005 (v * x' - m1 * a') := t2.sub ((w1.mul q5).mono (by decide))
  have s3 : Bd 4005 (v * y' + m2 * a') := t3.add ((w2.mul q5).mono (by decide))
  have s4 : Bd 4005 (u * y' - m2 * b') := t4.sub ((w2.mul q6).mono (by decide))
  generalize u * x' + m1 * b' = al at *
  generalize v * x' - m1 * a' = bl at *
  generalize v * y' + m2 * a' = bc at *
  generalize u * y' - m2 * b' = ac at *
  have p : Bd 5000 ((al + bc) / 2) := ((s1.add s3).div).mono (by decide)
  have q : Bd 5000 ((al - bc) / 2) := ((s1.sub s3).div).mono (by decide)
  have r : Bd 5000 ((bl + ac) / 2) := ((s2.add s4).div).mono (by decide)
  have s : Bd 5000 ((bl - ac) / 2) := ((s2.sub s4).div).mono (by decide)
  refine ⟨rfl, fun c hc => ?_⟩
  simp only [ctTo, List.mem_cons, List.not_mem_nil, or_false] at hc
  rcases hc with rfl | rfl | rfl | rfl | rfl | rfl | rfl | rfl
  · exact (mx0_bd p).symm
  · exact (mx0_bd q).symm
  · exact (mx0_bd q.neg).symm
  · exact (mx0_bd p.neg).symm
  · exact (mx0_bd r).symm
  · exact (mx0_bd s).symm
  · exact (mx0_bd s.neg).symm
  · exact (mx0_bd r.neg).symm
theorem bar_bd {a b x y q : Int} (ha : 0 ≤ a) (hb : 0 ≤ b) (h : 0 < a ∨ 0 < b) (ba : Bd 2000 a) (bb : Bd 2000 b) (hq : barBy a b x y = some q) : Bd 2010 q := by
  have G := gcdE_ok ha hb h
  obtain ⟨bg, bu, bv⟩ := G.bd ba bb
  unfold barBy at hq
  simp only at hq
  generalize (gcdE a b).1 = g at *
  split at hq
  · rw [← Option.some.inj hq]
    exact bg.mono (by decide)
  · split at hq
    · rw [← Option.some.inj hq]
      exact ((Bd.of (n := 2) (i := 2) (by decide) (by decide)).mul bg).mono (by decide)
    · cases hq
end Lw

namespace Lw
open PySem PySem.Spec PyProof.Rows L2 Evl
def moreL (cs : List Int) (k : Nat) : List Int := cs.take k ++ [cs.getD k 0 + 1] ++ cs.drop (k + 1)
section
variable {X : Cx} {A I : Expr} {σ : L2.St} {H : Hp} {p1 p2 p3 p4 p5 p6 p7 p8 p9 p10 p11 pos : Pos} {j1 j2 : Nat} {cs : List Int} {k : Nat} {n : Int}
theorem f_more {A2 A3 I2 I3 : Expr} (hA : Gd X A σ H (lsI cs)) (hA2 : Gd X A2 σ H (lsI cs)) (hA3 : Gd X A3 σ H (lsI cs)) (hI : Gd X I σ H (.int (k : Int))) (hI2 : Gd X I2 σ H (.int (k : Int))) (hI3 : Gd X I3 σ H (.int (k : Int))) (hk : k < cs.length) (hl : cs.length ≤ 1000) (hs : PlainIx I2 := by exact fun _ _ => rfl)
    (h1 : starEach [(.BinOp (.Subscript A2 I2 p3) .Add (.Constant (.int 1) j1 p4) p5 : Expr)] X.env = (false, eval (.BinOp (.Subscript A2 I2 p3) .Add (.Constant (.int 1) j1 p4) p5) X.env) :: starEach [] X.env := by rfl) :
    Gf X (.BinOp (.BinOp (.Subscript A (.Slice none (some I) none p1) p2) .Add (.List [.BinOp (.Subscript A2 I2 p3) .Add (.Constant (.int 1) j1 p4) p5] p6) p7) .Add (.Subscript A3 (.Slice (some (.BinOp I3 .Add (.Constant (.int 1) j2 p8) p9)) none none p10) p11) pos) σ H ((moreL cs k).map .int) := by
  refine Gv.imp (f_cat (f_cat (f_sl (i := none) (j := some (k : Int)) hA o_none (o_some hI)).fk (f_lst (ds := [.int (cs.getD k 0 + 1)]) (s_cons (x_add (x_ixL hA2 hI2 (atI_ints (n := (k : Int)) (by omega) (by omega)) hs) x_int) s_nil h1) (by simp)).fk (by
    show (cutD (cs.map PyData.int) none (some ((k : Nat) : Int))).length + 1 ≤ _
    rw [cut_to, List.length_map, List.length_take]
    omega)).fk (f_sl (i := some ((k : Int) + 1)) (j := none) hA3 (o_some (x_add hI3 x_int)) o_none).fk (by
    show (cutD (cs.map PyData.int) none (some ((k : Nat) : Int)) ++ _).length + (cutD (cs.map PyData.int) (some (((k + 1 : Nat) : Nat) : Int)) none).length ≤ _
    rw [cut_to, cut_from, List.length_append, List.length_map, List.length_map, List.length_take, List.length_drop]
    show min k cs.length + 1 + _ ≤ _
    omega)) fun v H' _ r => ?_
  have e : cutD (cs.map PyData.int) none (some (k : Int)) ++ [PyData.int (cs.getD k 0 + 1)] ++ cutD (cs.map PyData.int) (some ((k : Int) + 1)) none = (moreL cs k).map .int := by
    show cutD (cs.map PyData.int) none (some ((k : Nat) : Int)) ++ [PyData.int (cs.getD k 0 + 1)] ++ cutD (cs.map PyData.int) (some (((k + 1 : Nat) : Nat) : Int)) none = _
    rw [cut_to, cut_from]
    unfold moreL
    rw [List.map_append, List.map_append]
    rfl
  rw [← e]
  exact r
end
theorem moreL_len {cs : List Int} {k : Nat} (hk : k < cs.length) : (moreL cs k).length = cs.length := by
  unfold moreL
  simp only [List.length_append, List.length_take, List.length_drop, List.length_cons, List.length_nil]
  omega
theorem moreL_bd {m : Nat} {cs : List Int} {k : Nat} (hk : k < cs.length) (h : ∀ n ∈ cs, Bd m n) (hm : 1 ≤ m) : ∀ n ∈ moreL cs k, Bd (m + 1) n := fun n hn => by
  unfold moreL at hn
  rw [List.mem_append, List.mem_append] at hn
  rcases hn with (hn | hn) | hn
  · exact (h n (List.mem_of_mem_take hn)).mono (by omega)
  · have e : n = cs.getD k 0 + 1 := by simpa using hn
    rw [e, List.getD_eq_getElem?_getD, List.getElem?_eq_getElem hk]
    exact (h _ (List.getElem_mem hk)).add (Bd.small (by decide) (by omega))
  · exact (h n (List.mem_of_mem_drop hn)).mono (by omega)
theorem set_bd {m : Nat} {cs : List Int} {j : Nat} {z : Int} (h : ∀ n ∈ cs, Bd m n) (hz : Bd m z) : ∀ n ∈ cs.set j z, Bd m n := fun n hn => by
  rcases List.mem_or_eq_of_mem_set hn with q | q
  · exact h n q
  · rw [q]; exact hz
theorem map_set_int (cs : List Int) (j : Nat) (z : Int) : (cs.map V.int).set j (.int z) = (cs.set j z).map V.int := by rw [List.map_set]
end Lw

namespace Lw
open PySem PySem.Spec PyProof.Rows L2 Evl
section
variable {X : Cx} {o e : Expr} {es : List Expr} {σ : L2.St} {H : Hp} {pos apos kp p1 : Pos} {R : V → Hp → Prop}
/-- o.m(e, ..), o made just now -/
theorem x_methR {sp : Sp} {C : Addr} {m : Str} {k n : Nat} {ps : List Str} {RO : V → Hp → Prop} {RA : List V → Hp → Prop} {pl : Sem Bool} (M : Ms X.prog X.w X.K X.mg X.base C m k ps sp) (hr : Room n X.A) (hk : k ≤ n) (ho : Gv X o σ H RO)
    (hp : ∀ v H1, RO v H1 → ∃ p dx fs, v = .ref p ∧ H1 p = some (.ins C dx fs) ∧ fs.lookup m = none)
    (ha : Gl X (e :: es) σ H RA) (hs : ∀ v H1 vs H2, RO v H1 → Ex H1 H2 → RA vs H2 → ∀ Q : VK, (∀ v H3, Ex H2 H3 → R v H3 → Q v H3) → sp (v :: vs) H2 Q E0)
    (hst : starEach (e :: es) X.env = (false, eval e X.env) :: starEach es X.env := by rfl) (hpl : (backTo pos (starEach es X.env)).any (·.1) = false := by rfl)
    (ht : eval (.Call (.Attribute o m apos) (e :: es) [] pos) X.env = (do let u ← eval o X.env; standAt apos.atName; let (g, one) ← holding [u] (getMethod u m pl); callWith pos g one (backTo pos (starEach (e :: es) X.env)) (backToKw pos (keywordEach [] X.env))) := by rfl) : Gv X (.Call (.Attribute o m apos) (e :: es) [] pos) σ H R := by
  obtain ⟨f, fd, hm, hb, F⟩ := M.ex
  refine gv_of (pe_meth cE_pe M.cl hm F (hr.mono hk) hb .nil pass0 cA_pa hst hpl ht) fun H1 x Q q => ho.go H1 x _ fun v' H2 y r => ?_
  obtain ⟨p, dx, fs, e1, e2, e3⟩ := hp v' H2 r
  refine ⟨p, dx, fs, e1, e2, e3, ha.go H2 (x.trans y) _ fun vs H3 z rv => ?_⟩
  rw [List.append_nil]
  exact hs v' H2 vs H3 r z rv Q fun v H4 u rw => q v H4 ((y.trans z).trans u) rw
theorem x_waySays {l pl e0 : Expr} {C : Addr} {cn : Str} {a b x y : Int} {cs : List Int} {k k2 n : Nat} {ps ps2 : List Str} {pl2 : Sem Bool} (M : Mi X.prog X.w X.K X.mg X.base cn C k ps (spWi X.K C)) (S : Ms X.prog X.w X.K X.mg X.base C "shows" k2 ps2 (spWs X.K C)) (hr : Room n X.A) (hk : k + 1 ≤ n ∧ k2 ≤ n)
    (he : Gd X e0 σ H (lsI cs)) (hl : Gd X l σ H (pr a b)) (hp : Gd X pl σ H (pr x y)) (hh : isLp (pr a b) = true ∧ Bd 60000 a ∧ Bd 60000 b ∧ cs.length ≤ 1000 ∧ ∀ c ∈ cs, Bd 60000 c) (hg : L2.Gl X cn := by rfl) (hdb : (cn == ("__debug__" : Str)) = false := by decide)
    (h1 : starEach [e0] X.env = (false, eval e0 X.env) :: starEach [] X.env := by rfl) (h2 : (backTo p1 (starEach [] X.env)).any (·.1) = false := by rfl)
    (hst : starEach [l, pl] X.env = (false, eval l X.env) :: starEach [pl] X.env := by rfl) (hst2 : starEach [pl] X.env = (false, eval pl X.env) :: starEach [] X.env := by rfl) (hpl : (backTo pos (starEach [pl] X.env)).any (·.1) = false := by rfl)
    (ht : eval (.Call (.Attribute (.Call (.Name cn kp) [e0] [] p1) "shows" apos) [l, pl] [] pos) X.env = (do let u ← eval (.Call (.Name cn kp) [e0] [] p1) X.env; standAt apos.atName; let (g, one) ← holding [u] (getMethod u "shows" pl2); callWith pos g one (backTo pos (starEach [l, pl] X.env)) (backToKw pos (keywordEach [] X.env))) := by rfl) :
    Gd X (.Call (.Attribute (.Call (.Name cn kp) [e0] [] p1) "shows" apos) [l, pl] [] pos) σ H (.bool (wayOk a b x y cs)) :=
  x_methR S hr hk.2 (x_way (cs := cs) M hr hk.1 he hg hdb h1 h2) (fun v H1 ⟨p, l, e1, _, _, ⟨dx, e2⟩, _⟩ => ⟨p, dx, _, e1, e2, lkno (by decide)⟩) (s_cons hl (s_cons hp s_nil hst2) hst)
    (fun v H1 vs H2 ⟨p, l, e1, _, _, ⟨dx, e2⟩, e3⟩ x1 r Q q => by
      obtain ⟨w1, w2, rfl, r1, r2⟩ := dp2 r
      exact ⟨p, l, w1, w2, a, b, x, y, cs, by rw [e1], ⟨dx, x1 _ _ e2⟩, .lst (SqL.of (x1 _ _ e3)) (dpa_of_ints cs), r1, r2, hh, fun H3 x3 => q _ H3 x3 (.bl _)⟩) hst hpl ht
theorem x_nevSays {l pl e0 : Expr} {C : Addr} {cn : Str} {a b x y c : Int} {k k2 n : Nat} {ps ps2 : List Str} {pl2 : Sem Bool} (M : Mi X.prog X.w X.K X.mg X.base cn C k ps (spNi C)) (S : Ms X.prog X.w X.K X.mg X.base C "shows" k2 ps2 (spNs X.K C)) (hr : Room n X.A) (hk : k + 1 ≤ n ∧ k2 ≤ n)
    (he : Gd X e0 σ H (.int c)) (hl : Gd X l σ H (pr a b)) (hp : Gd X pl σ H (pr x y)) (hg : L2.Gl X cn := by rfl) (hdb : (cn == ("__debug__" : Str)) = false := by decide)
    (h1 : starEach [e0] X.env = (false, eval e0 X.env) :: starEach [] X.env := by rfl) (h2 : (backTo p1 (starEach [] X.env)).any (·.1) = false := by rfl)
    (hst : starEach [l, pl] X.env = (false, eval l X.env) :: starEach [pl] X.env := by rfl) (hst2 : starEach [pl] X.env = (false, eval pl X.env) :: starEach [] X.env := by rfl) (hpl : (backTo pos (starEach [pl] X.env)).any (·.1) = false := by rfl)
    (ht : eval (.Call (.Attribute (.Call (.Name cn kp) [e0] [] p1) "shows" apos) [l, pl] [] pos) X.env = (do let u ← eval (.Call (.Name cn kp) [e0] [] p1) X.env; standAt apos.atName; let (g, one) ← holding [u] (getMethod u "shows" pl2); callWith pos g one (backTo pos (starEach [l, pl] X.env)) (backToKw pos (keywordEach [] X.env))) := by rfl) :
    Gd X (.Call (.Attribute (.Call (.Name cn kp) [e0] [] p1) "shows" apos) [l, pl] [] pos) σ H (.bool (barsP a b x y c)) :=
  x_methR S hr hk.2 (x_never (n := c) M hr hk.1 he hg hdb h1 h2) (fun v H1 ⟨p, e1, _, dx, e2⟩ => ⟨p, dx, _, e1, e2, lkno (by decide)⟩) (s_cons hl (s_cons hp s_nil hst2) hst)
    (fun v H1 vs H2 ⟨p, e1, _, dx, e2⟩ x1 r Q q => by
      obtain ⟨w1, w2, rfl, r1, r2⟩ := dp2 r
      exact ⟨p, c, w1, w2, a, b, x, y, by rw [e1], ⟨dx, x1 _ _ e2⟩, r1, r2, fun H3 x3 => q _ H3 x3 (.bl _)⟩) hst hpl ht
end
theorem Bd.ab {n : Nat} {i : Int} (h : Bd n i) : Bd n (if i < 0 then -i else i) ∧ 0 ≤ (if i < 0 then -i else i) := by
  split
  · exact ⟨h.neg, by omega⟩
  · exact ⟨h, by omega⟩
/-- the leap that a law draws -/
def leapL (a b : Int) : Int × Int := if 0 < a + b then (a, b) else (2, 0)
theorem leapL_ok {n : Nat} {a b : Int} (ha : 0 ≤ a) (hb : 0 ≤ b) (ba : Bd n a) (bb : Bd n b) (hn : 2 ≤ n) : 0 ≤ (leapL a b).1 ∧ 0 ≤ (leapL a b).2 ∧ (0 < (leapL a b).1 ∨ 0 < (leapL a b).2) ∧ Bd n (leapL a b).1 ∧ Bd n (leapL a b).2 := by
  unfold leapL
  split
  · exact ⟨ha, hb, by show 0 < a ∨ 0 < b; omega, ba, bb⟩
  · exact ⟨by decide, by decide, .inl (by decide), (Bd.of (n := 2) (i := 2) (by decide) (by decide)).mono hn, (Bd.of (n := 2) (i := 0) (by decide) (by decide)).mono hn⟩
theorem min63 (n : Nat) : 0 ≤ (if ((n : Nat) : Int) < 63 then ((n : Nat) : Int) else 63) ∧ (if ((n : Nat) : Int) < 63 then ((n : Nat) : Int) else 63) ≤ 63 ∧ (if ((n : Nat) : Int) < 63 then ((n : Nat) : Int) else 63) ≤ n := by
  split <;> omega
section
variable {P : Program} {w : World} {K : PySem.W.Frag} {mg : Str → Option Value} {base : Heap}
theorem fn_goD {nm qn : Str} {st : Stmt} {N ps : List Str} {f : Addr} {fd : FuncData} {F : List PyData → PyData → Prop} (k : Nat) (Fu : Fun K nm qn st f fd) (S : FnScope N ps (defScope st)) (len : ∀ ds d, F ds d → ds.length = ps.length)
    (body : ∀ cdv A outer s H0 E, Room k (cxB P w K mg base N qn (defScope st) f cdv A outer s H0 E).A → Names (cxB P w K mg base N qn (defScope st) f cdv A outer s H0 E) N 0 → (cxB P w K mg base N qn (defScope st) f cdv A outer s H0 E).N.Nodup → ∀ ds d vs H (Q : VK), F ds d → DqAll K H vs ds → (∀ v H2, Ex H H2 → Dq K H2 v d → Q v H2) →
      cSs (cxB P w K mg base N qn (defScope st) f cdv A outer s H0 E) (defBody st) { nx := fun _ H' => Q .non H', rt := Q } (start N vs) H) : FnOk P w K mg base CX0 (k + 1) f fd ps (spD K F) :=
  fn_go k Fu S (fun vs H Q E ⟨ds, d, h1, h2, _⟩ => (dpa_len h1).trans (len ds d h2)) fun cdv A outer s H0 E hr hn nd vs H Q ⟨ds, d, h1, h2, h3⟩ => body cdv A outer s H0 E hr hn nd ds d vs H Q h2 h1 h3
end
end Lw

namespace Lw
open PySem PySem.Spec PyProof.Rows L2 Evl
section
variable {X : Cx} {o e a elt iter : Expr} {es : List Expr} {rest body : List Stmt} {σ : L2.St} {H : Hp} {d : PyData} {ds fs : List PyData} {pos apos p kp kq q p' px py spos pos1 : Pos} {R : V → Hp → Prop} {D : Ends} {x y : Str} {scope : Scope}
/-- the field of what was made just now -/
theorem x_fldR {f : Str} {C : Addr} {RO : V → Hp → Prop} (ho : Gv X o σ H RO) (hp : ∀ v H1, RO v H1 → ∃ p dx fs w, v = .ref p ∧ H1 p = some (.ins C dx fs) ∧ fs.lookup f = some w ∧ Dq X.K H1 w d) (c : Cls X.K C) (n : NoAttr X.K C f) (hb : attributeBase o f X.env (eval o X.env) = eval o X.env := by rfl) :
    Gd X (.Attribute o f pos) σ H d := gv_of (pe_fld cE_pe hb) fun H1 x Q q => ho.go H1 x _ fun v' H2 y r => by
  obtain ⟨p, dx, fs, w, e1, e2, e3, e4⟩ := hp v' H2 r
  exact ⟨p, C, dx, fs, w, e1, e2, c, n, e3, q w H2 y e4⟩
/-- isinstance of what was made just now -/
theorem x_isiR {T : Str} {C C' : Addr} {RO : V → Hp → Prop} {c : Bool} (ho : Gv X a σ H RO) (hp : ∀ v H1, RO v H1 → ∃ p dx fs, v = .ref p ∧ H1 p = some (.ins C dx fs)) (I : Isi X.K C) (hT : X.mg T = some (.ref C')) (hk : PySem.W.kitOne X.K (.ref C) (.ref C') = some c) (hm : X.mg "isinstance" = none)
    (hgT : L2.Gl X T := by rfl) (h2 : (T == ("__debug__" : Str)) = false := by decide) (hg : L2.Gl X "isinstance" := by rfl)
    (hs : starEach [a, .Name T q] X.env = (false, eval a X.env) :: starEach [.Name T q] X.env := by rfl) (hs2 : starEach [.Name T q] X.env = (false, eval (.Name T q) X.env) :: starEach [] X.env := by rfl) (hpl : (backTo pos (starEach [.Name T q] X.env)).any (·.1) = false := by rfl) :
    Gd X (.Call (.Name "isinstance" p) [a, .Name T q] [] pos) σ H (.bool c) :=
  gv_of (pe_callB call_isi hg hm (by decide +kernel) cA_pa (by decide) (by decide) hs hpl) fun H1 x Q k =>
    (l_cons (R := fun vs H' => ∃ r dx fs, vs = [.ref r, .ref C'] ∧ H' r = some (.ins C dx fs)) (R1 := fun v H' => ∃ r dx fs, v = .ref r ∧ H' r = some (.ins C dx fs)) (ho.imp fun v H2 _ r => hp v H2 r) (fun _ _ _ x1 ⟨r, dx, fs, z1, z2⟩ => ⟨r, dx, fs, z1, x1 _ _ z2⟩) (l_cons (R := fun vs _ => vs = [.ref C']) (x_cls hT hgT h2) (fun _ _ _ _ z => z) (l_nil (R := fun vs _ => vs = []) fun _ => rfl) (fun v vs _ r1 r2 => by rw [r1, r2]) hs2)
      (fun v vs _ ⟨r, dx, fs, z1, z2⟩ r2 => ⟨r, dx, fs, by rw [z1, r2], z2⟩) hs).go H1 x _ fun vs H2 y ⟨r, dx, fs, z, z2⟩ => ⟨.ref r, .ref C', _, _, c, z, .own C', .base (.ins z2 I.cl I.ha I.hn I.ht I.hm), hk, k _ H2 y (.bl c)⟩
/-- for x in range(e) -/
theorem g_range1 {e1 : Expr} {hi : Nat} (j : Nat) (hN : X.N.Nodup) (hj : X.N[j]? = some x) (h1 : Gd X e1 σ H (.int (hi : Int))) (hh : hi < 1000000) (hz : X.mg "range" = none) (P : Nat → L2.St → Hp → Prop) (h0 : ∀ H1, Ex H H1 → P 0 σ H1) (hp : PassesOwn (model X.prog X.w) X.A X.env X.xe)
    (hs : ∀ (i : Nat) (σ' : L2.St) (H' : Hp), i < hi → Ex H H' → P i σ' H' → cSs X body (Tn D (cSs X rest D) H' (P (i + 1))) (σ'.set j (some (.int (i : Int)))) H')
    (hd : ∀ σ' H', Ex H H' → P hi σ' H' → cSs X rest D σ' H') (l1 : Ld X x := by first | exact Or.inl rfl | exact Or.inr rfl) (f1 : Lf X x := by first | exact .inl rfl | exact .inr rfl) (hca : X.calm = true := by rfl) (hgz : L2.Gl X "range" := by rfl)
    (s1 : starEach [e1] X.env = [(false, eval e1 X.env)] := by rfl)
    (hf : ∀ x, foldedSetIterable (.Call (.Name "range" kp) [e1] [] p') X.env x = pure x := by intro _; rfl) : cSs X (.For (.Name x px) (.Call (.Name "range" kp) [e1] [] p') body [] pos :: rest) D σ H :=
  g_forE (pi_range1 hgz hz cA_pa s1) (pg_name hN hj l1 f1) hp hca hf ((s_cons h1 s_nil s1).go H (Ex.refl H) _ fun vs H1 x1 r => by
    have ev : vs = [.int (hi : Int)] := dpa_ints [(hi : Int)] r
    refine ⟨(hi : Int), ev, by omega, by omega, ?_⟩
    rw [Int.toNat_natCast]
    refine for_range (fun i σ' H' => Ex H1 H' ∧ P i σ' H') ⟨Ex.refl H1, h0 H1 x1⟩ (fun i σ' H' hlt q => ?_) fun σ' H' q => hd _ _ (x1.trans q.1) q.2
    rw [Int.zero_add]
    have z := hs i σ' H' hlt (x1.trans q.1) q.2
    refine fun pins st I => wpAny_mono (z pins st I) (fun f s' z => ?_) fun _ _ z => z
    cases f with
    | next => obtain ⟨σ3, H3, I3, z1, z2⟩ := z; exact ⟨σ3, H3, I3, q.1.trans z1, z2⟩
    | cont => obtain ⟨σ3, H3, I3, z1, z2⟩ := z; exact ⟨σ3, H3, I3, q.1.trans z1, z2⟩
    | brk => exact z
    | ret _ => exact z)
theorem lcR_read {Q : VK} {e1 : Expr} {n : Nat} (jj : Nat) (hi : Gd X e1 σ H (.int (n : Int))) (s1 : starEach [e1] X.env = [(false, eval e1 X.env)]) (hn1 : n < 1000000) (hl : fs.length = n) (hz : fs.length ≤ 100000) (hn : nls fs = true)
    (he : ∀ (i : Nat) (f : PyData) (H1 : Hp), fs[i]? = some f → Ex H H1 → ∀ s H0 C cl fp, Gd (X.blk s H0 scope (compEnvC scope cl C X.env) fp) elt ((wipe σ [jj]).set jj (some (.int (i : Int)))) H1 f)
    (q : ∀ v H1, Ex H H1 → Fq X.K H H1 v fs → Q v H1) : tLc (iRng1 (cA X [e1])) (gName jj) tYes (cB X scope elt) [jj] σ H Q := (s_cons hi s_nil s1).go H (Ex.refl H) _ fun vs H2 x1 r => by
  have ev : vs = [.int (n : Int)] := dpa_ints [(n : Int)] r
  refine ⟨(n : Int), ev, by omega, by omega, fun D hD => ?_⟩
  rw [Int.toNat_natCast]
  refine lc_range (Lcw X.K H2 D fs) ⟨hD, Ex.new hD, [], upd_same, .nil⟩ (fun i H' hlt p => ?_) fun H' p => ?_
  · rw [Int.zero_add]
    have li : i < fs.length := by omega
    refine ⟨wipe1 σ jj _, ?_⟩
    refine lcw_turn (te := cB X scope elt) p (List.getElem?_eq_getElem li) hz hn fun Q' q' s H0 C cl fp => ?_
    exact (he i _ H' (List.getElem?_eq_getElem li) (x1.trans p.2.1) s H0 C cl fp).go H' (Ex.refl H') Q' q'
  · obtain ⟨p1, p2, vs, p3, p4⟩ := p
    rw [← hl, List.take_length] at p4
    exact q _ H' (x1.trans p2) ⟨D, vs, rfl, fresh_back x1 p1, p3, p4⟩
/-- y = [elt for x in range(e)] -/
theorem g_setLcR {e1 : Expr} {n : Nat} (i jj : Nat) (hN : X.N.Nodup) (hy : X.N[i]? = some y) (hi : Gd X e1 σ H (.int (n : Int))) (hn1 : n < 1000000) (hzr : X.mg "range" = none) (ok : BlkOk X.N X.env.scope scope [(x, jj)]) (hl : fs.length = n) (hz : fs.length ≤ 100000) (hn : nls fs = true)
    (he : ∀ (i : Nat) (f : PyData) (H1 : Hp), fs[i]? = some f → Ex H H1 → ∀ s H0 C cl fp, Gd (X.blk s H0 scope (compEnvC scope cl C X.env) fp) elt ((wipe σ [jj]).set jj (some (.int (i : Int)))) H1 f)
    (k : ∀ v H1, Ex H H1 → Fq X.K H H1 v fs → cSs X rest D (σ.set i (some v)) H1)
    (hg : ∀ (s : Shared) (H0 : Hp) (C : Addr) (cl : List (Str × Addr)) (fp : List Addr), PG (X.blk s H0 scope (compEnvC scope cl C X.env) fp) (.Name x px) (gName jj))
    (hsw : swapsWith (.ListComp elt [⟨.Name x px, .Call (.Name "range" kp) [e1] [] p', [], 0⟩] scope pos) (some (.Name y py)) spos.line X.env = pure true) (hyl : X.env.scope.names.lookup y = some .local := by rfl) (hc : X.calm = true := by rfl) (hgz : L2.Gl X "range" := by rfl)
    (s1 : starEach [e1] X.env = [(false, eval e1 X.env)] := by rfl) (hs : ∀ x, foldedSetIterable (.Call (.Name "range" kp) [e1] [] p') X.env x = pure x := by intro _; rfl) :
    cSs X (.Assign [.Name y py] (.ListComp elt [⟨.Name x px, .Call (.Name "range" kp) [e1] [] p', [], 0⟩] scope pos) spos :: rest) D σ H :=
  g_st (ps_setLc (own := [(x, jj)]) (tt := tYes) hc hN hy hyl hsw (pi_range1 hgz hzr cA_pa s1) ok hg (fun _ _ _ _ _ => pts_nil) (fun s H0 C cl fp => cB_pe s H0 C cl fp) hs) (lcR_read jj hi s1 hn1 hl hz hn he k)
/-- o.pop() -/
theorem g_pop {l : Addr} {xs : List V} {u : V} (ho : Gv X o σ H fun v _ => v = .ref l) (hl : H l = some (.lst xs)) (hu : xs[xs.length - 1]? = some u) (k : ∀ H1, Ex H H1 → cSs X rest D σ (upd H1 l (.lst xs.dropLast)))
    (hbase : attributeBase o "pop" X.env (eval o X.env) = eval o X.env := by rfl) (hline : (apos.endLine == pos.line) = true := by rfl)
    (hsw : swapsWith (.Call (.Attribute o "pop" apos) [] [] pos) none p'.line X.env = pure false := by rfl) : cSs X (.Expr (.Call (.Attribute o "pop" apos) [] [] pos) p' :: rest) D σ H :=
  g_st (ps_expr (pe_bm0 PySem.F.plainAttrs_list PySem.F.slot_list_pop PySem.F.type_list_pop mt_pop cE_pe hbase hline) hsw) (ho.go H (Ex.refl H) _ fun v H1 x r => ⟨by
    rw [r]
    exact .inl ⟨rfl, _, SqL.of (x _ _ hl)⟩, l, xs, u, r, rfl, x _ _ hl, hu, k H1 x⟩)
end
/-! ### what a law asks of a place -/
theorem gcd_step {a b : Int} (hb : 0 < b) : Int.gcd b (a % b) = Int.gcd a b := by
  rw [Int.gcd_comm a b]
  apply Nat.dvd_antisymm
  · refine Int.dvd_gcd (Int.gcd_dvd_left ..) ?_
    have h1 : ((Int.gcd b (a % b) : Nat) : Int) ∣ b := Int.gcd_dvd_left ..
    have h2 : ((Int.gcd b (a % b) : Nat) : Int) ∣ a % b := Int.gcd_dvd_right ..
    have e := Int.emod_add_mul_ediv a b
    have z : ((Int.gcd b (a % b) : Nat) : Int) ∣ a % b + b * (a / b) := Int.dvd_add h2 (Int.dvd_mul_of_dvd_left h1)
    rwa [e] at z
  · refine Int.dvd_gcd (Int.gcd_dvd_left ..) ?_
    have h1 : ((Int.gcd b a : Nat) : Int) ∣ b := Int.gcd_dvd_left ..
    have h2 : ((Int.gcd b a : Nat) : Int) ∣ a := Int.gcd_dvd_right ..
    have e := Int.emod_def a b
    rw [e]
    exact Int.dvd_sub h2 (Int.dvd_mul_of_dvd_left h1)
theorem gcdE_gcd {a b : Int} (ha : 0 ≤ a) (hb : 0 ≤ b) (h : 0 < a ∨ 0 < b) : (gcdE a b).1 = (Int.gcd a b : Int) := by
  have G := gcdE_ok ha hb h
  generalize (gcdE a b).1 = g at *
  have gp := G.pos
  have d1 : g ∣ (Int.gcd a b : Int) := Int.dvd_coe_gcd G.da G.db
  have d2 : (Int.gcd a b : Int) ∣ g := (G.gcd _).mp ⟨Int.gcd_dvd_left .., Int.gcd_dvd_right ..⟩
  have p2 : 0 < (Int.gcd a b : Int) := by
    have : Int.gcd a b ≠ 0 := fun z => by
      rw [Int.gcd_eq_zero_iff] at z
      omega
    omega
  have l1 := Int.le_of_dvd p2 d1
  have l2 := Int.le_of_dvd gp d2
  omega
def barredP (a b x y : Int) : Bool :=
  let g : Int := (Int.gcd a b : Int)
  (decide (0 < x % g) || decide (0 < y % g)) || (decide ((a + b) / g % 2 = 0) && decide ((x + y) / g % 2 = 1))
theorem barred_is {a b x y : Int} (ha : 0 ≤ a) (hb : 0 ≤ b) (h : 0 < a ∨ 0 < b) : barredP a b x y = (barBy a b x y).isSome := by
  have G := gcdE_ok ha hb h
  have e := gcdE_gcd ha hb h
  unfold barredP barBy
  simp only
  rw [← e]
  clear e
  generalize (gcdE a b).1 = g at *
  have gp := G.pos
  have ax : ∀ z : Int, decide (0 < z % g) = decide (z % g ≠ 0) := fun z => by
    have := Int.emod_nonneg z (show g ≠ 0 by omega)
    by_cases c : z % g = 0
    · simp [c]
    · have : 0 < z % g := by omega
      simp [c, this]
  rw [ax, ax]
  by_cases cx : x % g = 0
  · by_cases cy : y % g = 0
    · have ea : (a + b) / g = a / g + b / g := Int.add_ediv_of_dvd_left G.da
      have exy : (x + y) / g = x / g + y / g := Int.add_ediv_of_dvd_left (Int.dvd_of_emod_eq_zero cx)
      rw [ea, exy]
      have m := Int.emod_nonneg (x / g + y / g) (show (2 : Int) ≠ 0 by decide)
      have m2 := Int.emod_lt_of_pos (x / g + y / g) (show (0 : Int) < 2 by decide)
      by_cases p : (a / g + b / g) % 2 = 0
      · by_cases r : (x / g + y / g) % 2 = 1
        · simp [cx, cy, p, r]
        · have r' : (x / g + y / g) % 2 = 0 := by omega
          simp [cx, cy, p, r']
      · simp [cx, cy, p]
    · simp [cx, cy]
  · simp [cx]
end Lw

namespace Lw
open PySem PySem.Spec PyProof.Rows L2 Evl
def topS (i : Nat) : Stmt := PySem.Challenge.pw_leapways_k01_whole_told.main.body.getD i (.Pass ⟨0, 0, 0, 0⟩)
abbrev s_is_whole : Stmt := topS 6
abbrev s_is_amount : Stmt := topS 7
abbrev s_is_place : Stmt := topS 8
abbrev s_is_leap : Stmt := topS 9
abbrev s_is_counts : Stmt := topS 10
abbrev s_need_leap : Stmt := topS 11
abbrev s_need_place : Stmt := topS 12
abbrev s_need_counts : Stmt := topS 13
abbrev s_eight : Stmt := topS 15
abbrev s_place_of : Stmt := topS 16
abbrev s_Way_init : Stmt := inClass (topS 19) 0
abbrev s_Way_shows : Stmt := inClass (topS 19) 1
abbrev s_Never_init : Stmt := inClass (topS 20) 0
abbrev s_Never_shows : Stmt := inClass (topS 20) 1
abbrev s_bars_numbers : Stmt := topS 21
abbrev s_bars_sum : Stmt := topS 22
abbrev s_goes_into : Stmt := topS 23
abbrev s_told : Stmt := topS 25
abbrev s_common_of : Stmt := topS 26
abbrev s_along_and_across : Stmt := topS 27
abbrev s_evened : Stmt := topS 28
abbrev s_counts_to : Stmt := topS 29
abbrev s_law_number : Stmt := topS 31
abbrev s_law_value : Stmt := topS 32
abbrev s_law_eight : Stmt := topS 33
abbrev s_law_led : Stmt := topS 34
abbrev s_law_place : Stmt := topS 35
abbrev s_law_counts : Stmt := topS 36
abbrev s_law_bars : Stmt := topS 37
abbrev s_law_common : Stmt := topS 38
abbrev s_law_due : Stmt := topS 39
abbrev s_law_barred : Stmt := topS 40
abbrev s_law_right : Stmt := topS 41
abbrev s_law : Stmt := topS 42

local macro_rules | `(tactic| kp_flats) => `(tactic| first | exact .int _ | exact .bl _ | exact .non | exact .str _ | assumption | exact dp_mono (by assumption) (by kp_flats))
local macro_rules | `(tactic| kat_tups) => `(tactic| first | exact Bu.isinstance (by assumption) | exact Bu.int (by assumption) | exact Bu.bool (by assumption) | exact Bu.tuple (by assumption) | exact Bu.list (by assumption) | exact Bu.len (by assumption) | exact Bu.all (by assumption) | exact Bu.any (by assumption) | exact Bu.sum (by assumption) | exact Bu.min (by assumption) | exact Bu.max (by assumption) | exact Bu.abs (by assumption) | exact Bu.zip (by assumption) | exact Bu.range (by assumption))
local macro_rules | `(tactic| got_up) => `(tactic| first | assumption | omega | decide | trivial)
local macro_rules | `(tactic| kas_types) => `(tactic| first | exact ⟨_, rfl, rfl⟩ | exact ⟨_, _, rfl, rfl⟩ | exact ⟨_, _, _, rfl, rfl⟩ | exact ⟨_, _, _, _, rfl, rfl⟩ | exact ⟨_, rfl, by got_up, rfl⟩ | exact ⟨_, _, rfl, by got_up, rfl⟩ | exact ⟨_, _, _, rfl, by got_up, rfl⟩ | exact ⟨_, _, _, _, rfl, by got_up, rfl⟩ | exact ⟨_, rfl, by got_up, by got_up, rfl⟩ | exact ⟨_, _, rfl, by got_up, by got_up, rfl⟩ | exact ⟨_, _, _, rfl, by got_up, by got_up, rfl⟩ | exact ⟨_, _, _, _, rfl, by got_up, by got_up, rfl⟩)
local macro_rules | `(tactic| keq_hits) => `(tactic| first
  | ((with_reducible show Gv _ (.Constant _ _ _) _ _ _); first | exact x_int | exact x_bl | exact x_non | exact x_str)
  | ((with_reducible show Gv _ (.Name _ _) _ _ _); first | exact x_var _ (by with_reducible assumption) (by rfl) (by kp_flats))
  | ((with_reducible show Gv _ (.BinOp _ .Add _ _) _ _ _); first | exact x_add (by keq_hits) (by keq_hits))
  | ((with_reducible show Gv _ (.BinOp _ .Sub _ _) _ _ _); first | exact x_sub (by keq_hits) (by keq_hits))
  | ((with_reducible show Gv _ (.BinOp _ .Mult _ _) _ _ _); first | exact x_mul (by keq_hits) (by keq_hits) (by got_up))
  | ((with_reducible show Gv _ (.BinOp _ .FloorDiv _ _) _ _ _); first | exact x_div (by keq_hits) (by keq_hits) (by got_up))
  | ((with_reducible show Gv _ (.BinOp _ .Mod _ _) _ _ _); first | exact x_mod (by keq_hits) (by keq_hits) (by got_up))
  | ((with_reducible show Gv _ (.BinOp _ .Pow _ _) _ _ _); first | exact x_pow (by keq_hits) (by keq_hits) (by got_up))
  | ((with_reducible show Gv _ (.UnaryOp .USub _ _) _ _ _); first | exact x_neg (by keq_hits))
  | ((with_reducible show Gv _ (.UnaryOp .Not _ _) _ _ _); first | exact x_not (by keq_hits))
  | ((with_reducible show Gv _ (.Compare _ [.Lt] _ _) _ _ _); first | exact x_lt (by keq_hits) (by keq_hits))
  | ((with_reducible show Gv _ (.Compare _ [.LtE] _ _) _ _ _); first | exact x_le (by keq_hits) (by keq_hits))
  | ((with_reducible show Gv _ (.Compare _ [.Gt] _ _) _ _ _); first | exact x_gt (by keq_hits) (by keq_hits))
  | ((with_reducible show Gv _ (.Compare _ [.GtE] _ _) _ _ _); first | exact x_ge (by keq_hits) (by keq_hits))
  | ((with_reducible show Gv _ (.Compare _ [.Eq] _ _) _ _ _); first | exact x_eqI (by keq_hits) (by keq_hits) | exact x_eqB (by keq_hits) (by keq_hits))
  | ((with_reducible show Gv _ (.Compare _ [.NotEq] _ _) _ _ _); first | exact x_neI (by keq_hits) (by keq_hits) | exact x_neB (by keq_hits) (by keq_hits))
  | ((with_reducible show Gv _ (.Compare _ [.Is] _ _) _ _ _); first | exact x_isB (by keq_hits) (by keq_hits))
  | ((with_reducible show Gv _ (.Compare _ [.IsNot] _ _) _ _ _); first | exact x_notB (by keq_hits) (by keq_hits))
  | ((with_reducible show Gv _ (.BoolOp _ [_] _) _ _ _); first | exact x_and1 (by keq_hits))
  | ((with_reducible show Gv _ (.BoolOp .And (_ :: _ :: _) _) _ _ _); first | exact x_and (by keq_hits) (fun _ => (by keq_hits)))
  | ((with_reducible show Gv _ (.BoolOp .Or (_ :: _ :: _) _) _ _ _); first | exact x_or (by keq_hits) (fun _ => (by keq_hits)))
  | ((with_reducible show Gv _ (.Tuple _ _ _) _ _ _); first | exact x_tup (by ke_read) (by simp))
  | ((with_reducible show Gv _ (.List _ _) _ _ _); first | exact x_lst (by ke_read) (by simp))
  | ((with_reducible show Gv _ (.Subscript _ _ _) _ _ _); first | exact x_ixT (by keq_hits) (by keq_hits) (by rfl) | exact x_ixL (by keq_hits) (by keq_hits) (by rfl))
  | ((with_reducible show Gv _ (.Call (.Name "isinstance" _) _ _ _) _ _ _); first | exact x_isiInt (by keq_hits) (by assumption) (by kat_tups) (by kat_tups) | exact x_isiBool (by keq_hits) (by assumption) (by kat_tups) (by kat_tups) | exact x_isiTup (by keq_hits) (by first | assumption | exact isTup_is _) (by kat_tups) (by kat_tups) | exact x_isiLst (by keq_hits) (by first | assumption | exact isLst_is _) (by kat_tups) (by kat_tups))
  | ((with_reducible show Gv _ (.Call (.Name "len" _) _ _ _) _ _ _); first | exact x_lenL (by keq_hits) (by kat_tups) | exact x_lenT (by keq_hits) (by kat_tups))
  | ((with_reducible show Gv _ (.Call (.Name "abs" _) _ _ _) _ _ _); first | exact x_abs (by keq_hits) (by kat_tups))
  | ((with_reducible show Gv _ (.Call (.Name "max" _) _ _ _) _ _ _); first | exact x_max2 (by keq_hits) (by keq_hits) (by kat_tups) | exact x_maxP (by keq_hits) (by kat_tups))
  | ((with_reducible show Gv _ (.Call (.Name "min" _) _ _ _) _ _ _); first | exact x_min2 (by keq_hits) (by keq_hits) (by kat_tups) | exact x_minP (by keq_hits) (by kat_tups))
  | ((with_reducible show Gv _ (.Call (.Name "sum" _) _ _ _) _ _ _); first | exact x_sum (by keq_hits) (by kat_tups))
  | ((with_reducible show Gv _ (.Call (.Name "list" _) _ _ _) _ _ _); first | exact x_list (by keq_hits) (by kat_tups))
  | ((with_reducible show Gv _ (.Call (.Name _ _) _ _ _) _ _ _); first | exact x_call (by assumption) (by assumption) (by decide) pass0 (by ke_read) (by kas_types)))
local macro_rules | `(tactic| ke_read) => `(tactic| first | exact s_nil | exact s_cons (by keq_hits) (by ke_read))
local macro_rules | `(tactic| fold_lay) => `(tactic| first
  | ((with_reducible show Gw _ (.BoolOp .And [_] _) _ _ _); exact w_and1 (by kcf_m))
  | ((with_reducible show Gw _ (.BoolOp .Or [_] _) _ _ _); exact w_or1 (by kcf_m))
  | ((with_reducible show Gw _ (.BoolOp .And (_ :: _ :: _) _) _ _ _); exact w_and (by kcf_m) (fun _ => by fold_lay))
  | ((with_reducible show Gw _ (.BoolOp .Or (_ :: _ :: _) _) _ _ _); exact w_or (by kcf_m) (fun _ => by fold_lay)))
local macro_rules | `(tactic| kcf_m) => `(tactic| first
  | ((with_reducible show Gt _ (.UnaryOp .Not _ _) _ _ _); first | exact t_not (by kcf_m))
  | ((with_reducible show Gt _ (.Compare _ [.Lt] _ _) _ _ _); first | exact t_cmpR op_lt (rd_I0 fun _ => .bl _) (by keq_hits) (by keq_hits) (nomark _))
  | ((with_reducible show Gt _ (.Compare _ [.LtE] _ _) _ _ _); first | exact t_cmpR op_le (rd_I0 fun _ => .bl _) (by keq_hits) (by keq_hits) (nomark _))
  | ((with_reducible show Gt _ (.Compare _ [.Gt] _ _) _ _ _); first | exact t_cmpR op_gt (rd_I0 fun _ => .bl _) (by keq_hits) (by keq_hits) (nomark _))
  | ((with_reducible show Gt _ (.Compare _ [.GtE] _ _) _ _ _); first | exact t_cmpR op_ge (rd_I0 fun _ => .bl _) (by keq_hits) (by keq_hits) (nomark _))
  | ((with_reducible show Gt _ (.Compare _ [.Eq] _ _) _ _ _); first | exact t_cmpR op_eq rd_eqI (by keq_hits) (by keq_hits) (nomark _) | exact t_cmpR op_eq rd_eqB (by keq_hits) (by keq_hits) (nomark _))
  | ((with_reducible show Gt _ (.Compare _ [.NotEq] _ _) _ _ _); first | exact t_cmpR op_ne rd_neI (by keq_hits) (by keq_hits) (nomark _) | exact t_cmpR op_ne rd_neB (by keq_hits) (by keq_hits) (nomark _))
  | ((with_reducible show Gt _ (.BoolOp _ _ _) _ _ _); first | exact t_w (by fold_lay))
  | exact t_val (by keq_hits))
section
variable {P : Program} {w : World} {K : PySem.W.Frag} {mg : Str → Option Value} {base : Heap}
theorem sc_is_whole : FnScope ["thing"] ["thing"] (defScope s_is_whole) := ⟨rfl, rfl, rfl, by decide +kernel, rfl, by decide +kernel, by decide +kernel⟩
def F_is_whole : List PyData → PyData → Prop := fun ds d => ∃ x, ds = [x] ∧ d = .bool (isInt x)
theorem ok_is_whole (B : Bu mg) (T : Th K mg "is_whole" s_is_whole ["thing"]) : Df P w K mg base CX0 "is_whole" 1 ["thing"] (spD K F_is_whole) := by
  refine Df.go 0 T sc_is_whole (fun ds d ⟨x, h, _⟩ => by rw [h]; rfl) fun f cdv A outer s H0 E hr hn nd ds d vs H Q ⟨x, h1, h2⟩ ha k => ?_
  subst h1 h2
  obtain ⟨n0, _⟩ := hn
  obtain ⟨v, rfl, hv⟩ := dp1 ha
  obtain ⟨b1, b2, k1, k2, e⟩ := isInt_is x
  exact g_retD (d := .bool (b1 && !b2)) (by keq_hits) (by rw [e]) k
theorem sc_is_amount : FnScope ["thing"] ["thing"] (defScope s_is_amount) := ⟨rfl, rfl, rfl, by decide +kernel, rfl, by decide +kernel, by decide +kernel⟩
def F_is_amount : List PyData → PyData → Prop := fun ds d => ∃ x, ds = [x] ∧ d = .bool (isAmt x)
theorem ok_is_amount (B : Bu mg) (T : Th K mg "is_amount" s_is_amount ["thing"]) (d1 : Df P w K mg base CX0 "is_whole" 1 ["thing"] (spD K F_is_whole)) : Df P w K mg base CX0 "is_amount" 2 ["thing"] (spD K F_is_amount) := by
  refine Df.go 1 T sc_is_amount (fun ds d ⟨x, h, _⟩ => by rw [h]; rfl) fun f cdv A outer s H0 E hr hn nd ds d vs H Q ⟨x, h1, h2⟩ ha k => ?_
  subst h1 h2
  obtain ⟨n0, _⟩ := hn
  obtain ⟨v, rfl, hv⟩ := dp1 ha
  cases x with
  | int i => exact g_retD (d := .bool (isInt (.int i) && decide (0 ≤ i))) (by keq_hits) rfl k
  | _ => exact g_retD (d := .bool (false && false)) (x_and (by keq_hits) fun z => nomatch z) rfl k
theorem sc_is_place : FnScope ["thing"] ["thing"] (defScope s_is_place) := ⟨rfl, rfl, rfl, by decide +kernel, rfl, by decide +kernel, by decide +kernel⟩
def F_is_place : List PyData → PyData → Prop := fun ds d => ∃ x, ds = [x] ∧ d = .bool (isPl x)
theorem ok_is_place (B : Bu mg) (T : Th K mg "is_place" s_is_place ["thing"]) (d1 : Df P w K mg base CX0 "is_whole" 1 ["thing"] (spD K F_is_whole)) : Df P w K mg base CX0 "is_place" 2 ["thing"] (spD K F_is_place) := by
  refine Df.go 1 T sc_is_place (fun ds d ⟨x, h, _⟩ => by rw [h]; rfl) fun f cdv A outer s H0 E hr hn nd ds d vs H Q ⟨x, h1, h2⟩ ha k => ?_
  subst h1 h2
  obtain ⟨n0, _⟩ := hn
  obtain ⟨v, rfl, hv⟩ := dp1 ha
  cases x with
  | tuple es =>
    match es, hv with
    | [], hv => exact g_retD (d := .bool (true && (false && false))) (x_and (by keq_hits) fun _ => x_and (gd_is (by keq_hits) (by rfl)) fun z => nomatch z) rfl k
    | [p], hv => exact g_retD (d := .bool (true && (false && false))) (x_and (by keq_hits) fun _ => x_and (gd_is (by keq_hits) (by rfl)) fun z => nomatch z) rfl k
    | [p, q], hv => exact g_retD (d := .bool (true && (true && (isInt p && isInt q)))) (x_and (by keq_hits) fun _ => x_and (gd_is (by keq_hits) (by rfl)) fun _ => by keq_hits) rfl k
    | p :: q :: r :: more, hv =>
      exact g_retD (d := .bool (true && (false && false))) (x_and (by keq_hits) fun _ => x_and (gd_is (x_eqI (x_lenT (by keq_hits) (by kat_tups)) (by keq_hits)) (by
        have z : ¬ (((p :: q :: r :: more).length : Nat) : Int) = 2 := by
          simp only [List.length_cons]
          omega
        rw [decide_eq_false z])) fun z => nomatch z) rfl k
  | _ => exact g_retD (d := .bool (false && false)) (x_and (gd_is (by keq_hits) (by rfl)) fun z => nomatch z) rfl k
theorem sc_is_leap : FnScope ["thing"] ["thing"] (defScope s_is_leap) := ⟨rfl, rfl, rfl, by decide +kernel, rfl, by decide +kernel, by decide +kernel⟩
def F_is_leap : List PyData → PyData → Prop := fun ds d => ∃ x, ds = [x] ∧ d = .bool (isLp x)
theorem ok_is_leap (B : Bu mg) (T : Th K mg "is_leap" s_is_leap ["thing"]) (d1 : Df P w K mg base CX0 "is_place" 2 ["thing"] (spD K F_is_place)) : Df P w K mg base CX0 "is_leap" 3 ["thing"] (spD K F_is_leap) := by
  refine Df.go 2 T sc_is_leap (fun ds d ⟨x, h, _⟩ => by rw [h]; rfl) fun f cdv A outer s H0 E hr hn nd ds d vs H Q ⟨x, h1, h2⟩ ha k => ?_
  subst h1 h2
  obtain ⟨n0, _⟩ := hn
  obtain ⟨v, rfl, hv⟩ := dp1 ha
  by_cases hp : isPl x = true
  · obtain ⟨i, j, rfl⟩ := isPl_pair hp
    exact g_retD (d := .bool (isPl (.tuple [.int i, .int j]) && (decide (0 ≤ if j < i then j else i) && decide (0 < if j > i then j else i)))) (by keq_hits) rfl k
  · have hf : isPl x = false := by simpa using hp
    refine g_retD (d := .bool (isPl x && false)) (x_and (by keq_hits) fun z => absurd (z.symm.trans hf) (by decide)) ?_ k
    rw [isLp_of hf, hf] <;> rfl
theorem sc_is_counts : FnScope ["thing", "count"] ["thing"] (defScope s_is_counts) := ⟨rfl, rfl, rfl, by decide +kernel, rfl, by decide +kernel, by decide +kernel⟩
def F_is_counts : List PyData → PyData → Prop := fun ds d => ∃ x, ds = [x] ∧ lenOk x ∧ d = .bool (isCt x)
theorem ok_is_counts (B : Bu mg) (T : Th K mg "is_counts" s_is_counts ["thing"]) (d1 : Df P w K mg base CX0 "is_amount" 2 ["thing"] (spD K F_is_amount)) : Df P w K mg base CX0 "is_counts" 3 ["thing"] (spD K F_is_counts) := by
  refine Df.go 2 T sc_is_counts (fun ds d ⟨x, h, _⟩ => by rw [h]; rfl) fun f cdv A outer s H0 E hr hn nd ds d vs H Q ⟨x, h1, h0, h2⟩ ha k => ?_
  subst h1 h2
  obtain ⟨n0, n1, _⟩ := hn
  obtain ⟨v, rfl, hv⟩ := dp1 ha
  cases x with
  | list es =>
    by_cases he : es.length = 8
    · refine g_retD (d := .bool (true && (true && ((es.map isAmt).all id)))) (x_and (by keq_hits) fun _ => x_and (gd_is (by keq_hits) (by rw [he] <;> rfl)) fun _ => x_and1 (x_all (bs := es.map isAmt) ?_ (by kat_tups))) (by show _ = PyData.bool (decide (es.length = 8) && _); rw [he] <;> rfl) k
      refine x_lcL (fs := (es.map isAmt).map .bool) 1 nd (by keq_hits) (blkOk_by (N := ["thing", "count"]) (sc := defScope s_is_counts) (by decide +kernel)) (by rw [List.length_map, List.length_map]) (by rw [List.length_map, List.length_map, he]; decide) (nls_map _ (fun _ => rfl) _) (fun i e f v2 H1 hi hf x1 hv2 s0 H00 C cl fp => ?_) n1 (fun _ _ _ _ _ => pg_name nd n1 (Or.inl rfl))
      rw [List.map_map, List.getElem?_map, hi] at hf
      have hf' := Option.some.inj hf
      subst hf'
      exact (by keq_hits)
    · refine g_retD (d := .bool (true && (false && false))) (x_and (by keq_hits) fun _ => x_and (gd_is (by keq_hits) ?_) fun z => nomatch z) (by show _ = PyData.bool (decide (es.length = 8) && _); rw [decide_eq_false he] <;> rfl) k
      have z : ¬ ((es.length : Nat) : Int) = 8 := by omega
      rw [decide_eq_false z]
  | _ => exact g_retD (d := .bool (false && false)) (x_and (gd_is (by keq_hits) (by rfl)) fun z => nomatch z) rfl k

theorem sc_need_leap : FnScope ["thing"] ["thing"] (defScope s_need_leap) := ⟨rfl, rfl, rfl, by decide +kernel, rfl, by decide +kernel, by decide +kernel⟩
def F_need_leap : List PyData → PyData → Prop := fun ds d => ∃ x, ds = [x] ∧ isLp x = true ∧ d = .none
theorem ok_need_leap (T : Th K mg "need_leap" s_need_leap ["thing"]) (d1 : Df P w K mg base CX0 "is_leap" 3 ["thing"] (spD K F_is_leap)) : Df P w K mg base CX0 "need_leap" 4 ["thing"] (spD K F_need_leap) := by
  refine Df.go 3 T sc_need_leap (fun ds d ⟨x, h, _⟩ => by rw [h]; rfl) fun f cdv A outer s H0 E hr hn nd ds d vs H Q ⟨x, h1, h0, h2⟩ ha k => ?_
  subst h1 h2
  obtain ⟨n0, _⟩ := hn
  obtain ⟨v, rfl, hv⟩ := dp1 ha
  exact g_when (t := !isLp x) (by kcf_m) (fun z => by rw [h0] at z; cases z) fun _ H1 e1 => g_nil (k .non H1 e1 .non)
theorem sc_need_place : FnScope ["thing"] ["thing"] (defScope s_need_place) := ⟨rfl, rfl, rfl, by decide +kernel, rfl, by decide +kernel, by decide +kernel⟩
def F_need_place : List PyData → PyData → Prop := fun ds d => ∃ x, ds = [x] ∧ isPl x = true ∧ d = .none
theorem ok_need_place (T : Th K mg "need_place" s_need_place ["thing"]) (d1 : Df P w K mg base CX0 "is_place" 2 ["thing"] (spD K F_is_place)) : Df P w K mg base CX0 "need_place" 3 ["thing"] (spD K F_need_place) := by
  refine Df.go 2 T sc_need_place (fun ds d ⟨x, h, _⟩ => by rw [h]; rfl) fun f cdv A outer s H0 E hr hn nd ds d vs H Q ⟨x, h1, h0, h2⟩ ha k => ?_
  subst h1 h2
  obtain ⟨n0, _⟩ := hn
  obtain ⟨v, rfl, hv⟩ := dp1 ha
  exact g_when (t := !isPl x) (by kcf_m) (fun z => by rw [h0] at z; cases z) fun _ H1 e1 => g_nil (k .non H1 e1 .non)
theorem sc_need_counts : FnScope ["thing"] ["thing"] (defScope s_need_counts) := ⟨rfl, rfl, rfl, by decide +kernel, rfl, by decide +kernel, by decide +kernel⟩
def F_need_counts : List PyData → PyData → Prop := fun ds d => ∃ x, ds = [x] ∧ (lenOk x ∧ isCt x = true) ∧ d = .none
theorem ok_need_counts (T : Th K mg "need_counts" s_need_counts ["thing"]) (d1 : Df P w K mg base CX0 "is_counts" 3 ["thing"] (spD K F_is_counts)) : Df P w K mg base CX0 "need_counts" 4 ["thing"] (spD K F_need_counts) := by
  refine Df.go 3 T sc_need_counts (fun ds d ⟨x, h, _⟩ => by rw [h]; rfl) fun f cdv A outer s H0 E hr hn nd ds d vs H Q ⟨x, h1, ⟨hl, h0⟩, h2⟩ ha k => ?_
  subst h1 h2
  obtain ⟨n0, _⟩ := hn
  obtain ⟨v, rfl, hv⟩ := dp1 ha
  exact g_when (t := !isCt x) (by kcf_m) (fun z => by rw [h0] at z; cases z) fun _ H1 e1 => g_nil (k .non H1 e1 .non)
theorem sc_eight : FnScope ["leap", "a", "b"] ["leap"] (defScope s_eight) := ⟨rfl, rfl, rfl, by decide +kernel, rfl, by decide +kernel, by decide +kernel⟩
def F_eight : List PyData → PyData → Prop := fun ds d => ∃ a b, ds = [pr a b] ∧ isLp (pr a b) = true ∧ d = prs (eightL a b)
theorem ok_eight (T : Th K mg "eight" s_eight ["leap"]) (d1 : Df P w K mg base CX0 "need_leap" 4 ["thing"] (spD K F_need_leap)) : Df P w K mg base CX0 "eight" 5 ["leap"] (spD K F_eight) := by
  refine Df.go 4 T sc_eight (fun ds d ⟨x, _, h, _⟩ => by rw [h]; rfl) fun f cdv A outer s H0 E hr hn nd ds d vs H Q ⟨a, b, h1, h0, h2⟩ ha k => ?_
  subst h1 h2
  obtain ⟨n0, n1, n2, _⟩ := hn
  obtain ⟨v, rfl, hv⟩ := dp1 ha
  refine g_expr (R := fun v' H' => Dq K H' v' .none) (x_call d1 hr (by decide) pass0 (by ke_read) ⟨_, rfl, h0, rfl⟩) fun _ H1 e1 _ => ?_
  refine g_unp2I 1 2 nd n1 n2 (n := a) (m := b) (by keq_hits) fun H2 e2 => ?_
  exact g_retD (by keq_hits) (by rfl) fun v2 H3 e3 q => k v2 H3 ((e1.trans e2).trans e3) q
theorem sc_place_of : FnScope ["leap", "counts", "x", "y", "count", "along", "across"] ["leap", "counts"] (defScope s_place_of) := ⟨rfl, rfl, rfl, by decide +kernel, rfl, by decide +kernel, by decide +kernel⟩
def F_place_of : List PyData → PyData → Prop := fun ds d => ∃ a b cs, ds = [pr a b, lsI cs] ∧ (isLp (pr a b) = true ∧ Bd 60000 a ∧ Bd 60000 b ∧ CtOk 60000 cs) ∧ d = pr (led a b cs).1 (led a b cs).2
theorem ok_place_of (B : Bu mg) (T : Th K mg "place_of" s_place_of ["leap", "counts"]) (d1 : Df P w K mg base CX0 "need_leap" 4 ["thing"] (spD K F_need_leap)) (d2 : Df P w K mg base CX0 "need_counts" 4 ["thing"] (spD K F_need_counts)) (d3 : Df P w K mg base CX0 "eight" 5 ["leap"] (spD K F_eight)) :
    Df P w K mg base CX0 "place_of" 6 ["leap", "counts"] (spD K F_place_of) := by
  refine Df.go 5 T sc_place_of (fun ds d ⟨_, _, _, h, _⟩ => by rw [h]; rfl) fun f cdv A outer s H0 E hr hn nd ds d vs H Q ⟨a, b, cs, h1, ⟨h0, ba, bb, hc⟩, h2⟩ ha k => ?_
  subst h1 h2
  obtain ⟨n0, n1, n2, n3, n4, n5, n6, _⟩ := hn
  obtain ⟨v, u, rfl, hv, hu⟩ := dp2 ha
  refine g_expr (R := fun v' H' => Dq K H' v' .none) (x_call d1 hr (by decide) pass0 (by ke_read) ⟨_, rfl, h0, rfl⟩) fun _ H1 e1 _ => ?_
  refine g_expr (R := fun v' H' => Dq K H' v' .none) (x_call d2 hr (by decide) pass0 (by ke_read) ⟨_, rfl, ⟨by show (cs.map PyData.int).length ≤ _; rw [List.length_map, hc.1]; decide, isCt_ok hc⟩, rfl⟩) fun _ H2 e2 _ => ?_
  refine g_setI 2 nd n2 (n := 0) (by keq_hits) fun H3 e3 => ?_
  refine g_setI 3 nd n3 (n := 0) (by keq_hits) fun H4 e4 => ?_
  have e14 : Ex H H4 := ((e1.trans e2).trans e3).trans e4
  refine g_zip (ds1 := cs.map .int) (ds2 := (eightL a b).map fun p => pr p.1 p.2) (pg_tup rfl (pgs_cons (pg_name (i := 4) nd n4 (.inl rfl)) (pgs_cons (pg_tup rfl (pgs_cons (pg_name (i := 5) nd n5 (.inl rfl)) (pgs_cons (pg_name (i := 6) nd n6 (.inl rfl)) pgs_nil))) pgs_nil)))
    (x_var 1 n1 (by rfl) (dp_mono e14 hu)) (x_call d3 hr (by decide) pass0 (s_cons (x_var 0 n0 (by rfl) (dp_mono e14 hv)) s_nil) ⟨a, b, rfl, h0, rfl⟩) (by rw [List.length_map, List.length_map, hc.1]; rfl)
    (fun i σ' _ => ∃ w4 w5 w6, σ' = [some v, some u, some (.int (ledL (cs.take i) ((eightL a b).take i)).1), some (.int (ledL (cs.take i) ((eightL a b).take i)).2), w4, w5, w6]) (fun _ _ => ⟨none, none, none, rfl⟩) PassesOwn.never B.zip
    (fun i c p v2 σ' H' hi hj x1 r ⟨w4, w5, w6, hσ⟩ => ?_) (fun _ _ _ _ _ p => p) m_tgt3 fun σ' H' x1 ⟨w4, w5, w6, hσ⟩ => ?_
  · rw [List.getElem?_map] at hi hj
    obtain ⟨c, hi', rfl⟩ := Option.map_eq_some_iff.mp hi
    obtain ⟨p, hj', rfl⟩ := Option.map_eq_some_iff.mp hj
    subst hσ
    have st := ledL_snoc cs (eightL a b) i c p hi' hj'
    have bc := (hc.2 c (List.mem_of_getElem? hi')).2
    obtain ⟨b1, b2⟩ := eightL_bd ba bb p (List.mem_of_getElem? hj')
    have m1 : MOk c p.1 := bc.mok b1 (by decide) (by decide) (by decide)
    have m2 : MOk c p.2 := bc.mok b2 (by decide) (by decide) (by decide)
    refine g_tgt3 r ?_
    refine g_augI 2 nd n2 (by rfl) (m := c * p.1) (by keq_hits) fun H5 e5 => ?_
    refine g_augI 3 nd n3 (by rfl) (m := c * p.2) (by keq_hits) fun H6 e6 => g_nil ⟨e5.trans e6, some (.int c), some (.int p.1), some (.int p.2), ?_⟩
    rw [st]
    rfl
  · subst hσ
    rw [List.length_map, List.take_length, List.take_of_length_le (by rw [hc.1]; exact Nat.le_refl 8)]
    exact g_retD (by keq_hits) (by rfl) fun v2 H3 e3 q => k v2 H3 ((e14.trans x1).trans e3) q

theorem sc_goes_into : FnScope ["by", "one", "other"] ["by", "one", "other"] (defScope s_goes_into) := ⟨rfl, rfl, rfl, by decide +kernel, rfl, by decide +kernel, by decide +kernel⟩
def F_goes_into : List PyData → PyData → Prop := fun ds d => ∃ q a b, ds = [.int q, .int a, .int b] ∧ 0 < q ∧ d = .bool (into q a b)
theorem ok_goes_into (T : Th K mg "goes_into" s_goes_into ["by", "one", "other"]) : Df P w K mg base CX0 "goes_into" 1 ["by", "one", "other"] (spD K F_goes_into) := by
  refine Df.go 0 T sc_goes_into (fun ds d ⟨_, _, _, h, _⟩ => by rw [h]; rfl) fun f cdv A outer s H0 E hr hn nd ds d vs H Q ⟨q, a, b, h1, h0, h2⟩ ha k => ?_
  subst h1 h2
  obtain ⟨n0, n1, n2, _⟩ := hn
  have hvs : vs = [.int q, .int a, .int b] := dpa_ints [q, a, b] ha
  subst hvs
  exact g_retD (by keq_hits) (by rfl) k
theorem sc_bars_numbers : FnScope ["by", "leap", "place"] ["by", "leap", "place"] (defScope s_bars_numbers) := ⟨rfl, rfl, rfl, by decide +kernel, rfl, by decide +kernel, by decide +kernel⟩
def F_bars_numbers : List PyData → PyData → Prop := fun ds d => ∃ q a b x y, ds = [.int q, pr a b, pr x y] ∧ 0 < q ∧ d = .bool (into q a b && !into q x y)
theorem ok_bars_numbers (T : Th K mg "bars_numbers" s_bars_numbers ["by", "leap", "place"]) (d1 : Df P w K mg base CX0 "goes_into" 1 ["by", "one", "other"] (spD K F_goes_into)) : Df P w K mg base CX0 "bars_numbers" 2 ["by", "leap", "place"] (spD K F_bars_numbers) := by
  refine Df.go 1 T sc_bars_numbers (fun ds d ⟨_, _, _, _, _, h, _⟩ => by rw [h]; rfl) fun f cdv A outer s H0 E hr hn nd ds d vs H Q ⟨q, a, b, x, y, h1, h0, h2⟩ ha k => ?_
  subst h1 h2
  obtain ⟨n0, n1, n2, _⟩ := hn
  cases ha with
  | cons hq ha =>
    obtain ⟨v, u, rfl, hv, hu⟩ := dp2 ha
    exact g_retD (by keq_hits) (by rfl) k
theorem sc_bars_sum : FnScope ["by", "leap", "place", "x", "y"] ["by", "leap", "place"] (defScope s_bars_sum) := ⟨rfl, rfl, rfl, by decide +kernel, rfl, by decide +kernel, by decide +kernel⟩
def F_bars_sum : List PyData → PyData → Prop := fun ds d => ∃ q a b x y, ds = [.int q, pr a b, pr x y] ∧ 0 < q ∧ d = .bool (into q (a + b) (a - b) && !decide ((x + y) % q = 0))
theorem ok_bars_sum (T : Th K mg "bars_sum" s_bars_sum ["by", "leap", "place"]) (d1 : Df P w K mg base CX0 "goes_into" 1 ["by", "one", "other"] (spD K F_goes_into)) : Df P w K mg base CX0 "bars_sum" 2 ["by", "leap", "place"] (spD K F_bars_sum) := by
  refine Df.go 1 T sc_bars_sum (fun ds d ⟨_, _, _, _, _, h, _⟩ => by rw [h]; rfl) fun f cdv A outer s H0 E hr hn nd ds d vs H Q ⟨q, a, b, x, y, h1, h0, h2⟩ ha k => ?_
  subst h1 h2
  obtain ⟨n0, n1, n2, n3, n4, _⟩ := hn
  cases ha with
  | cons hq ha =>
    obtain ⟨v, u, rfl, hv, hu⟩ := dp2 ha
    refine g_unp2I 3 4 nd n3 n4 (n := x) (m := y) (by keq_hits) fun H1 e1 => ?_
    exact g_retD (by keq_hits) (by rfl) fun v2 H2 e2 r => k v2 H2 (e1.trans e2) r
theorem sc_common_of : FnScope ["a", "b", "old", "new", "old_a", "new_a", "old_b", "new_b", "times"] ["a", "b"] (defScope s_common_of) := ⟨rfl, rfl, rfl, by decide +kernel, rfl, by decide +kernel, by decide +kernel⟩
def F_common_of : List PyData → PyData → Prop := fun ds d => ∃ a b, ds = [.int a, .int b] ∧ (0 ≤ a ∧ 0 ≤ b ∧ (0 < a ∨ 0 < b) ∧ Bd 2000 a ∧ Bd 2000 b) ∧ d = .tuple [.int (gcdE a b).1, .int (gcdE a b).2.1, .int (gcdE a b).2.2]
theorem ok_common_of (T : Th K mg "common_of" s_common_of ["a", "b"]) : Df P w K mg base CX0 "common_of" 1 ["a", "b"] (spD K F_common_of) := by
  refine Df.go 0 T sc_common_of (fun ds d ⟨_, _, h, _⟩ => by rw [h]; rfl) fun f cdv A outer s H0 E hr hn nd ds d vs H Q ⟨a, b, h1, ⟨a0, b0, ab, ba, bb⟩, h2⟩ ha k => ?_
  subst h1 h2
  obtain ⟨n0, n1, n2, n3, n4, n5, n6, n7, n8, _⟩ := hn
  have hvs : vs = [.int a, .int b] := dpa_ints [a, b] ha
  subst hvs
  refine g_parI 2 3 nd n2 n3 (by decide) (n := a) (m := b) (by ke_read) fun H1 e1 => ?_
  refine g_unp2I 4 5 nd n4 n5 (n := 1) (m := 0) (by keq_hits) fun H2 e2 => ?_
  refine g_unp2I 6 7 nd n6 n7 (n := 0) (m := 1) (by keq_hits) fun H3 e3 => ?_
  have e13 : Ex H H3 := (e1.trans e2).trans e3
  refine g_while (t := fun (_ : Nat) (σ' : L2.St) (_ : Hp) => match σ'[3]? with | some (some (V.int n)) => !decide (n = 0) | _ => false)
    (fun m σ' H' => ∃ o n oa na ob nb w8 j, σ' = [some (.int a), some (.int b), some (.int o), some (.int n), some (.int oa), some (.int na), some (.int ob), some (.int nb), w8] ∧ EI a b o n oa na ob nb ∧ m = n.toNat ∧ n.toNat ≤ j ∧ gcdS j (o, n, oa, na, ob, nb) = gcdS b.toNat (a, b, 1, 0, 0, 1) ∧ Ex H H')
    b.toNat ⟨a, b, 1, 0, 0, 1, none, b.toNat, rfl, EI.start a0 b0 ab, rfl, Nat.le_refl _, rfl, e13⟩ PassesOwn.never
    (fun m σ' H' ⟨o, n, oa, na, ob, nb, w8, j, hσ, I, hm, hj, hg, x1⟩ => ?_) (fun m σ' H' ⟨o, n, oa, na, ob, nb, w8, j, hσ, I, hm, hj, hg, x1⟩ ht H4 e4 => ?_) (fun m σ' H' ⟨o, n, oa, na, ob, nb, w8, j, hσ, I, hm, hj, hg, x1⟩ ht H4 e4 => ?_)
  · subst hσ
    exact (by kcf_m)
  · subst hσ
    have hn0 : n ≠ 0 := fun z => by subst z; cases ht
    have hnp : 0 < n := by have := I.n0; omega
    obtain ⟨b1, b2, b3, b4, b5, b6⟩ := I.bd ba bb
    have bt : Bd 2002 (o / n) := b1.div
    have hd : CDivW o n := b2.cdiv (by decide) (by decide) hnp
    have m1 : MOk (o / n) n := bt.mok b2 (by decide) (by decide) (by decide)
    have m2 : MOk (o / n) na := bt.mok b4 (by decide) (by decide) (by decide)
    have m3 : MOk (o / n) nb := bt.mok b6 (by decide) (by decide) (by decide)
    refine g_setI 8 nd n8 (n := o / n) (by keq_hits) fun H5 e5 => ?_
    refine g_parI 2 3 nd n2 n3 (by decide) (n := n) (m := o - o / n * n) (by ke_read) fun H6 e6 => ?_
    refine g_parI 4 5 nd n4 n5 (by decide) (n := na) (m := oa - o / n * na) (by ke_read) fun H7 e7 => ?_
    refine g_parI 6 7 nd n6 n7 (by decide) (n := nb) (m := ob - o / n * nb) (by ke_read) fun H8 e8 => ?_
    have I2 := I.step hnp
    have r1 : o - o / n * n < n := by
      have z := Int.emod_add_mul_ediv o n
      rw [Int.mul_comm n] at z
      have z2 := Int.emod_lt_of_pos o hnp
      omega
    refine g_nil ⟨(o - o / n * n).toNat, by subst hm; omega, n, o - o / n * n, na, oa - o / n * na, nb, ob - o / n * nb, some (.int (o / n)), j - 1, rfl, I2, rfl, by omega, ?_, ((((x1.trans e4).trans e5).trans e6).trans e7).trans e8⟩
    rw [← hg]
    obtain ⟨i, rfl⟩ : ∃ i, j = i + 1 := ⟨j - 1, by omega⟩
    show gcdS i _ = (if n = 0 then _ else _)
    rw [if_neg hn0]
  · subst hσ
    have hn0 : n = 0 := by
      have z : (!decide (n = 0)) = false := ht
      simpa using z
    subst hn0
    have hs : gcdS j (o, 0, oa, na, ob, nb) = (o, 0, oa, na, ob, nb) := by cases j <;> rfl
    rw [hs] at hg
    refine g_retD (d := .tuple [.int o, .int oa, .int ob]) (by keq_hits) ?_ fun v2 H5 e5 r => k v2 H5 ((x1.trans e4).trans e5) r
    unfold gcdE
    rw [← hg]
theorem sc_along_and_across : FnScope ["of_a", "of_b", "x", "y"] ["of_a", "of_b", "x", "y"] (defScope s_along_and_across) := ⟨rfl, rfl, rfl, by decide +kernel, rfl, by decide +kernel, by decide +kernel⟩
def t4 (t : P4) : PyData := .tuple [.int t.1, .int t.2.1, .int t.2.2.1, .int t.2.2.2]
def F_along_and_across : List PyData → PyData → Prop := fun ds d => ∃ u v x y, ds = [.int u, .int v, .int x, .int y] ∧ (Bd 3000 u ∧ Bd 3000 v ∧ Bd 3000 x ∧ Bd 3000 y) ∧ d = t4 (alongA u v x y)
theorem ok_along_and_across (T : Th K mg "along_and_across" s_along_and_across ["of_a", "of_b", "x", "y"]) : Df P w K mg base CX0 "along_and_across" 1 ["of_a", "of_b", "x", "y"] (spD K F_along_and_across) := by
  refine Df.go 0 T sc_along_and_across (fun ds d ⟨_, _, _, _, h, _⟩ => by rw [h]; rfl) fun f cdv A outer s H0 E hr hn nd ds d vs H Q ⟨u, v, x, y, h1, ⟨bu, bv, bx, by'⟩, h2⟩ ha k => ?_
  subst h1 h2
  obtain ⟨n0, n1, n2, n3, _⟩ := hn
  have hvs : vs = [.int u, .int v, .int x, .int y] := dpa_ints [u, v, x, y] ha
  subst hvs
  have m1 : MOk u x := bu.mok bx (by decide) (by decide) (by decide)
  have m2 : MOk v x := bv.mok bx (by decide) (by decide) (by decide)
  have m3 : MOk v y := bv.mok by' (by decide) (by decide) (by decide)
  have m4 : MOk u y := bu.mok by' (by decide) (by decide) (by decide)
  exact g_retD (by keq_hits) (by rfl) k
theorem sc_evened : FnScope ["a", "b", "parts", "a_along", "b_along", "b_across", "a_across", "ends_odd", "sides_odd", "more_along", "more_across"] ["a", "b", "parts"] (defScope s_evened) := ⟨rfl, rfl, rfl, by decide +kernel, rfl, by decide +kernel, by decide +kernel⟩
def F_evened : List PyData → PyData → Prop := fun ds d => ∃ a b t, ds = [.int a, .int b, t4 t] ∧ (Bd 9000 a ∧ Bd 9000 b) ∧ d = t4 (evenP a b t)
theorem ok_evened (T : Th K mg "evened" s_evened ["a", "b", "parts"]) : Df P w K mg base CX0 "evened" 1 ["a", "b", "parts"] (spD K F_evened) := by
  refine Df.go 0 T sc_evened (fun ds d ⟨_, _, _, h, _⟩ => by rw [h]; rfl) fun f cdv A outer s H0 E hr hn nd ds d vs H Q ⟨a, b, ⟨al, bl, bc, ac⟩, h1, ⟨ba, bb⟩, h2⟩ ha k => ?_
  subst h1 h2
  obtain ⟨n0, n1, n2, n3, n4, n5, n6, n7, n8, n9, n10, _⟩ := hn
  cases ha with
  | cons h1 ha =>
    obtain ⟨v, u, rfl, hv, hu⟩ := dp2 ha
    have hv' := dp_int hv
    have h1' := dp_int h1
    subst hv' h1'
    refine g_unp4I 3 4 5 6 nd n3 n4 n5 n6 (n := al) (m := bl) (l := bc) (o := ac) (by keq_hits) fun H1 e1 => ?_
    refine g_setI 7 nd n7 (n := (al - bc) % 2) (by keq_hits) fun H2 e2 => ?_
    refine g_setI 8 nd n8 (n := (bl - ac) % 2) (by keq_hits) fun H3 e3 => ?_
    have e13 : Ex H H3 := (e1.trans e2).trans e3
    refine g_ifC (t := decide (b % 2 = 0)) (fun σ' H' => ∃ m1 m2 : Int, σ' = [some (.int a), some (.int b), some u, some (.int al), some (.int bl), some (.int bc), some (.int ac), some (.int ((al - bc) % 2)), some (.int ((bl - ac) % 2)), some (.int m1), some (.int m2)] ∧ Ex H H' ∧ (m1.natAbs ≤ 1 ∧ m2.natAbs ≤ 1) ∧ moreP a b ((al - bc) % 2) ((bl - ac) % 2) = (m1, m2))
      (by kcf_m) (fun z H4 e4 => ?_) (fun z H4 e4 => ?_) fun σ' H4 ⟨m1, m2, hσ, x4, ⟨z1, z2⟩, hm⟩ => ?_
    · have z' := of_dec z
      refine g_parI 9 10 nd n9 n10 (by decide) (n := (bl - ac) % 2) (m := (al - bc) % 2) (by ke_read) fun H5 e5 => g_nil ?_
      exact ⟨_, _, rfl, (e13.trans e4).trans e5, ⟨by omega, by omega⟩, by unfold moreP; rw [if_pos z']⟩
    · have z' := of_ndec z
      refine g_if (t := decide (a % 2 = 0)) (by kcf_m) (fun y H5 e5 => ?_) (fun y H5 e5 => ?_)
      · have y' := of_dec y
        refine g_parI 9 10 nd n9 n10 (by decide) (n := (al - bc) % 2) (m := (bl - ac) % 2) (by ke_read) fun H6 e6 => g_nil (g_nil ?_)
        exact ⟨_, _, rfl, ((e13.trans e4).trans e5).trans e6, ⟨by omega, by omega⟩, by unfold moreP; rw [if_neg z', if_pos y']⟩
      · have y' := of_ndec y
        refine g_parI 9 10 nd n9 n10 (by decide) (n := (al - bc) % 2) (m := 0) (by ke_read) fun H6 e6 => g_nil (g_nil ?_)
        exact ⟨_, _, rfl, ((e13.trans e4).trans e5).trans e6, ⟨by omega, by omega⟩, by unfold moreP; rw [if_neg z', if_neg y']⟩
    · subst hσ
      have q1 : Bd 1 m1 := Bd.small z1 (by decide)
      have q2 : Bd 1 m2 := Bd.small z2 (by decide)
      have k1 : MOk m1 b := q1.mok bb (by decide) (by decide) (by decide)
      have k2 : MOk m1 a := q1.mok ba (by decide) (by decide) (by decide)
      have k3 : MOk m2 a := q2.mok ba (by decide) (by decide) (by decide)
      have k4 : MOk m2 b := q2.mok bb (by decide) (by decide) (by decide)
      refine g_retD (by keq_hits) ?_ fun v2 H5 e5 r => k v2 H5 (x4.trans e5) r
      unfold evenP
      rw [hm]
      rfl
theorem sc_counts_to : FnScope ["parts", "a_along", "b_along", "b_across", "a_across", "p", "q", "r", "s", "many"] ["parts"] (defScope s_counts_to) := ⟨rfl, rfl, rfl, by decide +kernel, rfl, by decide +kernel, by decide +kernel⟩
def F_counts_to : List PyData → PyData → Prop := fun ds d => ∃ t, ds = [t4 t] ∧ d = lsI (ctTo t)
theorem ok_counts_to (B : Bu mg) (T : Th K mg "counts_to" s_counts_to ["parts"]) : Df P w K mg base CX0 "counts_to" 1 ["parts"] (spD K F_counts_to) := by
  refine Df.go 0 T sc_counts_to (fun ds d ⟨_, h, _⟩ => by rw [h]; rfl) fun f cdv A outer s H0 E hr hn nd ds d vs H Q ⟨⟨al, bl, bc, ac⟩, h1, h2⟩ ha k => ?_
  subst h1 h2
  obtain ⟨n0, n1, n2, n3, n4, n5, n6, n7, n8, n9, _⟩ := hn
  obtain ⟨v, rfl, hv⟩ := dp1 ha
  have two : ∀ z : Int, CDivW z 2 := fun z => ⟨by decide, by decide⟩
  have w1 := two (al + bc)
  have w2 := two (al - bc)
  have w3 := two (bl + ac)
  have w4 := two (bl - ac)
  refine g_unp4I 1 2 3 4 nd n1 n2 n3 n4 (n := al) (m := bl) (l := bc) (o := ac) (by keq_hits) fun H1 e1 => ?_
  refine g_parI 5 6 nd n5 n6 (by decide) (n := (al + bc) / 2) (m := (al - bc) / 2) (by ke_read) fun H2 e2 => ?_
  refine g_parI 7 8 nd n7 n8 (by decide) (n := (bl + ac) / 2) (m := (bl - ac) / 2) (by ke_read) fun H3 e3 => ?_
  refine g_retD (d := lsI (ctTo (al, bl, bc, ac))) ?_ rfl fun v2 H4 e4 r => k v2 H4 (((e1.trans e2).trans e3).trans e4) r
  refine x_lcT (ds := ([(al + bc) / 2, (al - bc) / 2, -((al - bc) / 2), -((al + bc) / 2), (bl + ac) / 2, (bl - ac) / 2, -((bl - ac) / 2), -((bl + ac) / 2)] : List Int).map .int) (fs := (ctTo (al, bl, bc, ac)).map .int) 9 nd (by keq_hits)
    (blkOk_by (N := ["parts", "a_along", "b_along", "b_across", "a_across", "p", "q", "r", "s", "many"]) (sc := defScope s_counts_to) (by decide +kernel)) (by rfl) (by show 8 ≤ _; decide) (nls_map _ (fun _ => rfl) _) (fun i e f v2 H5 hi hf x1 hv2 s0 H00 C cl fp => ?_) n9 (fun _ _ _ _ _ => pg_name nd n9 (Or.inl rfl))
  have gen : ∀ l : List Int, ctTo (al, bl, bc, ac) = l.map mx0 → (l.map PyData.int)[i]? = some e → ((ctTo (al, bl, bc, ac)).map PyData.int)[i]? = some f → ∃ n, e = .int n ∧ f = .int (mx0 n) := fun l hl h1 h2 => by
    rw [hl, List.map_map, List.getElem?_map] at h2
    rw [List.getElem?_map] at h1
    obtain ⟨n, g1, rfl⟩ := Option.map_eq_some_iff.mp h1
    rw [g1] at h2
    exact ⟨n, rfl, (Option.some.inj h2).symm⟩
  obtain ⟨n, rfl, rfl⟩ := gen _ rfl hi hf
  have hv3 := dp_int hv2
  subst hv3
  exact x_max2 (by keq_hits) (x_var 9 n9 (by rfl) (.int n)) (by kat_tups)

theorem sc_Way_init : FnScope ["self", "counts"] ["self", "counts"] (defScope s_Way_init) := ⟨rfl, rfl, rfl, by decide +kernel, rfl, by decide +kernel, by decide +kernel⟩
abbrev TWay (K : PySem.W.Frag) (mg : Str → Option Value) (C : Addr) : Prop := Tc K mg "Way" "counts" C "Way.__init__" "Way.shows" s_Way_init s_Way_shows ["self", "counts"] ["self", "leap", "place"]
abbrev TNever (K : PySem.W.Frag) (mg : Str → Option Value) (C : Addr) : Prop := Tc K mg "Never" "by" C "Never.__init__" "Never.shows" s_Never_init s_Never_shows ["self", "by"] ["self", "leap", "place"]
theorem ok_Way_init {C : Addr} (B : Bu mg) (T : TWay K mg C) : Mi P w K mg base "Way" C 1 ["self", "counts"] (spWi K C) := by
  obtain ⟨f, fd, M, Fu, hb⟩ := T.mi
  refine ⟨T.gl, f, fd, M, hb, fn_go 0 Fu sc_Way_init (fun vs H Q E ⟨_, _, _, _, h, _⟩ => by rw [h]; rfl) fun cdv A outer s H0 E hr hn nd vs H Q ⟨p, dx, v, ds, h, hp, hv, k⟩ => ?_⟩
  subst h
  obtain ⟨n0, n1, _⟩ := hn
  obtain ⟨a, xs, rfl, h1, h2⟩ := dp_lst hv
  refine cSs_of (pss_one (ps_fld (pv 0) (pe_callTy call_list_of (by rfl) B.list (by decide +kernel) (pa_cons (pv 1) pa_nil)) rfl)) ?_
  refine ⟨.ref a, rfl, a, xs, rfl, .inl h1, fun l hl => ?_⟩
  have npl : p ≠ l := ne_of_none hp hl
  refine ⟨.ref p, rfl, p, C, dx, [], rfl, (by rw [upd_ne npl]; exact hp), T.cl, T.na, (by show 0 < 1000; decide), ?_⟩
  refine k l xs _ hl (fun b o hbo hne => ?_) upd_same ?_ h2
  · rw [upd_ne hne, upd_ne (ne_of_none hbo hl)]
    exact hbo
  · rw [upd_ne npl.symm, upd_same]
theorem sc_Never_init : FnScope ["self", "by"] ["self", "by"] (defScope s_Never_init) := ⟨rfl, rfl, rfl, by decide +kernel, rfl, by decide +kernel, by decide +kernel⟩
theorem ok_Never_init {C : Addr} (T : TNever K mg C) : Mi P w K mg base "Never" C 1 ["self", "by"] (spNi C) := by
  obtain ⟨f, fd, M, Fu, hb⟩ := T.mi
  refine ⟨T.gl, f, fd, M, hb, fn_go 0 Fu sc_Never_init (fun vs H Q E ⟨_, _, _, h, _⟩ => by rw [h]; rfl) fun cdv A outer s H0 E hr hn nd vs H Q ⟨p, dx, n, h, hp, k⟩ => ?_⟩
  subst h
  refine cSs_of (pss_one (ps_fld (pv 0) (pv 1) rfl)) ?_
  refine ⟨.int n, rfl, .ref p, rfl, p, C, dx, [], rfl, hp, T.cl, T.na, (by show 0 < 1000; decide), ?_⟩
  exact k _ (fun b o hbo hne => by rw [upd_ne hne]; exact hbo) upd_same
theorem sc_Way_shows : FnScope ["self", "leap", "place"] ["self", "leap", "place"] (defScope s_Way_shows) := ⟨rfl, rfl, rfl, by decide +kernel, rfl, by decide +kernel, by decide +kernel⟩
theorem ok_Way_shows {C : Addr} (T : TWay K mg C) (d1 : Df P w K mg base CX0 "is_counts" 3 ["thing"] (spD K F_is_counts)) (d2 : Df P w K mg base CX0 "place_of" 6 ["leap", "counts"] (spD K F_place_of)) :
    Ms P w K mg base C "shows" 7 ["self", "leap", "place"] (spWs K C) := by
  obtain ⟨f, fd, M, Fu, hb⟩ := T.ms
  refine ⟨T.cl, f, fd, M, hb, fn_go 6 Fu sc_Way_shows (fun vs H Q E ⟨_, _, _, _, _, _, _, _, _, h, _⟩ => by rw [h]; rfl) fun cdv A outer s H0 E hr hn nd vs H Q ⟨p, l, lv, pv, a, b, x, y, cs, h, ⟨dx, hp⟩, hl, hlv, hpv, ⟨h0, ba, bb, hlen, hbc⟩, k⟩ => ?_⟩
  subst h
  obtain ⟨n0, n1, n2, _⟩ := hn
  have fc : ∀ {pos : Pos} {pos2 : Pos}, Gd (cxB P w K mg base ["self", "leap", "place"] "Way.shows" (defScope s_Way_shows) f cdv A outer s H0 E) (.Attribute (.Name "self" pos) "counts" pos2) [some (.ref p), some lv, some pv] H (lsI cs) := fun {_ _} => x_fld (x_varV 0 n0 rfl) hp T.cl T.na (by simp [List.lookup]) hl
  refine g_retD (d := .bool (wayOk a b x y cs)) ?_ rfl fun v H1 e1 r => by rw [dp_bl r]; exact k H1 e1
  refine x_and (x_call d1 hr (by decide) pass0 (s_cons fc s_nil) ⟨_, rfl, by show (cs.map PyData.int).length ≤ _; rw [List.length_map]; omega, rfl⟩) fun hct => x_and1 ?_
  have ct := ct_of hct hbc
  refine gd_is (x_eqD hr.units (x_call d2 hr (by decide) pass0 (s_cons (by keq_hits) (s_cons fc s_nil)) ⟨a, b, cs, rfl, ⟨h0, ba, bb, ct⟩, rfl⟩) (d := pr (led a b cs).1 (led a b cs).2) (f := pr x y) (by keq_hits) rfl rfl) ?_
  congr 1
  exact eqv_pr _ _ _ _
theorem sc_Never_shows : FnScope ["self", "leap", "place"] ["self", "leap", "place"] (defScope s_Never_shows) := ⟨rfl, rfl, rfl, by decide +kernel, rfl, by decide +kernel, by decide +kernel⟩
theorem ok_Never_shows {C : Addr} (T : TNever K mg C) (d1 : Df P w K mg base CX0 "is_amount" 2 ["thing"] (spD K F_is_amount)) (d2 : Df P w K mg base CX0 "bars_numbers" 2 ["by", "leap", "place"] (spD K F_bars_numbers)) (d3 : Df P w K mg base CX0 "bars_sum" 2 ["by", "leap", "place"] (spD K F_bars_sum)) :
    Ms P w K mg base C "shows" 3 ["self", "leap", "place"] (spNs K C) := by
  obtain ⟨f, fd, M, Fu, hb⟩ := T.ms
  refine ⟨T.cl, f, fd, M, hb, fn_go 2 Fu sc_Never_shows (fun vs H Q E ⟨_, _, _, _, _, _, _, _, h, _⟩ => by rw [h]; rfl) fun cdv A outer s H0 E hr hn nd vs H Q ⟨p, q, lv, pv, a, b, x, y, h, ⟨dx, hp⟩, hlv, hpv, k⟩ => ?_⟩
  subst h
  obtain ⟨n0, n1, n2, _⟩ := hn
  have fc : ∀ {pos pos2 : Pos} {H' : Hp}, Ex H H' → Gd (cxB P w K mg base ["self", "leap", "place"] "Never.shows" (defScope s_Never_shows) f cdv A outer s H0 E) (.Attribute (.Name "self" pos) "by" pos2) [some (.ref p), some lv, some pv] H' (.int q) := fun {_ _ _} z => (x_fld (x_varV 0 n0 rfl) hp T.cl T.na (by simp [List.lookup]) (.int q)).ex z
  refine g_when (t := !isAmt (.int q) || decide (q = 0)) (t_w (w_or (t_not (t_val (x_call d1 hr (by decide) pass0 (s_cons (fc (Ex.refl H)) s_nil) ⟨_, rfl, rfl⟩))) fun _ => w_or1 (t_cmpR op_eq rd_eqI (fc (Ex.refl H)) x_int (nomark _)))) (fun z H1 e1 => ?_) fun z H1 e1 => ?_
  · refine g_retD (d := .bool false) (by keq_hits) rfl fun v H2 e2 r => ?_
    rw [dp_bl r]
    have z' : (!decide (0 ≤ q) || decide (q = 0)) = true := z
    have nq : ¬ 0 < q := fun c => by
      rw [decide_eq_true (show 0 ≤ q by omega), decide_eq_false (show ¬ q = 0 by omega)] at z'
      cases z'
    have e : barsP a b x y q = false := by
      unfold barsP
      rw [decide_eq_false nq] <;> rfl
    rw [← e]
    exact k H2 (e1.trans e2)
  · have z' : (!decide (0 ≤ q) || decide (q = 0)) = false := z
    have pq : 0 < q := by
      rw [Bool.or_eq_false_iff] at z'
      have a1 : decide (0 ≤ q) = true := by simpa using z'.1
      have a2 := of_decide_eq_true a1
      have a3 := of_decide_eq_false z'.2
      omega
    refine g_retD (d := .bool (barsP a b x y q)) (gd_is (x_or (x_call d2 hr (by decide) pass0 (s_cons (fc e1) (s_cons (by keq_hits) (s_cons (by keq_hits) s_nil))) ⟨q, a, b, x, y, rfl, pq, rfl⟩) fun _ => x_and1 (x_call d3 hr (by decide) pass0 (s_cons (fc e1) (s_cons (by keq_hits) (s_cons (by keq_hits) s_nil))) ⟨q, a, b, x, y, rfl, pq, rfl⟩)) ?_) rfl fun v H2 e2 r => by rw [dp_bl r]; exact k H2 (e1.trans e2)
    unfold barsP
    rw [decide_eq_true pq] <;> rfl

theorem sc_told : FnScope ["leap", "place", "common", "of_a", "of_b", "a", "b", "x", "y"] ["leap", "place"] (defScope s_told) := ⟨rfl, rfl, rfl, by decide +kernel, rfl, by decide +kernel, by decide +kernel⟩
theorem ok_told {CW CN : Addr} (T : Th K mg "told" s_told ["leap", "place"]) (d1 : Df P w K mg base CX0 "need_leap" 4 ["thing"] (spD K F_need_leap)) (d2 : Df P w K mg base CX0 "need_place" 3 ["thing"] (spD K F_need_place)) (d3 : Df P w K mg base CX0 "common_of" 1 ["a", "b"] (spD K F_common_of))
    (d4 : Df P w K mg base CX0 "along_and_across" 1 ["of_a", "of_b", "x", "y"] (spD K F_along_and_across)) (d5 : Df P w K mg base CX0 "evened" 1 ["a", "b", "parts"] (spD K F_evened)) (d6 : Df P w K mg base CX0 "counts_to" 1 ["parts"] (spD K F_counts_to))
    (mN : Mi P w K mg base "Never" CN 1 ["self", "by"] (spNi CN)) (mW : Mi P w K mg base "Way" CW 1 ["self", "counts"] (spWi K CW)) : Df P w K mg base CX0 "told" 5 ["leap", "place"] (spTold K CW CN) := by
  refine Df.goR 4 T sc_told (fun vs H Q E ⟨_, _, _, _, _, _, h, _⟩ => by rw [h]; rfl) fun f cdv A outer s H0 E hr hn nd vs H Q ⟨lv, pv, a, b, x, y, h, hv, hu, ⟨a0, b0, ab, ba, bb, bx, by'⟩, kN, kW⟩ _ => ?_
  subst h
  obtain ⟨n0, n1, n2, n3, n4, n5, n6, n7, n8, _⟩ := hn
  have h0 := isLp_ok a0 b0 ab
  refine g_expr (R := fun v' H' => Dq K H' v' .none) (x_call d1 hr (by decide) pass0 (by ke_read) ⟨_, rfl, h0, rfl⟩) fun _ H1 e1 _ => ?_
  refine g_expr (R := fun v' H' => Dq K H' v' .none) (x_call d2 hr (by decide) pass0 (by ke_read) ⟨_, rfl, rfl, rfl⟩) fun _ H2 e2 _ => ?_
  refine g_unp3I 2 3 4 nd n2 n3 n4 (n := (gcdE a b).1) (m := (gcdE a b).2.1) (l := (gcdE a b).2.2) (x_call d3 hr (by decide) pass0 (by ke_read) ⟨a, b, rfl, ⟨a0, b0, ab, ba, bb⟩, rfl⟩) fun H3 e3 => ?_
  have G := gcdE_ok a0 b0 ab
  obtain ⟨bg, bu, bv⟩ := G.bd ba bb
  have hbar : barBy a b x y = if x % (gcdE a b).1 ≠ 0 ∨ y % (gcdE a b).1 ≠ 0 then some (gcdE a b).1 else if (a / (gcdE a b).1 + b / (gcdE a b).1) % 2 = 0 ∧ (x / (gcdE a b).1 + y / (gcdE a b).1) % 2 ≠ 0 then some (2 * (gcdE a b).1) else none := rfl
  have hct : tellCt a b x y = ctTo (evenP (a / (gcdE a b).1) (b / (gcdE a b).1) (alongA (gcdE a b).2.1 (gcdE a b).2.2 (x / (gcdE a b).1) (y / (gcdE a b).1))) := rfl
  generalize (gcdE a b).1 = g at *
  generalize (gcdE a b).2.1 = u at *
  generalize (gcdE a b).2.2 = v at *
  have gp := G.pos
  have e13 : Ex H H3 := (e1.trans e2).trans e3
  refine g_when (t := !decide (x % g = 0) || !decide (y % g = 0)) (by kcf_m) (fun z H4 e4 => ?_) fun z H4 e4 => ?_
  · have z' : x % g ≠ 0 ∨ y % g ≠ 0 := by
      rw [Bool.or_eq_true] at z
      simpa using z
    refine g_ret (x_never mN hr (by decide) (n := g) (by keq_hits)) fun v2 H5 e5 ⟨p, r1, r2, r3⟩ => ?_
    rw [r1]
    exact kN g p H5 (by rw [hbar, if_pos z']) (fresh_back (e13.trans e4) r2) ((e13.trans e4).trans e5) r3
  · have z1 : x % g = 0 ∧ y % g = 0 := by
      rw [Bool.or_eq_false_iff] at z
      simpa using z
    have z' : ¬ (x % g ≠ 0 ∨ y % g ≠ 0) := by omega
    have cd : ∀ n : Int, CDivW n g := fun n => bg.cdiv (by decide) (by decide) gp
    have c1 := cd a
    have c2 := cd b
    have c3 := cd x
    have c4 := cd y
    refine g_parI 5 6 nd n5 n6 (by decide) (n := a / g) (m := b / g) (by ke_read) fun H5 e5 => ?_
    refine g_parI 7 8 nd n7 n8 (by decide) (n := x / g) (m := y / g) (by ke_read) fun H6 e6 => ?_
    have e16 : Ex H H6 := ((e13.trans e4).trans e5).trans e6
    refine g_when (t := decide ((a / g + b / g) % 2 = 0) && !decide ((x / g + y / g) % 2 = 0)) (by kcf_m) (fun w H7 e7 => ?_) fun w H7 e7 => ?_
    · have w' : (a / g + b / g) % 2 = 0 ∧ (x / g + y / g) % 2 ≠ 0 := by
        rw [Bool.and_eq_true] at w
        simpa using w
      have m2 : MOk 2 g := (Bd.of (n := 2) (by decide) (by decide)).mok bg (by decide) (by decide) (by decide)
      refine g_ret (x_never mN hr (by decide) (n := 2 * g) (by keq_hits)) fun v2 H8 e8 ⟨p, r1, r2, r3⟩ => ?_
      rw [r1]
      exact kN (2 * g) p H8 (by rw [hbar, if_neg z', if_pos w']) (fresh_back (e16.trans e7) r2) ((e16.trans e7).trans e8) r3
    · have w' : ¬ ((a / g + b / g) % 2 = 0 ∧ (x / g + y / g) % 2 ≠ 0) := fun q => by
        rw [Bool.and_eq_false_iff] at w
        rcases w with w | w
        · exact of_decide_eq_false w q.1
        · exact q.2 (by simpa using w)
      have q1 : Bd 3000 u := bu.mono (by decide)
      have q2 : Bd 3000 v := bv.mono (by decide)
      have q3 : Bd 3000 (x / g) := (bx.div).mono (by decide)
      have q4 : Bd 3000 (y / g) := (by'.div).mono (by decide)
      have q5 : Bd 9000 (a / g) := (ba.div).mono (by decide)
      have q6 : Bd 9000 (b / g) := (bb.div).mono (by decide)
      refine g_ret (x_way mW hr (by decide) (cs := tellCt a b x y) (gd_is (x_call d6 hr (by decide) pass0 (s_cons (x_call d5 hr (by decide) pass0 (s_cons (by keq_hits) (s_cons (by keq_hits) (s_cons (x_call d4 hr (by decide) pass0 (by ke_read) ⟨u, v, x / g, y / g, rfl, ⟨q1, q2, q3, q4⟩, rfl⟩) s_nil))) ⟨a / g, b / g, _, rfl, ⟨q5, q6⟩, rfl⟩) s_nil) ⟨_, rfl, rfl⟩) (by rw [hct]))) fun v2 H8 e8 ⟨p, l, r1, r2, r3, r4, r5⟩ => ?_
      rw [r1]
      exact kW p l H8 (by rw [hbar, if_neg z', if_neg w']) (fresh_back (e16.trans e7) r2) (fresh_back (e16.trans e7) r3) ((e16.trans e7).trans e8) r4 r5

theorem sc_law_number : FnScope ["_law_cell", "_law_at", "_law_whole", "_law_mixed", "_law_more"] ["_law_cell", "_law_at", "_law_whole"] (defScope s_law_number) := ⟨rfl, rfl, rfl, by decide +kernel, rfl, by decide +kernel, by decide +kernel⟩
def F_law_number : List PyData → PyData → Prop := fun ds d => ∃ c t n, ds = [.int c, .int t, .int n] ∧ (Bd bitsL c ∧ 0 ≤ t ∧ t < 1000 ∧ 0 ≤ n ∧ n ≤ 63) ∧ d = .int (numL c t n)
theorem ok_law_number (T : Th K mg "_law_number" s_law_number ["_law_cell", "_law_at", "_law_whole"]) : Df P w K mg base CX0 "_law_number" 1 ["_law_cell", "_law_at", "_law_whole"] (spD K F_law_number) := by
  refine Df.go 0 T sc_law_number (fun ds d ⟨_, _, _, h, _⟩ => by rw [h]; rfl) fun f cdv A outer s H0 E hr hn nd ds d vs H Q ⟨c, t, n, h1, ⟨bc, t0, t1, m0, m1⟩, h2⟩ ha k => ?_
  subst h1 h2
  obtain ⟨n0, n1, n2, n3, n4, _⟩ := hn
  have hvs : vs = [.int c, .int t, .int n] := dpa_ints [c, t, n] ha
  subst hvs
  have hp : CPow 10 18 := ⟨by decide, by decide, by decide⟩
  have q1 : CDivW c (1 + t % 7) := Bd.cdiv (n := 5) (Bd.of (by omega) (by omega)) (by decide) (by decide) (by omega)
  have bt : Bd 10 t := Bd.of (by omega) (by omega)
  have k1 : MOk 977 t := (Bd.of (n := 10) (by decide) (by decide)).mok bt (by decide) (by decide) (by decide)
  have k2 : MOk 31 t := (Bd.of (n := 10) (by decide) (by decide)).mok bt (by decide) (by decide) (by decide)
  have b2 : Bd (bitsL + 1) (c + 977 * t) := bc.add (Bd.mono (n := 20) (Bd.of (by omega) (by omega)) (by decide))
  have k3 : MOk (c + 977 * t) 48271 := b2.mok (Bd.of (n := 16) (by decide) (by decide)) (by decide) (by decide) (by decide)
  refine g_when (t := decide ((10 : Int) ^ (18 : Int).toNat ≤ c)) (by kcf_m) (fun z H1 e1 => ?_) fun z H1 e1 => ?_
  · have z' : 10 ^ 18 ≤ c := of_dec z
    refine g_retD (by keq_hits) ?_ fun v2 H2 e2 r => k v2 H2 (e1.trans e2) r
    unfold numL
    rw [if_pos z']
  · have z' : ¬ 10 ^ 18 ≤ c := of_ndec z
    have nm : numL c t n = (((c + 977 * t) * 48271 + n) % 2147483647 * (c + 31 * t + 7)) * (((c + 977 * t) * 48271 + n) % 2147483647 + c + 5) * (((c + 977 * t) * 48271 + n) % 2147483647 * (((c + 977 * t) * 48271 + n) % 2147483647) + 11) / (1009 + t) := by
      unfold numL
      rw [if_neg z']
    refine g_setI 3 nd n3 (n := ((c + 977 * t) * 48271 + n) % 2147483647) (by keq_hits) fun H2 e2 => ?_
    have p0 := Int.emod_nonneg ((c + 977 * t) * 48271 + n) (show (2147483647 : Int) ≠ 0 by decide)
    have p1 := Int.emod_lt_of_pos ((c + 977 * t) * 48271 + n) (show (0 : Int) < 2147483647 by decide)
    generalize ((c + 977 * t) * 48271 + n) % 2147483647 = m at *
    have bm : Bd 31 m := Bd.of (by omega) (by omega)
    have b4 : Bd (bitsL + 2) (c + 31 * t + 7) := (bc.add (Bd.mono (n := 20) (Bd.of (by omega) (by omega)) (by decide))).add (Bd.mono (n := 3) (Bd.of (by decide) (by decide)) (by decide))
    have k4 : MOk m (c + 31 * t + 7) := bm.mok b4 (by decide) (by decide) (by decide)
    refine g_setI 4 nd n4 (n := m * (c + 31 * t + 7)) (by keq_hits) fun H3 e3 => ?_
    have b5 : Bd (31 + (bitsL + 2)) (m * (c + 31 * t + 7)) := bm.mul b4
    have b6 : Bd (bitsL + 2) (m + c + 5) := ((Bd.mono bm (by decide)).add bc).add (Bd.mono (n := 3) (Bd.of (by decide) (by decide)) (by decide))
    have k5 : MOk (m * (c + 31 * t + 7)) (m + c + 5) := b5.mok b6 (by decide) (by decide) (by decide)
    have b7 := b5.mul b6
    have k6 : MOk m m := bm.mok bm (by decide) (by decide) (by decide)
    have b8 : Bd 63 (m * m + 11) := (bm.mul bm).add (Bd.mono (n := 4) (Bd.of (by decide) (by decide)) (by decide))
    have k7 : MOk (m * (c + 31 * t + 7) * (m + c + 5)) (m * m + 11) := b7.mok b8 (by decide) (by decide) (by decide)
    have q2 : CDivW (m * (c + 31 * t + 7) * (m + c + 5) * (m * m + 11)) (1009 + t) := Bd.cdiv (n := 12) (Bd.of (by omega) (by omega)) (by decide) (by decide) (by omega)
    exact g_retD (by keq_hits) (by rw [nm]) fun v2 H4 e4 r => k v2 H4 (((e1.trans e2).trans e3).trans e4) r
theorem sc_law_value : FnScope ["_law_script", "_law_at", "_law_wide", "_law_cells", "_law_number_here", "_law_most"] ["_law_script", "_law_at", "_law_wide"] (defScope s_law_value) := ⟨rfl, rfl, rfl, by decide +kernel, rfl, by decide +kernel, by decide +kernel⟩
def ScOk (ns : List Int) : Prop := ns.length ≤ 63 ∧ ∀ c ∈ ns, Bd bitsL c
def F_law_value : List PyData → PyData → Prop := fun ds d => ∃ ns t n, ds = [lsI ns, .int t, .int n] ∧ (ScOk ns ∧ 0 ≤ t ∧ t < 1000 ∧ 0 ≤ n ∧ n < 4) ∧ d = .int (valL ns t n)
theorem ok_law_value (B : Bu mg) (T : Th K mg "_law_value" s_law_value ["_law_script", "_law_at", "_law_wide"]) (d1 : Df P w K mg base CX0 "_law_number" 1 ["_law_cell", "_law_at", "_law_whole"] (spD K F_law_number)) : Df P w K mg base CX0 "_law_value" 2 ["_law_script", "_law_at", "_law_wide"] (spD K F_law_value) := by
  refine Df.go 1 T sc_law_value (fun ds d ⟨_, _, _, h, _⟩ => by rw [h]; rfl) fun f cdv A outer s H0 E hr hn nd ds d vs H Q ⟨ns, t, n, h1, ⟨⟨hlen, hbd⟩, t0, t1, m0, m1⟩, h2⟩ ha k => ?_
  subst h1 h2
  obtain ⟨n0, n1, n2, n3, n4, n5, _⟩ := hn
  cases ha with
  | @cons v0 _ _ _ hv ha =>
    have hvs := dpa_ints [t, n] ha
    subst hvs
    refine g_set 3 nd n3 (R := fun v' H' => Dq K H' v' (lsI (cellsL ns))) (x_ifE (t_cmpR (op_neD hr.units) (rd_neD (d := lsI ns) (f := .list []) (shaped_ints ns) rfl) (by keq_hits) (by keq_hits) (nomark _)) (fun z => ?_) fun z => ?_) fun u H1 e1 hu => ?_
    · have z' : ns ≠ [] := fun e => by rw [e] at z; cases z
      refine gd_is (f_sl (i := none) (j := some (63 : Int)) (by keq_hits) o_none (o_some x_int)).fk.kd ?_
      show PyData.list (cutD (ns.map PyData.int) none (some ((63 : Nat) : Int))) = _
      rw [cut_to]
      unfold cellsL
      rw [if_neg z']
      rfl
    · have z' : ns = [] := by
        have q : PyData.eqv (lsI ns) (lsI []) = true := by
          rw [Bool.not_eq_false'] at z
          exact z
        rw [eqv_lsI] at q
        exact of_decide_eq_true q
      exact gd_is (by keq_hits) (by unfold cellsL; rw [if_pos z']; rfl)
    · have cl := cells_len ns
      have cb := cells_bd (by decide) hbd
      have vdef : valL ns t n = numL ((cellsL ns).getD (t % ((cellsL ns).length : Int)).toNat 0) t (cellsL ns).length / 3 % (2 * mostL.getD n.toNat 0 + 1) - mostL.getD n.toNat 0 := rfl
      generalize cellsL ns = cs at *
      have i0 := Int.emod_nonneg t (show (cs.length : Int) ≠ 0 by omega)
      have i1 := Int.emod_lt_of_pos t (show (0 : Int) < (cs.length : Int) by omega)
      have hc : Bd bitsL (cs.getD (t % (cs.length : Int)).toNat 0) := by
        have q : (t % (cs.length : Int)).toNat < cs.length := by omega
        rw [List.getD_eq_getElem?_getD, List.getElem?_eq_getElem q]
        exact cb _ (List.getElem_mem q)
      have lp : (0 : Int) < (cs.length : Int) := by omega
      have lenC : ∀ {pos p2 : Pos} {q : Pos}, Gd (cxB P w K mg base ["_law_script", "_law_at", "_law_wide", "_law_cells", "_law_number_here", "_law_most"] "_law_value" (defScope s_law_value) f cdv A outer s H0 E) (.Call (.Name "len" pos) [.Name "_law_cells" p2] [] q) ((start ["_law_script", "_law_at", "_law_wide", "_law_cells", "_law_number_here", "_law_most"] [v0, .int t, .int n]).set 3 (some u)) H1 (.int (cs.length : Int)) := fun {_ _ _} =>
        gd_is (x_lenL (ds := cs.map .int) (x_var 3 n3 rfl hu) B.len) (by rw [List.length_map])
      refine g_setI 4 nd n4 (n := numL (cs.getD (t % (cs.length : Int)).toNat 0) t cs.length) (x_call d1 hr (by decide) pass0 (s_cons (x_ixL (ds := cs.map .int) (x_var 3 n3 rfl hu) (x_mod (by keq_hits) lenC lp) (atI_ints i0 i1)) (s_cons (by keq_hits) (s_cons lenC s_nil))) ⟨_, _, _, rfl, ⟨hc, t0, t1, by omega, by omega⟩, rfl⟩) fun H2 e2 => ?_
      have hp : CPow 10 30 := ⟨by decide, by decide, by decide⟩
      refine g_setI 5 nd n5 (n := mostL.getD n.toNat 0) (x_ixT (ds := mostL.map .int) (gd_is (by keq_hits) (by rfl)) (by keq_hits) (atI_ints m0 (by show n < 4; omega))) fun H3 e3 => ?_
      have hm : 0 ≤ mostL.getD n.toNat 0 ∧ mostL.getD n.toNat 0 ≤ 10 ^ 30 := by
        have q : n.toNat = 0 ∨ n.toNat = 1 ∨ n.toNat = 2 ∨ n.toNat = 3 := by omega
        rcases q with q | q | q | q <;> rw [q] <;> exact ⟨by decide, by decide⟩
      generalize mostL.getD n.toNat 0 = m at *
      generalize numL _ t cs.length = z at *
      have w100 : (0 : Int) < 2 ^ 100 ∧ (10 : Int) ^ 30 < 2 ^ 100 := ⟨by decide, by decide⟩
      have k1 : MOk 2 m := (Bd.of (n := 2) (by decide) (by decide)).mok (Bd.of (n := 100) (i := m) (by omega) (by omega)) (by decide) (by decide) (by decide)
      have k2 : (0 : Int) < 2 * m + 1 := by omega
      have k3 : CDivW z 3 := ⟨by decide, by decide⟩
      exact g_retD (by keq_hits) (by rw [vdef]) fun v2 H4 e4 r => k v2 H4 (((e1.trans e2).trans e3).trans e4) r
theorem sc_law_eight : FnScope ["_law_leap", "_law_found", "_law_along", "_law_across", "_law_sign"] ["_law_leap"] (defScope s_law_eight) := ⟨rfl, rfl, rfl, by decide +kernel, rfl, by decide +kernel, by decide +kernel⟩
def F_law_eight : List PyData → PyData → Prop := fun ds d => ∃ a b, ds = [pr a b] ∧ (Bd 60000 a ∧ Bd 60000 b) ∧ d = prs (eightL a b)
theorem ok_law_eight (T : Th K mg "_law_eight" s_law_eight ["_law_leap"]) : Df P w K mg base CX0 "_law_eight" 1 ["_law_leap"] (spD K F_law_eight) := by
  refine Df.go 0 T sc_law_eight (fun ds d ⟨_, _, h, _⟩ => by rw [h]; rfl) fun f cdv A outer s H0 E hr hn nd ds d vs H Q ⟨a, b, h1, ⟨ba, bb⟩, h2⟩ ha k => ?_
  subst h1 h2
  obtain ⟨n0, n1, n2, n3, n4, _⟩ := hn
  obtain ⟨v, rfl, hv⟩ := dp1 ha
  refine g_set 1 nd n1 (f_lst s_nil (by decide)) fun u H1 e1 ⟨l, ws, eu, hl0, hl1, hws⟩ => ?_
  subst eu
  cases hws
  have hv1 := dp_mono e1 hv
  refine g_forM (l := l) (ds := [pr a b, pr b a]) (pg_tup rfl (pgs_cons (pg_name (i := 2) nd n2 (.inl rfl)) (pgs_cons (pg_name (i := 3) nd n3 (.inl rfl)) pgs_nil))) (f_lst (by ke_read) (by simp)) hl1 rfl
    (fun i σ' H' => ∃ w2 w3 w4 xs, σ' = [some v, some (.ref l), w2, w3, w4] ∧ H' l = some (.lst xs) ∧ DqAll K H' xs (prL ((bigL a b).take (4 * i)))) (fun H2 e2 => ⟨none, none, none, [], rfl, e2 _ _ hl1, .nil⟩) PassesOwn.never
    (fun i d v1 σ' H' hi m1 r ⟨w2, w3, w4, xs, hσ, hl', hx⟩ => ?_) m_tgt2 fun σ' H' m1 ⟨w2, w3, w4, xs, hσ, hl', hx⟩ => ?_
  · subst hσ
    obtain ⟨p, q, rfl, hstep, bp⟩ : ∃ p q : Int, d = pr p q ∧ (∀ j, j < 2 → ∀ s : Int, [1, -1][j]? = some s → (bigL a b).take (4 * i + 2 * (j + 1)) = (bigL a b).take (4 * i + 2 * j) ++ [(s * p, q), (s * p, -q)]) ∧ Bd 60000 p := by
      match i, hi with
      | 0, hi => exact ⟨a, b, (Option.some.inj hi).symm, fun j hj s hs => by
          match j, hs with
          | 0, hs => rw [← Option.some.inj hs]; rfl
          | 1, hs => rw [← Option.some.inj hs]; rfl, ba⟩
      | 1, hi => exact ⟨b, a, (Option.some.inj hi).symm, fun j hj s hs => by
          match j, hs with
          | 0, hs => rw [← Option.some.inj hs]; rfl
          | 1, hs => rw [← Option.some.inj hs]; rfl, bb⟩
    refine g_tgt2 r fun z1 z2 r1 r2 => ?_
    rw [dp_int r1, dp_int r2]
    refine g_forM (l := l) (ds := [.int 1, .int (-1)]) (pg_name (i := 4) nd n4 (.inl rfl)) (f_lst (by ke_read) (by simp)) hl' rfl
      (fun j σ' H' => ∃ w4 xs, σ' = [some v, some (.ref l), some (.int p), some (.int q), w4] ∧ H' l = some (.lst xs) ∧ DqAll K H' xs (prL ((bigL a b).take (4 * i + 2 * j)))) (fun H2 e2 => ⟨w4, xs, rfl, e2 _ _ hl', dpa_mono e2 hx⟩) PassesOwn.never
      (fun j d v2 σ2 H2 hj m2 r2 ⟨w4, xs2, hσ2, hl2, hx2⟩ => ?_) m_name fun σ2 H2 m2 ⟨w4, xs2, hσ2, hl2, hx2⟩ => ?_
    · subst hσ2
      obtain ⟨s, rfl, hs, hj2, hs1⟩ : ∃ s : Int, d = .int s ∧ [1, -1][j]? = some s ∧ j < 2 ∧ s.natAbs ≤ 1 := by
        match j, hj with
        | 0, hj => exact ⟨1, (Option.some.inj hj).symm, rfl, by decide, by decide⟩
        | 1, hj => exact ⟨-1, (Option.some.inj hj).symm, rfl, by decide, by decide⟩
      rw [dp_int r2]
      have k1 : MOk s p := (Bd.small (n := 1) hs1 (by decide)).mok bp (by decide) (by decide) (by decide)
      refine g_extend (l := l) (ds := [pr (s * p) q, pr (s * p) (-q)]) (x_varV 1 n1 rfl) (f_lst (by ke_read) (by simp)).fk hl2 ?_ fun vs3 H3 e3 hx3 => g_nil ⟨fun b o n z => ?_, some (.int s), xs2 ++ vs3, rfl, upd_same, ?_⟩
      · have z := dpa_len hx2
        have z2 : (prL ((bigL a b).take (4 * i + 2 * j))).length ≤ 8 := by
          unfold prL
          rw [List.length_map, List.length_take]
          exact Nat.min_le_right _ _
        show xs2.length + 2 ≤ _
        omega
      · rw [upd_ne n]
        exact e3 _ _ z
      · rw [hstep j hj2 s hs]
        have z : prL ((bigL a b).take (4 * i + 2 * j) ++ [(s * p, q), (s * p, -q)]) = prL ((bigL a b).take (4 * i + 2 * j)) ++ [pr (s * p) q, pr (s * p) (-q)] := by
          unfold prL
          rw [List.map_append]
          rfl
        rw [z]
        exact dpa_mu Mu.upd (e3 _ _ hl2) (dpa_app (dpa_mono e3 hx2) hx3) (by rw [← z]; exact nls_prL _)
    · subst hσ2
      exact g_nil ⟨m2, _, _, _, xs2, rfl, hl2, hx2⟩
  · subst hσ
    have e : prL ((bigL a b).take (4 * 2)) = (eightL a b).map fun p => pr p.1 p.2 := by
      rw [← eight_law]
      rfl
    rw [show ([pr a b, pr b a] : List PyData).length = 2 from rfl, e] at hx
    refine g_retD (d := prs (eightL a b)) (x_var 1 n1 rfl (.lst (SqL.of hl') hx)) rfl fun v2 H3 e3 r => k v2 H3 ((Mu.old e1 hl0 m1).trans e3) r

theorem sc_law_led : FnScope ["_law_leap", "_law_counts_here", "_law_place_here", "_law_many", "_law_one"] ["_law_leap", "_law_counts_here"] (defScope s_law_led) := ⟨rfl, rfl, rfl, by decide +kernel, rfl, by decide +kernel, by decide +kernel⟩
def F_law_led : List PyData → PyData → Prop := fun ds d => ∃ a b cs, ds = [pr a b, lsI cs] ∧ (Bd 60000 a ∧ Bd 60000 b ∧ CtOk 60000 cs) ∧ d = pr (led a b cs).1 (led a b cs).2
theorem ok_law_led (B : Bu mg) (T : Th K mg "_law_led" s_law_led ["_law_leap", "_law_counts_here"]) (d1 : Df P w K mg base CX0 "_law_eight" 1 ["_law_leap"] (spD K F_law_eight)) : Df P w K mg base CX0 "_law_led" 2 ["_law_leap", "_law_counts_here"] (spD K F_law_led) := by
  refine Df.go 1 T sc_law_led (fun ds d ⟨_, _, _, h, _⟩ => by rw [h]; rfl) fun f cdv A outer s H0 E hr hn nd ds d vs H Q ⟨a, b, cs, h1, ⟨ba, bb, hc⟩, h2⟩ ha k => ?_
  subst h1 h2
  obtain ⟨n0, n1, n2, n3, n4, _⟩ := hn
  obtain ⟨v, u, rfl, hv, hu⟩ := dp2 ha
  refine g_set 2 nd n2 (R := fun v' H' => Dq K H' v' (lsI [0, 0])) (by keq_hits) fun w0 H1 e1 hw0 => ?_
  refine g_zip (ds1 := cs.map .int) (ds2 := (eightL a b).map fun p => pr p.1 p.2) (pg_tup rfl (pgs_cons (pg_name (i := 3) nd n3 (.inl rfl)) (pgs_cons (pg_name (i := 4) nd n4 (.inl rfl)) pgs_nil)))
    (x_var 1 n1 (by rfl) (dp_mono e1 hu)) (x_call d1 hr (by decide) pass0 (s_cons (x_var 0 n0 (by rfl) (dp_mono e1 hv)) s_nil) ⟨a, b, rfl, ⟨ba, bb⟩, rfl⟩) (by rw [List.length_map, List.length_map, hc.1]; rfl)
    (fun i σ' H' => ∃ w2 w3 w4, σ' = [some v, some u, some w2, w3, w4] ∧ Dq K H' w2 (lsI [(ledL (cs.take i) ((eightL a b).take i)).1, (ledL (cs.take i) ((eightL a b).take i)).2])) (fun H2 e2 => ⟨w0, none, none, rfl, dp_mono e2 hw0⟩) PassesOwn.never B.zip
    (fun i c p v2 σ' H' hi hj x1 r ⟨w2, w3, w4, hσ, hw⟩ => ?_) (fun _ _ _ _ x ⟨w2, w3, w4, hσ, hw⟩ => ⟨w2, w3, w4, hσ, dp_mono x hw⟩) m_tgt2 fun σ' H' x1 ⟨w2, w3, w4, hσ, hw⟩ => ?_
  · rw [List.getElem?_map] at hi hj
    obtain ⟨c, hi', rfl⟩ := Option.map_eq_some_iff.mp hi
    obtain ⟨p, hj', rfl⟩ := Option.map_eq_some_iff.mp hj
    subst hσ
    have st := ledL_snoc cs (eightL a b) i c p hi' hj'
    have bc := (hc.2 c (List.mem_of_getElem? hi')).2
    obtain ⟨b1, b2⟩ := eightL_bd ba bb p (List.mem_of_getElem? hj')
    have m1 : MOk c p.1 := bc.mok b1 (by decide) (by decide) (by decide)
    have m2 : MOk c p.2 := bc.mok b2 (by decide) (by decide) (by decide)
    refine g_tgt2 r fun z1 z2 r1 r2 => ?_
    rw [dp_int r1]
    refine g_set 2 nd n2 (R := fun v' H' => Dq K H' v' (lsI [(ledL (cs.take i) ((eightL a b).take i)).1 + c * p.1, (ledL (cs.take i) ((eightL a b).take i)).2 + c * p.2])) (by keq_hits) fun w5 H5 e5 hw5 => g_nil ⟨e5, w5, some (.int c), some z2, rfl, ?_⟩
    rw [st]
    exact hw5
  · subst hσ
    rw [List.length_map, List.take_length, List.take_of_length_le (by rw [hc.1]; exact Nat.le_refl 8)] at hw
    exact g_retD (by keq_hits) (by rfl) fun v2 H3 e3 q => k v2 H3 ((e1.trans x1).trans e3) q
theorem sc_law_counts : FnScope ["_law_found", "_law_one"] ["_law_found"] (defScope s_law_counts) := ⟨rfl, rfl, rfl, by decide +kernel, rfl, by decide +kernel, by decide +kernel⟩
def F_law_counts : List PyData → PyData → Prop := fun ds d => ∃ cs : List Int, ds = [lsI cs] ∧ cs.length ≤ 1000 ∧ d = .bool (isCt (lsI cs))
theorem ok_law_counts (B : Bu mg) (T : Th K mg "_law_counts" s_law_counts ["_law_found"]) : Df P w K mg base CX0 "_law_counts" 1 ["_law_found"] (spD K F_law_counts) := by
  refine Df.go 0 T sc_law_counts (fun ds d ⟨_, h, _⟩ => by rw [h]; rfl) fun f cdv A outer s H0 E hr hn nd ds d vs H Q ⟨cs, h1, h0, h2⟩ ha k => ?_
  subst h1 h2
  obtain ⟨n0, n1, _⟩ := hn
  obtain ⟨v, rfl, hv⟩ := dp1 ha
  have hl : Gd (cxB P w K mg base ["_law_found", "_law_one"] "_law_counts" (defScope s_law_counts) f cdv A outer s H0 E) (.Name "_law_found" ⟨0, 0, 0, 0⟩) [some v, none] H (lsI cs) := x_var 0 n0 rfl hv
  refine g_when (t := !isLst (lsI cs) || !decide ((cs.length : Int) = 8)) (t_w (w_or (t_not (t_val (x_isiLst (by keq_hits) (isLst_is _) B.list B.isinstance))) fun _ => w_or1 (t_cmpR op_ne rd_neI (gd_is (x_lenL (ds := cs.map .int) (x_var 0 n0 rfl hv) B.len) (by rw [List.length_map])) x_int (nomark _)))) (fun z H1 e1 => ?_) fun z H1 e1 => ?_
  · have z' : ¬ cs.length = 8 := fun e => by
      rw [e] at z
      cases z
    refine g_retD (d := .bool false) (by keq_hits) ?_ fun v2 H2 e2 r => k v2 H2 (e1.trans e2) r
    show _ = PyData.bool (decide ((cs.map PyData.int).length = 8) && _)
    rw [List.length_map, decide_eq_false z'] <;> rfl
  · have z' : cs.length = 8 := by
      rw [Bool.or_eq_false_iff] at z
      have q : decide ((cs.length : Int) = 8) = true := by simpa using z.2
      have := of_decide_eq_true q
      omega
    refine g_retD (d := .bool (((cs.map PyData.int).map isAmt).all id)) (x_all (bs := (cs.map PyData.int).map isAmt) ?_ B.all) ?_ fun v2 H2 e2 r => k v2 H2 (e1.trans e2) r
    · refine x_lcL (ds := cs.map .int) (fs := ((cs.map PyData.int).map isAmt).map .bool) 1 nd (by keq_hits) (blkOk_by (N := ["_law_found", "_law_one"]) (sc := defScope s_law_counts) (by decide +kernel)) (by simp only [List.length_map]) (by simp only [List.length_map]; omega) (nls_map _ (fun _ => rfl) _) (fun i e f v2 H5 hi hf x1 hv2 s0 H00 C cl fp => ?_) n1 (fun _ _ _ _ _ => pg_name nd n1 (Or.inl rfl))
      rw [List.getElem?_map] at hi
      obtain ⟨n, hi', rfl⟩ := Option.map_eq_some_iff.mp hi
      rw [List.getElem?_map, List.getElem?_map, List.getElem?_map, hi'] at hf
      have hf' : PyData.bool (isAmt (.int n)) = f := Option.some.inj hf
      subst hf'
      have k1 : kitB (tyD (.int n)) "int" = some true := ki3
      have k2 : kitB (tyD (.int n)) "bool" = some false := kb3
      exact gd_is (by keq_hits) (by rfl)
    · show _ = PyData.bool (decide ((cs.map PyData.int).length = 8) && _)
      rw [List.length_map, z'] <;> rfl
theorem sc_law_bars : FnScope ["_law_leap", "_law_place_here", "_law_by", "_law_whole"] ["_law_leap", "_law_place_here", "_law_by"] (defScope s_law_bars) := ⟨rfl, rfl, rfl, by decide +kernel, rfl, by decide +kernel, by decide +kernel⟩
def F_law_bars : List PyData → PyData → Prop := fun ds d => ∃ a b x y q, ds = [pr a b, pr x y, .int q] ∧ d = .bool (barsP a b x y q)
theorem ok_law_bars (T : Th K mg "_law_bars" s_law_bars ["_law_leap", "_law_place_here", "_law_by"]) : Df P w K mg base CX0 "_law_bars" 1 ["_law_leap", "_law_place_here", "_law_by"] (spD K F_law_bars) := by
  refine Df.go 0 T sc_law_bars (fun ds d ⟨_, _, _, _, _, h, _⟩ => by rw [h]; rfl) fun f cdv A outer s H0 E hr hn nd ds d vs H Q ⟨a, b, x, y, q, h1, h2⟩ ha k => ?_
  subst h1 h2
  obtain ⟨n0, n1, n2, n3, _⟩ := hn
  cases ha with
  | @cons v0 _ _ _ hv ha =>
    obtain ⟨u, t, rfl, hu, ht⟩ := dp2 ha
    have ht' := dp_int ht
    subst ht'
    refine g_when (t := decide (q < 1)) (by kcf_m) (fun z H1 e1 => ?_) fun z H1 e1 => ?_
    · have z' := of_dec z
      refine g_retD (d := .bool false) (by keq_hits) ?_ fun v2 H2 e2 r => k v2 H2 (e1.trans e2) r
      unfold barsP
      rw [decide_eq_false (show ¬ 0 < q by omega)] <;> rfl
    · have z' := of_ndec z
      have hq : 0 < q := by omega
      refine g_when (t := decide (a % q = 0) && (decide (b % q = 0) && (decide (0 < x % q) || decide (0 < y % q)))) (by kcf_m) (fun z1 H2 e2 => ?_) fun z1 H2 e2 => ?_
      · refine g_retD (d := .bool true) (by keq_hits) ?_ fun v2 H3 e3 r => k v2 H3 ((e1.trans e2).trans e3) r
        rw [barsP_of hq, z1] <;> rfl
      · refine g_setB 3 nd n3 (n := decide ((a + b) % q = 0) && decide ((a - b) % q = 0)) (by keq_hits) fun H3 e3 => ?_
        refine g_retD (by keq_hits) ?_ fun v2 H4 e4 r => k v2 H4 (((e1.trans e2).trans e3).trans e4) r
        rw [barsP_of hq, z1] <;> rfl

theorem sc_law_common : FnScope ["_law_one", "_law_other"] ["_law_one", "_law_other"] (defScope s_law_common) := ⟨rfl, rfl, rfl, by decide +kernel, rfl, by decide +kernel, by decide +kernel⟩
def F_law_common : List PyData → PyData → Prop := fun ds d => ∃ a b, ds = [.int a, .int b] ∧ (0 ≤ a ∧ 0 ≤ b) ∧ d = .int (Int.gcd a b : Int)
theorem ok_law_common (T : Th K mg "_law_common" s_law_common ["_law_one", "_law_other"]) : Df P w K mg base CX0 "_law_common" 1 ["_law_one", "_law_other"] (spD K F_law_common) := by
  refine Df.go 0 T sc_law_common (fun ds d ⟨_, _, h, _⟩ => by rw [h]; rfl) fun f cdv A outer s H0 E hr hn nd ds d vs H Q ⟨a, b, h1, ⟨a0, b0⟩, h2⟩ ha k => ?_
  subst h1 h2
  obtain ⟨n0, n1, _⟩ := hn
  have hvs : vs = [.int a, .int b] := dpa_ints [a, b] ha
  subst hvs
  refine g_while (t := fun (_ : Nat) (σ' : L2.St) (_ : Hp) => match σ'[1]? with | some (some (V.int n)) => decide (0 < n) | _ => false)
    (fun m σ' H' => ∃ o n : Int, σ' = [some (.int o), some (.int n)] ∧ 0 ≤ o ∧ 0 ≤ n ∧ Int.gcd o n = Int.gcd a b ∧ m = n.toNat ∧ Ex H H')
    b.toNat ⟨a, b, rfl, a0, b0, rfl, rfl, Ex.refl H⟩ PassesOwn.never
    (fun m σ' H' ⟨o, n, hσ, z0, z1, z2, z3, x1⟩ => ?_) (fun m σ' H' ⟨o, n, hσ, z0, z1, z2, z3, x1⟩ ht H4 e4 => ?_) (fun m σ' H' ⟨o, n, hσ, z0, z1, z2, z3, x1⟩ ht H4 e4 => ?_)
  · subst hσ
    exact (by kcf_m)
  · subst hσ
    have hn0 : 0 < n := of_decide_eq_true ht
    have m0 := Int.emod_nonneg o (show n ≠ 0 by omega)
    have m1 := Int.emod_lt_of_pos o hn0
    refine g_parI 0 1 nd n0 n1 (by decide) (n := n) (m := o % n) (by ke_read) fun H5 e5 => g_nil ⟨(o % n).toNat, by subst z3; omega, n, o % n, rfl, z1, m0, by rw [gcd_step hn0]; exact z2, rfl, (x1.trans e4).trans e5⟩
  · subst hσ
    have hn0 : ¬ 0 < n := of_decide_eq_false ht
    have e : n = 0 := by omega
    subst e
    refine g_retD (d := .int o) (by keq_hits) ?_ fun v2 H5 e5 r => k v2 H5 ((x1.trans e4).trans e5) r
    rw [← z2, Int.gcd_zero_right, Int.natAbs_of_nonneg z0]
theorem sc_law_barred : FnScope ["_law_leap", "_law_place_here", "_law_by"] ["_law_leap", "_law_place_here"] (defScope s_law_barred) := ⟨rfl, rfl, rfl, by decide +kernel, rfl, by decide +kernel, by decide +kernel⟩
def F_law_barred : List PyData → PyData → Prop := fun ds d => ∃ a b x y, ds = [pr a b, pr x y] ∧ (0 ≤ a ∧ 0 ≤ b ∧ (0 < a ∨ 0 < b) ∧ Bd 2000 a ∧ Bd 2000 b) ∧ d = .bool (barredP a b x y)
theorem ok_law_barred (T : Th K mg "_law_barred" s_law_barred ["_law_leap", "_law_place_here"]) (d1 : Df P w K mg base CX0 "_law_common" 1 ["_law_one", "_law_other"] (spD K F_law_common)) : Df P w K mg base CX0 "_law_barred" 2 ["_law_leap", "_law_place_here"] (spD K F_law_barred) := by
  refine Df.go 1 T sc_law_barred (fun ds d ⟨_, _, _, _, h, _⟩ => by rw [h]; rfl) fun f cdv A outer s H0 E hr hn nd ds d vs H Q ⟨a, b, x, y, h1, ⟨a0, b0, ab, ba, bb⟩, h2⟩ ha k => ?_
  subst h1 h2
  obtain ⟨n0, n1, n2, _⟩ := hn
  obtain ⟨v0, v1, rfl, hv0, hv1⟩ := dp2 ha
  refine g_setI 2 nd n2 (n := (Int.gcd a b : Int)) (by keq_hits) fun H1 e1 => ?_
  have vdef : barredP a b x y = ((decide (0 < x % (Int.gcd a b : Int)) || decide (0 < y % (Int.gcd a b : Int))) || (decide ((a + b) / (Int.gcd a b : Int) % 2 = 0) && decide ((x + y) / (Int.gcd a b : Int) % 2 = 1))) := rfl
  have G := gcdE_ok a0 b0 ab
  have ge := gcdE_gcd a0 b0 ab
  have bg := (G.bd ba bb).1
  have gp := G.pos
  rw [ge] at bg gp
  clear ge G
  generalize (Int.gcd a b : Int) = g at *
  have k1 : CDivW (a + b) g := bg.cdiv (by decide) (by decide) gp
  have k2 : CDivW (x + y) g := bg.cdiv (by decide) (by decide) gp
  rw [vdef] at k
  refine g_when (t := decide (0 < x % g) || decide (0 < y % g)) (by kcf_m) (fun z H2 e2 => ?_) fun z H2 e2 => ?_
  · rw [z, Bool.true_or] at k
    exact g_retD (d := .bool true) (by keq_hits) rfl fun v2 H3 e3 r => k v2 H3 ((e1.trans e2).trans e3) r
  · rw [z, Bool.false_or] at k
    exact g_retD (by keq_hits) rfl fun v2 H3 e3 r => k v2 H3 ((e1.trans e2).trans e3) r
theorem sc_law_due : FnScope ["_law_leap", "_law_place_here", "_law_found"] ["_law_leap", "_law_place_here", "_law_found"] (defScope s_law_due) := ⟨rfl, rfl, rfl, by decide +kernel, rfl, by decide +kernel, by decide +kernel⟩
def spDue (K : PySem.W.Frag) (CW CN : Addr) : Sp := fun vs H Q _ => ∃ lv pv r a b x y, vs = [lv, pv, .ref r] ∧ Dq K H lv (pr a b) ∧ Dq K H pv (pr x y) ∧
  ((∃ l cs, WayAt CW H r l ∧ H l = some (.lst (cs.map V.int)) ∧ (Bd 60000 a ∧ Bd 60000 b ∧ cs.length ≤ 1000 ∧ ∀ c ∈ cs, Bd 60000 c) ∧ ∀ H2, Ex H H2 → Q (.bl (wayOk a b x y cs)) H2) ∨ (∃ q, NevAt CN H r q ∧ ∀ H2, Ex H H2 → Q (.bl (barsP a b x y q)) H2))
theorem ok_law_due {CW CN : Addr} (B : Bu mg) (T : Th K mg "_law_due" s_law_due ["_law_leap", "_law_place_here", "_law_found"]) (TW : TWay K mg CW) (TN : TNever K mg CN) (IW : Isi K CW) (IN : Isi K CN) (kWW : PySem.W.kitOne K (.ref CW) (.ref CW) = some true) (kNW : PySem.W.kitOne K (.ref CN) (.ref CW) = some false)
    (d1 : Df P w K mg base CX0 "_law_counts" 1 ["_law_found"] (spD K F_law_counts)) (d2 : Df P w K mg base CX0 "_law_led" 2 ["_law_leap", "_law_counts_here"] (spD K F_law_led)) (d3 : Df P w K mg base CX0 "_law_bars" 1 ["_law_leap", "_law_place_here", "_law_by"] (spD K F_law_bars)) :
    Df P w K mg base CX0 "_law_due" 3 ["_law_leap", "_law_place_here", "_law_found"] (spDue K CW CN) := by
  refine Df.goR 2 T sc_law_due (fun vs H Q E ⟨_, _, _, _, _, _, _, h, _⟩ => by rw [h]; rfl) fun f cdv A outer s H0 E hr hn nd vs H Q ⟨lv, pv, r, a, b, x, y, h, hl, hp, hc⟩ _ => ?_
  subst h
  obtain ⟨n0, n1, n2, _⟩ := hn
  rcases hc with ⟨l, cs, ⟨dx, hr1⟩, hl1, ⟨ba, bb, hlen, hbc⟩, k⟩ | ⟨q, ⟨dx, hr1⟩, k⟩
  · refine g_when (t := true) (t_val (x_isiO (x_varV 2 n2 rfl) hr1 IW TW.gl kWW B.isinstance)) (fun _ H1 e1 => ?_) (fun z => by cases z)
    have fc : ∀ {p1 p2 : Pos}, Gd (cxB P w K mg base ["_law_leap", "_law_place_here", "_law_found"] "_law_due" (defScope s_law_due) f cdv A outer s H0 E) (.Attribute (.Name "_law_found" p1) "counts" p2) [some lv, some pv, some (.ref r)] H1 (lsI cs) := fun {_ _} => x_fld (x_varV 2 n2 rfl) (e1 _ _ hr1) TW.cl TW.na (by simp [List.lookup]) (.lst (SqL.of (e1 _ _ hl1)) (dpa_of_ints cs))
    refine g_retD (d := .bool (wayOk a b x y cs)) (x_and (x_call d1 hr (by decide) pass0 (s_cons fc s_nil) ⟨cs, rfl, by omega, rfl⟩) fun hct => x_and1 ?_) rfl fun v H5 e5 r => by rw [dp_bl r]; exact k H5 (e1.trans e5)
    have ct := ct_of hct hbc
    refine gd_is (x_eqD hr.units (x_call d2 hr (by decide) pass0 (s_cons (x_var 0 n0 rfl (dp_mono e1 hl)) (s_cons fc s_nil)) ⟨a, b, cs, rfl, ⟨ba, bb, ct⟩, rfl⟩) (d := pr (led a b cs).1 (led a b cs).2) (f := pr x y) (x_var 1 n1 rfl (dp_mono e1 hp)) rfl rfl) ?_
    congr 1
    exact eqv_pr _ _ _ _
  · refine g_when (t := false) (t_val (x_isiO (x_varV 2 n2 rfl) hr1 IN TW.gl kNW B.isinstance)) (fun z => by cases z) (fun _ H1 e1 => ?_)
    exact g_retD (d := .bool (barsP a b x y q)) (x_call d3 hr (by decide) pass0 (s_cons (x_var 0 n0 rfl (dp_mono e1 hl)) (s_cons (x_var 1 n1 rfl (dp_mono e1 hp)) (s_cons (x_fld (x_varV 2 n2 rfl) (e1 _ _ hr1) TN.cl TN.na (by simp [List.lookup]) (.int q)) s_nil))) ⟨a, b, x, y, q, rfl, rfl⟩) rfl fun v H5 e5 r => by rw [dp_bl r]; exact k H5 (e1.trans e5)

section
variable {X : Cx} {e1 e2 e3 a b : Expr} {σ : L2.St} {H : Hp} {pos kp : Pos}
theorem x_due {CW CN : Addr} {nm : Str} {k n : Nat} {ps : List Str} {p : Addr} {c : Bool} {d1 d2 : PyData} (Df_ : Df X.prog X.w X.K X.mg X.base CX0 nm k ps (spDue X.K CW CN)) (hr : Room n X.A) (hk : k ≤ n) (h1 : Gd X e1 σ H d1) (h2 : Gd X e2 σ H d2) (h3 : Gv X e3 σ H fun v _ => v = .ref p)
    (hs : ∀ lv pv H1, Ex H H1 → Dq X.K H1 lv d1 → Dq X.K H1 pv d2 → ∀ Q : VK, (∀ H2, Ex H1 H2 → Q (.bl c) H2) → spDue X.K CW CN [lv, pv, .ref p] H1 Q E0) (hg : L2.Gl X nm := by rfl) (hdb : (nm == ("__debug__" : Str)) = false := by decide)
    (he : starEach [e1, e2, e3] X.env = (false, eval e1 X.env) :: starEach [e2, e3] X.env := by rfl) (he2 : starEach [e2, e3] X.env = (false, eval e2 X.env) :: starEach [e3] X.env := by rfl) (he3 : starEach [e3] X.env = (false, eval e3 X.env) :: starEach [] X.env := by rfl) (hpl : (backTo pos (starEach [e2, e3] X.env)).any (·.1) = false := by rfl) :
    Gd X (.Call (.Name nm kp) [e1, e2, e3] [] pos) σ H (.bool c) :=
  x_callR Df_ hr hk pass0 (RA := fun vs H' => ∃ lv pv, vs = [lv, pv, .ref p] ∧ Dq X.K H' lv d1 ∧ Dq X.K H' pv d2)
    (l_cons (R2 := fun vs H' => ∃ pv, vs = [pv, .ref p] ∧ Dq X.K H' pv d2) h1 (fun _ _ _ z r => dp_mono z r) (l_cons (R2 := fun vs _ => vs = [.ref p]) h2 (fun _ _ _ z r => dp_mono z r) (l_cons (R2 := fun vs _ => vs = []) h3 (fun _ _ _ _ r => r) (l_nil fun _ => rfl) (fun v vs _ r1 r2 => by rw [r1, r2]) he3) (fun v vs _ r1 r2 => ⟨v, by rw [r2], r1⟩) he2)
      (fun v vs _ r1 ⟨pv, r2, r3⟩ => ⟨v, pv, by rw [r2], r1, r3⟩) he)
    (fun vs H1 x1 ⟨lv, pv, r, r1, r2⟩ Q q => by rw [r]; exact hs lv pv H1 x1 r1 r2 Q fun H2 x2 => q _ H2 x2 (.bl c)) hg hdb he hpl
theorem t_notB {c c' : Bool} (ha : Gd X a σ H (.bool c)) (hb : Gd X b σ H (.bool c')) : Gt X (.Compare a [.IsNot] [b] pos) σ H (!decide (c = c')) := t_cmpR op_notBl (fun H1 _ x y rx ry Q q => by
  rw [dp_bl rx, dp_bl ry]
  exact ⟨c, c', rfl, rfl, q _ H1 (Ex.refl H1) (.bl _)⟩) ha hb (nomark _)
end
theorem sc_law_right : FnScope ["_law_leap", "_law_place_here", "_law_others", "_law_again", "_law_found", "_law_near", "_law_far"] ["_law_leap", "_law_place_here", "_law_others"] (defScope s_law_right) := ⟨rfl, rfl, rfl, by decide +kernel, rfl, by decide +kernel, by decide +kernel⟩
def LpOk (a b : Int) : Prop := 0 ≤ a ∧ 0 ≤ b ∧ (0 < a ∨ 0 < b) ∧ Bd 2000 a ∧ Bd 2000 b
abbrev PP := (Int × Int) × (Int × Int)
def ppD (o : PP) : PyData := .tuple [pr o.1.1 o.1.2, pr o.2.1 o.2.2]
def F_law_right : List PyData → PyData → Prop := fun ds d => ∃ a b x y, ∃ os : List PP, ds = [pr a b, pr x y, .list (os.map ppD)] ∧ (LpOk a b ∧ Bd 2000 x ∧ Bd 2000 y ∧ ∀ o ∈ os, LpOk o.1.1 o.1.2) ∧ d = .bool true
theorem ok_law_right {CA CW CN : Addr} (B : Bu mg) (T : Th K mg "_law_right" s_law_right ["_law_leap", "_law_place_here", "_law_others"]) (TW : TWay K mg CW) (TN : TNever K mg CN) (IW : Isi K CW) (IN : Isi K CN) (gA : mg "Answer" = some (.ref CA))
    (kWA : PySem.W.kitOne K (.ref CW) (.ref CA) = some true) (kNA : PySem.W.kitOne K (.ref CN) (.ref CA) = some true) (kWW : PySem.W.kitOne K (.ref CW) (.ref CW) = some true) (kNW : PySem.W.kitOne K (.ref CN) (.ref CW) = some false) (kNN : PySem.W.kitOne K (.ref CN) (.ref CN) = some true) (kWN : PySem.W.kitOne K (.ref CW) (.ref CN) = some false)
    (sW : Ms P w K mg base CW "shows" 7 ["self", "leap", "place"] (spWs K CW)) (sN : Ms P w K mg base CN "shows" 3 ["self", "leap", "place"] (spNs K CN)) (d1 : Df P w K mg base CX0 "told" 5 ["leap", "place"] (spTold K CW CN))
    (d2 : Df P w K mg base CX0 "_law_barred" 2 ["_law_leap", "_law_place_here"] (spD K F_law_barred)) (d3 : Df P w K mg base CX0 "_law_due" 3 ["_law_leap", "_law_place_here", "_law_found"] (spDue K CW CN)) :
    Df P w K mg base CX0 "_law_right" 8 ["_law_leap", "_law_place_here", "_law_others"] (spD K F_law_right) := by
  refine Df.go 7 T sc_law_right (fun ds d ⟨_, _, _, _, _, h, _⟩ => by rw [h]; rfl) fun f cdv A outer s H0 E hr hn nd ds d vs H Q ⟨a, b, x, y, os, h1, ⟨⟨a0, b0, ab, ba, bb⟩, bx, by', hos⟩, h2⟩ ha k => ?_
  subst h1 h2
  obtain ⟨n0, n1, n2, n3, n4, n5, n6, _⟩ := hn
  cases ha with
  | @cons v0 _ _ _ hv0 ha =>
    obtain ⟨v1, v2, rfl, hv1, hv2⟩ := dp2 ha
    have h0 := isLp_ok a0 b0 ab
    have ba' : Bd 60000 a := ba.mono (by decide)
    have bb' : Bd 60000 b := bb.mono (by decide)
    refine g_range1 (hi := 2) 3 nd n3 x_int (by decide) B.range (fun _ σ' H' => ∃ o3 o4 o5 o6, σ' = [some v0, some v1, some v2, o3, o4, o5, o6]) (fun _ _ => ⟨_, _, _, _, rfl⟩) PassesOwn.never (fun i σ' H' _ x1 ⟨o3, o4, o5, o6, hσ⟩ => ?_) fun σ' H' x1 ⟨o3, o4, o5, o6, hσ⟩ => ?_
    · subst hσ
      refine g_set 4 nd n4 (x_told d1 hr (by decide) (x_var 0 n0 rfl (dp_mono x1 hv0)) (x_var 1 n1 rfl (dp_mono x1 hv1)) ⟨a0, b0, ab, ba, bb, bx, by'⟩) fun fd H2 e2 hfd => ?_
      have g0 := dp_mono (x1.trans e2) hv0
      have g1 := dp_mono (x1.trans e2) hv1
      have g2 := dp_mono (x1.trans e2) hv2
      have bd := barred_is (x := x) (y := y) a0 b0 ab
      rcases hfd with ⟨q, p, z1, rfl, hp0, dx, hp⟩ | ⟨p, l, z1, rfl, hp0, hl0, ⟨dx, hp⟩, hl⟩
      · have hbd : barredP a b x y = true := by rw [bd, z1]; rfl
        have hok := (bar_ok a0 b0 ab z1).2
        refine g_when (t := (!true) || decide (false = true)) (t_w (w_or (t_not (t_val (x_isiO (x_varV 4 n4 rfl) hp IN gA kNA B.isinstance))) fun _ => w_or1 (t_cmpR op_eq rd_eqB (x_isiO (x_varV 4 n4 rfl) hp IN TW.gl kNW B.isinstance) (x_isiO (x_varV 4 n4 rfl) hp IN TN.gl kNN B.isinstance) (nomark _)))) (fun z => by simp at z) fun _ H3 e3 => ?_
        have hp3 := e3 _ _ hp
        refine g_when (t := true && (false || !true)) (t_w (w_and (t_val (x_isiO (x_varV 4 n4 rfl) hp3 IN TN.gl kNN B.isinstance)) fun _ => w_and1 (t_w (w_or (t_val (x_isiBool (x_fld (x_varV 4 n4 rfl) hp3 TN.cl TN.na (by simp [List.lookup]) (.int q)) kb3 B.bool B.isinstance)) fun _ => w_or1 (t_not (t_val (x_isiInt (x_fld (x_varV 4 n4 rfl) hp3 TN.cl TN.na (by simp [List.lookup]) (.int q)) ki3 B.int B.isinstance))))))) (fun z => by simp at z) fun _ H4 e4 => ?_
        have hp4 := e4 _ _ hp3
        have x24 := e3.trans e4
        refine g_when (t := (!decide (true = barredP a b x y)) || !(barsP a b x y q)) (t_w (w_or (t_cmpR op_ne rd_neB (x_isiO (x_varV 4 n4 rfl) hp4 IN TN.gl kNN B.isinstance) (x_call d2 hr (by decide) pass0 (s_cons (x_var 0 n0 rfl (dp_mono x24 g0)) (s_cons (x_var 1 n1 rfl (dp_mono x24 g1)) s_nil)) ⟨a, b, x, y, rfl, ⟨a0, b0, ab, ba, bb⟩, rfl⟩) (nomark _)) fun _ =>
          w_or1 (t_not (t_val (x_due d3 hr (by decide) (x_var 0 n0 rfl (dp_mono x24 g0)) (x_var 1 n1 rfl (dp_mono x24 g1)) (x_varV 4 n4 rfl) fun lv pv H1 y1 r1 r2 Q q' => ⟨lv, pv, p, a, b, x, y, rfl, r1, r2, .inr ⟨q, ⟨dx, y1 _ _ hp4⟩, q'⟩⟩))))) (fun z => by rw [hbd, hok] at z; simp at z) fun _ H5 e5 => ?_
        have x25 := x24.trans e5
        refine g_when (t := !decide (barsP a b x y q = true)) (t_notB (x_meth sN hr (by decide) (x_varV 4 n4 rfl) (e5 _ _ hp4) (lkno (by decide)) (s_cons (x_var 0 n0 rfl (dp_mono x25 g0)) (s_cons (x_var 1 n1 rfl (dp_mono x25 g1)) s_nil)) fun vs H6 e6 r Q' q' => by
          obtain ⟨w1, w2, rfl, r1, r2⟩ := dp2 r
          exact ⟨p, q, w1, w2, a, b, x, y, rfl, ⟨dx, e6 _ _ (e5 _ _ hp4)⟩, r1, r2, fun H7 e7 => q' _ H7 e7 (.bl _)⟩) x_bl) (fun z => by rw [hok] at z; simp at z) fun _ H6 e6 => ?_
        have x26 := x25.trans e6
        refine g_forL (pg_tup rfl (pgs_cons (pg_name (i := 5) nd n5 (.inl rfl)) (pgs_cons (pg_name (i := 6) nd n6 (.inl rfl)) pgs_nil))) (x_var 2 n2 rfl (dp_mono x26 g2)) (fun _ σ' H' => ∃ o5 o6, σ' = [some v0, some v1, some v2, some (.int (i : Int)), some (.ref p), o5, o6]) (fun _ _ => ⟨_, _, rfl⟩) PassesOwn.never (fun j d v σ' H7 hj y7 hv ⟨o5, o6, hσ⟩ => ?_) m_tgt2 fun σ' H7 x7 ⟨o5, o6, hσ⟩ => ?_
        · subst hσ
          rw [List.getElem?_map] at hj
          obtain ⟨o, hj', rfl⟩ := Option.map_eq_some_iff.mp hj
          refine g_tgt2 hv fun w1 w2 r1 r2 => ?_
          have hp7 := y7 _ _ (x26 _ _ hp)
          refine g_when (t := !decide (barsP o.1.1 o.1.2 o.2.1 o.2.2 q = barsP o.1.1 o.1.2 o.2.1 o.2.2 q)) (t_cmpR op_ne rd_neB (x_meth sN hr (by decide) (x_varV 4 n4 rfl) hp7 (lkno (by decide)) (s_cons (x_var 5 n5 rfl r1) (s_cons (x_var 6 n6 rfl r2) s_nil)) fun vs H6 e6 r Q' q' => by
              obtain ⟨w1, w2, rfl, r1, r2⟩ := dp2 r
              exact ⟨p, q, w1, w2, o.1.1, o.1.2, o.2.1, o.2.2, rfl, ⟨dx, e6 _ _ hp7⟩, r1, r2, fun H7 e7 => q' _ H7 e7 (.bl _)⟩)
            (x_due d3 hr (by decide) (x_var 5 n5 rfl r1) (x_var 6 n6 rfl r2) (x_varV 4 n4 rfl) fun lv pv H1 y1 r1 r2 Q q' => ⟨lv, pv, p, o.1.1, o.1.2, o.2.1, o.2.2, rfl, r1, r2, .inr ⟨q, ⟨dx, y1 _ _ hp7⟩, q'⟩⟩) (nomark _)) (fun z => by simp at z) fun _ H8 e8 => g_nil ⟨e8, _, _, rfl⟩
        · subst hσ
          refine g_when (t := false) (t_val (x_isiO (x_varV 4 n4 rfl) (x7 _ _ (x26 _ _ hp)) IN TW.gl kNW B.isinstance)) (fun z => by cases z) fun _ H8 e8 => g_nil ⟨((e2.trans x26).trans x7).trans e8, _, _, _, _, rfl⟩
      · have hbd : barredP a b x y = false := by rw [bd, z1]; rfl
        have ct := tell_ok a0 b0 ab ba bb bx by'
        have hled := tell_led a0 b0 ab z1
        generalize tellCt a b x y = cs at *
        have hlen := ct.1
        have hbc : ∀ c ∈ cs, Bd 60000 c := fun c hc => ((ct.2 c hc).2).mono (by decide)
        have hok : wayOk a b x y cs = true := by
          unfold wayOk
          rw [isCt_ok ct, hled]
          simp
        have cq : ∀ {H : Hp}, H l = some (.lst (cs.map V.int)) → Dq K H (.ref l) (lsI cs) := fun h => .lst (SqL.of h) (dpa_of_ints cs)
        refine g_when (t := (!true) || decide (true = false)) (t_w (w_or (t_not (t_val (x_isiO (x_varV 4 n4 rfl) hp IW gA kWA B.isinstance))) fun _ => w_or1 (t_cmpR op_eq rd_eqB (x_isiO (x_varV 4 n4 rfl) hp IW TW.gl kWW B.isinstance) (x_isiO (x_varV 4 n4 rfl) hp IW TN.gl kWN B.isinstance) (nomark _)))) (fun z => by simp at z) fun _ H3 e3 => ?_
        have hp3 := e3 _ _ hp
        refine g_when (t := false && true) (t_w (w_and (t_val (x_isiO (x_varV 4 n4 rfl) hp3 IW TN.gl kWN B.isinstance)) fun z => by cases z)) (fun z => by simp at z) fun _ H4 e4 => ?_
        have hp4 := e4 _ _ hp3
        have x24 := e3.trans e4
        have hl4 := x24 _ _ hl
        refine g_when (t := (!decide (false = barredP a b x y)) || !(wayOk a b x y cs)) (t_w (w_or (t_cmpR op_ne rd_neB (x_isiO (x_varV 4 n4 rfl) hp4 IW TN.gl kWN B.isinstance) (x_call d2 hr (by decide) pass0 (s_cons (x_var 0 n0 rfl (dp_mono x24 g0)) (s_cons (x_var 1 n1 rfl (dp_mono x24 g1)) s_nil)) ⟨a, b, x, y, rfl, ⟨a0, b0, ab, ba, bb⟩, rfl⟩) (nomark _)) fun _ =>
          w_or1 (t_not (t_val (x_due d3 hr (by decide) (x_var 0 n0 rfl (dp_mono x24 g0)) (x_var 1 n1 rfl (dp_mono x24 g1)) (x_varV 4 n4 rfl) fun lv pv H1 y1 r1 r2 Q q' => ⟨lv, pv, p, a, b, x, y, rfl, r1, r2, .inl ⟨l, cs, ⟨dx, y1 _ _ hp4⟩, y1 _ _ hl4, ⟨ba', bb', by omega, hbc⟩, q'⟩⟩))))) (fun z => by rw [hbd, hok] at z; simp at z) fun _ H5 e5 => ?_
        have x25 := x24.trans e5
        have hl5 := x25 _ _ hl
        refine g_when (t := !decide (wayOk a b x y cs = true)) (t_notB (x_meth sW hr (by decide) (x_varV 4 n4 rfl) (e5 _ _ hp4) (lkno (by decide)) (s_cons (x_var 0 n0 rfl (dp_mono x25 g0)) (s_cons (x_var 1 n1 rfl (dp_mono x25 g1)) s_nil)) fun vs H6 e6 r Q' q' => by
          obtain ⟨w1, w2, rfl, r1, r2⟩ := dp2 r
          exact ⟨p, l, w1, w2, a, b, x, y, cs, rfl, ⟨dx, e6 _ _ (e5 _ _ hp4)⟩, cq (e6 _ _ hl5), r1, r2, ⟨h0, ba', bb', by omega, hbc⟩, fun H7 e7 => q' _ H7 e7 (.bl _)⟩) x_bl) (fun z => by rw [hok] at z; simp at z) fun _ H6 e6 => ?_
        have x26 := x25.trans e6
        refine g_forL (pg_tup rfl (pgs_cons (pg_name (i := 5) nd n5 (.inl rfl)) (pgs_cons (pg_name (i := 6) nd n6 (.inl rfl)) pgs_nil))) (x_var 2 n2 rfl (dp_mono x26 g2)) (fun _ σ' H' => ∃ o5 o6, σ' = [some v0, some v1, some v2, some (.int (i : Int)), some (.ref p), o5, o6]) (fun _ _ => ⟨_, _, rfl⟩) PassesOwn.never (fun j d v σ' H7 hj y7 hv ⟨o5, o6, hσ⟩ => ?_) m_tgt2 fun σ' H7 x7 ⟨o5, o6, hσ⟩ => ?_
        · subst hσ
          rw [List.getElem?_map] at hj
          obtain ⟨o, hj', rfl⟩ := Option.map_eq_some_iff.mp hj
          obtain ⟨oa, ob, oab, oba, obb⟩ := hos o (List.mem_of_getElem? hj')
          have oh := isLp_ok oa ob oab
          have oba' : Bd 60000 o.1.1 := oba.mono (by decide)
          have obb' : Bd 60000 o.1.2 := obb.mono (by decide)
          refine g_tgt2 hv fun w1 w2 r1 r2 => ?_
          have hp7 := y7 _ _ (x26 _ _ hp)
          have hl7 := y7 _ _ (x26 _ _ hl)
          refine g_when (t := !decide (wayOk o.1.1 o.1.2 o.2.1 o.2.2 cs = wayOk o.1.1 o.1.2 o.2.1 o.2.2 cs)) (t_cmpR op_ne rd_neB (x_meth sW hr (by decide) (x_varV 4 n4 rfl) hp7 (lkno (by decide)) (s_cons (x_var 5 n5 rfl r1) (s_cons (x_var 6 n6 rfl r2) s_nil)) fun vs H6 e6 r Q' q' => by
              obtain ⟨w1, w2, rfl, r1, r2⟩ := dp2 r
              exact ⟨p, l, w1, w2, o.1.1, o.1.2, o.2.1, o.2.2, cs, rfl, ⟨dx, e6 _ _ hp7⟩, cq (e6 _ _ hl7), r1, r2, ⟨oh, oba', obb', by omega, hbc⟩, fun H7 e7 => q' _ H7 e7 (.bl _)⟩)
            (x_due d3 hr (by decide) (x_var 5 n5 rfl r1) (x_var 6 n6 rfl r2) (x_varV 4 n4 rfl) fun lv pv H1 y1 r1 r2 Q q' => ⟨lv, pv, p, o.1.1, o.1.2, o.2.1, o.2.2, rfl, r1, r2, .inl ⟨l, cs, ⟨dx, y1 _ _ hp7⟩, y1 _ _ hl7, ⟨oba', obb', by omega, hbc⟩, q'⟩⟩) (nomark _)) (fun z => by simp at z) fun _ H8 e8 => g_nil ⟨e8, _, _, rfl⟩
        · subst hσ
          have hp7 := x7 _ _ (x26 _ _ hp)
          have hl7 := x7 _ _ (x26 _ _ hl)
          have g0' := dp_mono (x26.trans x7) g0
          have g1' := dp_mono (x26.trans x7) g1
          have x27 := (e2.trans x26).trans x7
          clear g0 g1 g2 e2 e3 e4 e5 e6 x24 x25 x26 x7 hp hl hp3 hp4 hl4 hl5
          have npl : p ≠ l := fun z => by rw [z, hl7] at hp7; cases hp7
          refine g_when (t := true) (t_val (x_isiO (x_varV 4 n4 rfl) hp7 IW TW.gl kWW B.isinstance)) (fun _ H8 e8 => ?_) (fun z => by cases z)
          have hp8 := e8 _ _ hp7
          have hl8 := e8 _ _ hl7
          -- found.counts.append(0)
          refine g_append (l := l) (x_fldV (x_varV 4 n4 rfl) hp8 TW.cl TW.na (by simp [List.lookup])) (x_int (i := 0)) hl8 (by rw [List.length_map]; omega) fun u H9 e9 hu => ?_
          have hu' := dp_int hu
          subst hu'
          have x9 : Ex H' (upd H9 l (.lst (cs.map V.int ++ [.int 0]))) := Ex.mut ((x27.trans e8).trans e9) hl0
          have hp9 : (upd H9 l (.lst (cs.map V.int ++ [.int 0]))) p = some (.ins CW dx [("counts", .ref l)]) := by rw [upd_ne npl]; exact e9 _ _ hp8
          have hl9 : (upd H9 l (.lst (cs.map V.int ++ [.int 0]))) l = some (.lst ((cs ++ [0]).map V.int)) := by rw [upd_same, List.map_append]; rfl
          generalize upd H9 l (.lst (cs.map V.int ++ [.int 0])) = H10 at *
          have g0a := dp_mono (x1.trans x9) hv0
          have g1a := dp_mono (x1.trans x9) hv1
          have hlen9 : (cs ++ [0]).length = 9 := by rw [List.length_append, hlen]; rfl
          have hno : wayOk a b x y (cs ++ [0]) = false := by
            unfold wayOk
            have : isCt (lsI (cs ++ [0])) = false := by
              show (decide (((cs ++ [0]).map PyData.int).length = 8) && _) = false
              rw [List.length_map, hlen9]
              rfl
            rw [this, Bool.false_and]
          have hbc9 : ∀ c ∈ cs ++ [0], Bd 60000 c := fun c hc => by
            rcases List.mem_append.mp hc with hc | hc
            · exact hbc c hc
            · rw [List.mem_singleton.mp hc]
              exact (Bd.small (n := 1) (i := 0) (by decide) (by decide)).mono (by decide)
          refine g_when (t := !decide (wayOk a b x y (cs ++ [0]) = false)) (t_notB (x_meth sW hr (by decide) (x_varV 4 n4 rfl) hp9 (lkno (by decide)) (s_cons (x_var 0 n0 rfl g0a) (s_cons (x_var 1 n1 rfl g1a) s_nil)) fun vs H6 e6 r Q' q' => by
            obtain ⟨w1, w2, rfl, r1, r2⟩ := dp2 r
            exact ⟨p, l, w1, w2, a, b, x, y, cs ++ [0], rfl, ⟨dx, e6 _ _ hp9⟩, .lst (SqL.of (e6 _ _ hl9)) (dpa_of_ints _), r1, r2, ⟨h0, ba', bb', by omega, hbc9⟩, fun H7 e7 => q' _ H7 e7 (.bl _)⟩) x_bl) (fun z => by rw [hno] at z; simp at z) fun _ H11 e11 => ?_
          have hp11 := e11 _ _ hp9
          have hl11 := e11 _ _ hl9
          -- found.counts.pop()
          refine g_pop (l := l) (u := .int 0) (x_fldV (x_varV 4 n4 rfl) hp11 TW.cl TW.na (by simp [List.lookup])) hl11 (by rw [List.length_map, hlen9, List.map_append, List.getElem?_append_right (by rw [List.length_map]; omega), List.length_map, hlen] <;> rfl) fun H12 e12 => ?_
          have edl : ((cs ++ [0]).map V.int).dropLast = cs.map V.int := by rw [List.map_append]; exact List.dropLast_concat
          rw [edl]
          have x12 : Ex H' (upd H12 l (.lst (cs.map V.int))) := Ex.mut ((x9.trans e11).trans e12) hl0
          have hp12 : (upd H12 l (.lst (cs.map V.int))) p = some (.ins CW dx [("counts", .ref l)]) := by rw [upd_ne npl]; exact e12 _ _ hp11
          have hl12 : (upd H12 l (.lst (cs.map V.int))) l = some (.lst (cs.map V.int)) := upd_same
          generalize upd H12 l (.lst (cs.map V.int)) = H13 at *
          have g0b := dp_mono (x1.trans x12) hv0
          have g1b := dp_mono (x1.trans x12) hv1
          refine g_when (t := !decide (wayOk a b x y cs = true)) (t_notB (x_meth sW hr (by decide) (x_varV 4 n4 rfl) hp12 (lkno (by decide)) (s_cons (x_var 0 n0 rfl g0b) (s_cons (x_var 1 n1 rfl g1b) s_nil)) fun vs H6 e6 r Q' q' => by
            obtain ⟨w1, w2, rfl, r1, r2⟩ := dp2 r
            exact ⟨p, l, w1, w2, a, b, x, y, cs, rfl, ⟨dx, e6 _ _ hp12⟩, cq (e6 _ _ hl12), r1, r2, ⟨h0, ba', bb', by omega, hbc⟩, fun H7 e7 => q' _ H7 e7 (.bl _)⟩) x_bl) (fun z => by rw [hok] at z; simp at z) fun _ H14 e14 => ?_
          have hp14 := e14 _ _ hp12
          have hl14 := e14 _ _ hl12
          -- found.counts[0] = found.counts[0] + 1
          refine g_setItem (l := l) (n := 0) (j := 0) (R := fun _ _ => True) ((x_add (i := cs.getD 0 0) (j := 1) (x_ixL (x_fld (x_varV 4 n4 rfl) hp14 TW.cl TW.na (by simp [List.lookup]) (cq hl14)) x_int (atI_ints (n := 0) (by decide) (by omega))) x_int).imp fun _ _ _ _ => True.intro) (x_fldV (x_varV 4 n4 rfl) hp14 TW.cl TW.na (by simp [List.lookup])) x_int hl14 (by rw [List.length_map, hlen]; exact ixN_nat (by decide)) (fun _ _ _ _ _ => True.intro) fun v8 H15 e15 _ => g_nil (g_nil ⟨Ex.mut ((x12.trans e14).trans e15) hl0, _, _, _, _, rfl⟩)
    · subst hσ
      exact g_retD (d := .bool true) (by keq_hits) rfl fun v2 H5 e5 r => k v2 H5 (x1.trans e5) r

theorem told_never {K : PySem.W.Frag} {CW CN : Addr} {a b x y q : Int} {H H' : Hp} {v : V} (h : barBy a b x y = some q) (r : ToldR K CW CN a b x y H v H') : ∃ p dx, v = .ref p ∧ H' p = some (.ins CN dx [("by", .int q)]) := by
  rcases r with ⟨q', p, z1, z2, _, dx, z3⟩ | ⟨_, _, z1, _⟩
  · rw [h] at z1
    have e := Option.some.inj z1
    subst e
    exact ⟨p, dx, z2, z3⟩
  · rw [h] at z1; cases z1
theorem told_way {K : PySem.W.Frag} {CW CN : Addr} {a b x y : Int} {H H' : Hp} {v : V} (h : barBy a b x y = none) (r : ToldR K CW CN a b x y H v H') : ∃ p dx l, v = .ref p ∧ H' p = some (.ins CW dx [("counts", .ref l)]) := by
  rcases r with ⟨_, _, z1, _⟩ | ⟨p, l, _, z2, _, _, ⟨dx, z3⟩, _⟩
  · rw [h] at z1; cases z1
  · exact ⟨p, dx, l, z2, z3⟩
def abI (i : Int) : Int := if i < 0 then -i else i
def leapM (a b : Int) : Int × Int := if 0 < a + b then (a, b) else (1, 2)
theorem leapM_ok {n : Nat} {a b : Int} (ha : 0 ≤ a) (hb : 0 ≤ b) (ba : Bd n a) (bb : Bd n b) (hn : 2 ≤ n) : 0 ≤ (leapM a b).1 ∧ 0 ≤ (leapM a b).2 ∧ (0 < (leapM a b).1 ∨ 0 < (leapM a b).2) ∧ Bd n (leapM a b).1 ∧ Bd n (leapM a b).2 := by
  unfold leapM
  split
  · exact ⟨ha, hb, by show 0 < a ∨ 0 < b; omega, ba, bb⟩
  · exact ⟨by decide, by decide, .inl (by decide), (Bd.of (n := 2) (i := 1) (by decide) (by decide)).mono hn, (Bd.of (n := 2) (i := 2) (by decide) (by decide)).mono hn⟩
theorem ledL_bd {n m : Nat} : ∀ (cs : List Int) (ps : List (Int × Int)), (∀ c ∈ cs, Bd n c) → (∀ p ∈ ps, Bd m p.1 ∧ Bd m p.2) → Bd (n + m + 1 + cs.length) (ledL cs ps).1 ∧ Bd (n + m + 1 + cs.length) (ledL cs ps).2
  | [], ps, _, _ => ⟨Bd.small (by show (0 : Int).natAbs ≤ 1; decide) (by omega), Bd.small (by show (0 : Int).natAbs ≤ 1; decide) (by omega)⟩
  | c :: cs, [], _, _ => ⟨Bd.small (by show (0 : Int).natAbs ≤ 1; decide) (by omega), Bd.small (by show (0 : Int).natAbs ≤ 1; decide) (by omega)⟩
  | c :: cs, p :: ps, hc, hp => by
    obtain ⟨r1, r2⟩ := ledL_bd cs ps (fun z hz => hc z (List.mem_cons_of_mem _ hz)) fun z hz => hp z (List.mem_cons_of_mem _ hz)
    have b := hc c List.mem_cons_self
    obtain ⟨p1, p2⟩ := hp p List.mem_cons_self
    rw [List.length_cons]
    exact ⟨(((b.mul p1).mono (m := n + m + 1 + cs.length) (by omega)).add r1), (((b.mul p2).mono (m := n + m + 1 + cs.length) (by omega)).add r2)⟩
theorem sc_law : FnScope ["_law_script", "_law_whole", "_law_at", "_law_wide", "_law_one", "_law_other", "_law_kind", "_law_leap", "_law_counts_here", "_law_some", "_law_place_here", "_law_k"] ["_law_script"] (defScope s_law) := ⟨rfl, rfl, rfl, by decide +kernel, rfl, by decide +kernel, by decide +kernel⟩
def F_law : List PyData → PyData → Prop := fun ds d => ∃ ns, ds = [lsI ns] ∧ ScOk ns ∧ d = .bool true
theorem ok_law {CW CN : Addr} {f : Addr} {fd : FuncData} (B : Bu mg) (Fu : Fun K "law" "law" s_law f fd) (TW : TWay K mg CW) (TN : TNever K mg CN) (IW : Isi K CW) (IN : Isi K CN) (kWW : PySem.W.kitOne K (.ref CW) (.ref CW) = some true) (kNN : PySem.W.kitOne K (.ref CN) (.ref CN) = some true)
    (d1 : Df P w K mg base CX0 "_law_value" 2 ["_law_script", "_law_at", "_law_wide"] (spD K F_law_value)) (d2 : Df P w K mg base CX0 "_law_right" 8 ["_law_leap", "_law_place_here", "_law_others"] (spD K F_law_right)) (d3 : Df P w K mg base CX0 "_law_led" 2 ["_law_leap", "_law_counts_here"] (spD K F_law_led))
    (d4 : Df P w K mg base CX0 "told" 5 ["leap", "place"] (spTold K CW CN)) :
    FnOk P w K mg base CX0 9 f fd ["_law_script"] (spD K F_law) := by
  refine fn_goD 8 Fu sc_law (fun ds d ⟨_, h, _⟩ => by rw [h]; rfl) fun cdv A outer s H0 E hr hn nd ds d vs H Q ⟨ns, h1, sc, h2⟩ ha k => ?_
  subst h1 h2
  obtain ⟨n0, n1, n2, n3, n4, n5, n6, n7, n8, n9, n10, n11, _⟩ := hn
  obtain ⟨v0, rfl, hv0⟩ := dp1 ha
  refine g_setI 1 nd n1 (n := (ns.take 63).sum) (x_sum (ns := ns.take 63) (gd_is (f_sl (i := none) (j := some (63 : Int)) (x_var 0 n0 rfl hv0) o_none (o_some x_int)).fk.kd (congrArg PyData.list (cut_to ns 63))) B.sum) fun H1 e1 => ?_
  generalize (ns.take 63).sum = whole at *
  have hv1 := dp_mono e1 hv0
  have m63 := min63 ns.length
  have lenD : ∀ {p1 p2 p3 : Pos} {H : Hp} {σ : L2.St}, Dq K H v0 (lsI ns) → σ[0]? = some (some v0) → Gd (cxB P w K mg base ["_law_script", "_law_whole", "_law_at", "_law_wide", "_law_one", "_law_other", "_law_kind", "_law_leap", "_law_counts_here", "_law_some", "_law_place_here", "_law_k"] "law" (defScope s_law) f cdv A outer s H0 E) (.Call (.Name "len" p1) [.Name "_law_script" p2] [] p3) σ H (.int (ns.length : Int)) := fun {_ _ _ _ _} h h0 => gd_is (x_lenL (ds := ns.map .int) (x_var 0 n0 h0 h) B.len) (by rw [List.length_map])
  refine g_range3 (hi := if ((ns.length : Nat) : Int) < 63 then ((ns.length : Nat) : Int) else 63) (c := 1 + ((ns.length : Nat) : Int) / 8) 2 nd n2 x_int (x_min2 x_int (lenD hv1 rfl) B.min) (x_add x_int (x_div (lenD hv1 rfl) x_int ⟨by decide, by decide⟩)) (by have := sc.1; omega) (by omega) B.range
    (fun _ σ' H' => ∃ o2 o3 o4 o5 o6 o7 o8 o9 o10, σ' = [some v0, some (.int whole), o2, o3, o4, o5, o6, o7, o8, o9, o10, none]) (fun _ _ => ⟨_, _, _, _, _, _, _, _, _, rfl⟩) PassesOwn.never (fun i n σ' H' hn0 hn1 x1 ⟨o2, o3, o4, o5, o6, o7, o8, o9, o10, hσ⟩ => ?_) fun m σ' H2 x2 ⟨o2, o3, o4, o5, o6, o7, o8, o9, o10, hσ⟩ => ?_
  · subst hσ
    have hnl : n < (ns.length : Int) := by omega
    have hv2 := dp_mono x1 hv1
    refine g_setI 3 nd n3 (n := (whole + n) % 4) (by keq_hits) fun H3 e3 => ?_
    have w0 := Int.emod_nonneg (whole + n) (show (4 : Int) ≠ 0 by decide)
    have w1 := Int.emod_lt_of_pos (whole + n) (show (0 : Int) < 4 by decide)
    generalize (whole + n) % 4 = wide at *
    have hv3 := dp_mono e3 hv2
    have y0 := Int.emod_nonneg (wide + n) (show (4 : Int) ≠ 0 by decide)
    have y1 := Int.emod_lt_of_pos (wide + n) (show (0 : Int) < 4 by decide)
    refine g_parI 4 5 nd n4 n5 (by decide) (s_cons (x_abs (i := valL ns n wide) (x_call d1 hr (by decide) pass0 (by ke_read) ⟨ns, n, wide, rfl, ⟨sc, by omega, by omega, w0, w1⟩, rfl⟩) B.abs) (s_cons (x_abs (i := valL ns (n + 1) ((wide + n) % 4)) (x_call d1 hr (by decide) pass0 (by ke_read) ⟨ns, n + 1, (wide + n) % 4, rfl, ⟨sc, by omega, by omega, y0, y1⟩, rfl⟩) B.abs) s_nil)) fun H4 e4 => ?_
    obtain ⟨ba, a0⟩ := (valL_bd ns n wide).ab
    obtain ⟨bb, b0⟩ := (valL_bd ns (n + 1) ((wide + n) % 4)).ab
    generalize (if valL ns n wide < 0 then -valL ns n wide else valL ns n wide) = a at *
    generalize (if valL ns (n + 1) ((wide + n) % 4) < 0 then -valL ns (n + 1) ((wide + n) % 4) else valL ns (n + 1) ((wide + n) % 4)) = b at *
    have kd : CDivW whole 4 := ⟨by decide, by decide⟩
    refine g_setI 6 nd n6 (n := (whole / 4 + n) % 6) (by keq_hits) fun H5 e5 => ?_
    generalize (whole / 4 + n) % 6 = kind at *
    have e35 : Ex H' H5 := (e3.trans e4).trans e5
    refine g_ifC (t := decide (kind = 1)) (fun σ' H6 => ∃ b' : Int, σ' = [some v0, some (.int whole), some (.int n), some (.int wide), some (.int a), some (.int b'), some (.int kind), o7, o8, o9, o10, none] ∧ Ex H' H6 ∧ 0 ≤ b' ∧ Bd 100 b') (by kcf_m) (fun _ H6 e6 => ?_) (fun _ H6 e6 => g_nil ⟨b, rfl, e35.trans e6, b0, bb⟩) fun σ' H6 ⟨b1, hσ, e36, b10, bb1⟩ => ?_
    · exact g_setI 5 nd n5 (n := a) (by keq_hits) fun H7 e7 => g_nil ⟨a, rfl, (e35.trans e6).trans e7, a0, ba⟩
    subst hσ
    clear bb b0
    refine g_ifC (t := decide (kind = 2)) (fun σ' H6 => ∃ b' : Int, σ' = [some v0, some (.int whole), some (.int n), some (.int wide), some (.int a), some (.int b'), some (.int kind), o7, o8, o9, o10, none] ∧ Ex H' H6 ∧ 0 ≤ b' ∧ Bd 100 b') (by kcf_m) (fun _ H7 e7 => ?_) (fun _ H7 e7 => g_nil ⟨b1, rfl, e36.trans e7, b10, bb1⟩) fun σ' H7 ⟨b2, hσ, e37, b20, bb2⟩ => ?_
    · exact g_setI 5 nd n5 (n := 0) (by keq_hits) fun H8 e8 => g_nil ⟨0, rfl, (e36.trans e7).trans e8, by decide, (Bd.small (n := 1) (i := 0) (by decide) (by decide)).mono (by decide)⟩
    subst hσ
    clear bb1 b10 e36 e35
    have r0 := Int.emod_nonneg n (show (5 : Int) ≠ 0 by decide)
    have r1 := Int.emod_lt_of_pos n (show (0 : Int) < 5 by decide)
    have b3 : Bd 3 (2 + n % 5) := Bd.of (n := 3) (by omega) (by omega)
    refine g_ifC (t := decide (kind = 3)) (fun σ' H6 => ∃ a' b' : Int, σ' = [some v0, some (.int whole), some (.int n), some (.int wide), some (.int a'), some (.int b'), some (.int kind), o7, o8, o9, o10, none] ∧ Ex H' H6 ∧ 0 ≤ a' ∧ Bd 110 a' ∧ 0 ≤ b' ∧ Bd 110 b') (by kcf_m) (fun _ H8 e8 => ?_) (fun _ H8 e8 => g_nil ⟨a, b2, rfl, e37.trans e8, a0, ba.mono (by decide), b20, bb2.mono (by decide)⟩) fun σ' H8 ⟨a3, b3', hσ, e38, a30, ba3, b30, bb3⟩ => ?_
    · have k1 : MOk a (2 + n % 5) := ba.mok b3 (by decide) (by decide) (by decide)
      have k2 : MOk b2 (2 + n % 5) := bb2.mok b3 (by decide) (by decide) (by decide)
      exact g_parI 4 5 nd n4 n5 (by decide) (n := a * (2 + n % 5)) (m := b2 * (2 + n % 5)) (by ke_read) fun H9 e9 => g_nil ⟨_, _, rfl, (e37.trans e8).trans e9, Int.mul_nonneg a0 (by omega), (ba.mul b3).mono (by decide), Int.mul_nonneg b20 (by omega), (bb2.mul b3).mono (by decide)⟩
    subst hσ
    clear a0 ba b20 bb2 e37
    have lk1 := leapM_ok a30 b30 ba3 bb3 (by decide)
    have hv4 := dp_mono e38 hv2
    refine g_set 7 nd n7 (R := fun v H' => Dq K H' v (pr (leapM a3 b3').1 (leapM a3 b3').2)) (x_ifE (c := decide (0 < a3 + b3')) (by kcf_m) (fun z => gd_is (by keq_hits) (by unfold leapM; rw [if_pos (of_dec z)]; rfl)) fun z => gd_is (by keq_hits) (by unfold leapM; rw [if_neg (of_ndec z)]; rfl)) fun v7 H9 e9 hv7 => ?_
    generalize (leapM a3 b3').1 = la at *
    generalize (leapM a3 b3').2 = lb at *
    obtain ⟨la0, lb0, lab, bla, blb⟩ := lk1
    have hv9 := dp_mono e9 hv4
    -- counts_here
    refine g_setLcR (n := 8) 8 11 nd n8 x_int (by decide) B.range (fs := ((List.range 8).map fun (i : Nat) => abI (valL ns (n + (i : Int)) wide)).map .int) (blkOk_by (N := ["_law_script", "_law_whole", "_law_at", "_law_wide", "_law_one", "_law_other", "_law_kind", "_law_leap", "_law_counts_here", "_law_some", "_law_place_here", "_law_k"]) (sc := defScope s_law) (by decide +kernel)) (by rw [List.length_map, List.length_map, List.length_range]) (by rw [List.length_map, List.length_map, List.length_range]; decide) (nls_map _ (fun _ => rfl) _) (fun i fd2 H1 hf x1 s0 H00 C cl fp => ?_) (fun w8 H10 e10 hw8 => ?_) (fun _ _ _ _ _ => pg_name nd n11 (Or.inl rfl)) (sw_true rfl rfl rfl (by decide +kernel))
    · rw [List.getElem?_map, List.getElem?_map] at hf
      have hi : i < 8 := by
        by_cases q : i < 8
        · exact q
        · rw [List.getElem?_eq_none (by rw [List.length_range]; omega)] at hf
          cases hf
      rw [List.getElem?_range hi] at hf
      have hf' := Option.some.inj hf
      subst hf'
      have hv10 := dp_mono x1 hv9
      exact x_abs (i := valL ns (n + (i : Int)) wide) (x_call d1 hr (by decide) pass0 (s_cons (x_var 0 n0 rfl hv10) (s_cons (x_add (x_var 2 n2 rfl (.int n)) (x_var 11 n11 rfl (.int _))) (s_cons (x_var 3 n3 rfl (.int wide)) s_nil))) ⟨ns, n + (i : Int), wide, rfl, ⟨sc, by omega, by omega, w0, w1⟩, rfl⟩) B.abs
    · have ct : CtOk 100 ((List.range 8).map fun (i : Nat) => abI (valL ns (n + (i : Int)) wide)) := ⟨by rw [List.length_map, List.length_range], fun c hc => by
        obtain ⟨j, _, rfl⟩ := List.mem_map.mp hc
        exact (valL_bd ns (n + (j : Int)) wide).ab.symm⟩
      generalize ((List.range 8).map fun (i : Nat) => abI (valL ns (n + (i : Int)) wide)) = cs at *
      have hv10 := dp_mono e10 hv9
      have g7 := dp_mono e10 hv7
      have hc8 := hw8.tq.dq
      have ct6 : CtOk 60000 cs := ⟨ct.1, fun c hc => ⟨(ct.2 c hc).1, (ct.2 c hc).2.mono (by decide)⟩⟩
      have bl := ledL_bd cs (eightL la lb) (fun c hc => (ct.2 c hc).2) (eightL_bd bla blb)
      rw [ct.1] at bl
      have bl1 : Bd 2000 (led la lb cs).1 := bl.1.mono (by decide)
      have bl2 : Bd 2000 (led la lb cs).2 := bl.2.mono (by decide)
      refine g_set 9 nd n9 (f_lst (ds := [pr (valL ns (n + 2) wide) (valL ns (n + 3) 1), pr (led la lb cs).1 (led la lb cs).2]) (s_cons (x_tup (s_cons (x_call d1 hr (by decide) pass0 (by ke_read) ⟨ns, n + 2, wide, rfl, ⟨sc, by omega, by omega, w0, w1⟩, rfl⟩) (s_cons (x_call d1 hr (by decide) pass0 (by ke_read) ⟨ns, n + 3, 1, rfl, ⟨sc, by omega, by omega, by decide, by decide⟩, rfl⟩) s_nil)) (by simp)) (s_cons (x_call d3 hr (by decide) pass0 (s_cons (x_var 7 n7 rfl g7) (s_cons (x_var 8 n8 rfl hc8) s_nil)) ⟨la, lb, cs, rfl, ⟨bla.mono (by decide), blb.mono (by decide), ct6⟩, rfl⟩) s_nil)) (by simp)) fun w9 H11 e11 ⟨l, ws, eu, hl0, hl1, hws⟩ => ?_
      subst eu
      have bx := valL_bd ns (n + 2) wide
      have by' := valL_bd ns (n + 3) 1
      generalize valL ns (n + 2) wide = px at *
      generalize valL ns (n + 3) 1 = py at *
      generalize (led la lb cs).1 = l1 at *
      generalize (led la lb cs).2 = l2 at *
      have hv11 := dp_mono e11 hv10
      have g7b := dp_mono e11 g7
      have b5 := valL_bd ns (n + 5) 1
      have b6 := valL_bd ns (n + 6) 0
      have m5 : MOk la (valL ns (n + 5) 1) := bla.mok b5 (by decide) (by decide) (by decide)
      have m6 : MOk lb (valL ns (n + 6) 0) := blb.mok b6 (by decide) (by decide) (by decide)
      have e911 : Ex H' H10 := (e38.trans e9).trans e10
      refine g_append (l := l) (R := fun v H' => Dq K H' v (pr (la * valL ns (n + 5) 1) (lb * valL ns (n + 6) 0))) (x_varV 9 n9 rfl) (x_tup (s_cons (x_mul (x_ixT (x_var 7 n7 rfl g7b) x_int (by rfl)) (x_call d1 hr (by decide) pass0 (by ke_read) ⟨ns, n + 5, 1, rfl, ⟨sc, by omega, by omega, by decide, by decide⟩, rfl⟩) m5) (s_cons (x_mul (x_ixT (x_var 7 n7 rfl g7b) x_int (by rfl)) (x_call d1 hr (by decide) pass0 (by ke_read) ⟨ns, n + 6, 0, rfl, ⟨sc, by omega, by omega, by decide, by decide⟩, rfl⟩) m6) s_nil)) (by simp)) hl1 (by rw [dpa_len hws]; simp) fun z H12 e12 hz => ?_
      have bf1 : Bd 2000 (la * valL ns (n + 5) 1) := (bla.mul b5).mono (by decide)
      have bf2 : Bd 2000 (lb * valL ns (n + 6) 0) := (blb.mul b6).mono (by decide)
      generalize la * valL ns (n + 5) 1 = f1 at *
      generalize lb * valL ns (n + 6) 0 = f2 at *
      have x10 : Ex H10 (upd H12 l (.lst (ws ++ [z]))) := Ex.mut (e11.trans e12) hl0
      have hl12 : H12 l = some (.lst ws) := e12 _ _ hl1
      have hk9 : Tq K (upd H12 l (.lst (ws ++ [z]))) (.ref l) [pr px py, pr l1 l2, pr f1 f2] := ⟨l, ws ++ [z], rfl, upd_same, dpa_app (dpa_mut hl12 _ _ (by rfl) (dpa_mono e12 hws)) (.cons (dp_mut hl12 _ _ (by rfl) hz) .nil)⟩
      generalize upd H12 l (.lst (ws ++ [z])) = H13 at *
      have hv13 := dp_mono x10 hv10
      have g7c := dp_mono x10 g7
      have e913 : Ex H' H13 := e911.trans x10
      have hq9 := hk9.dq
      have hsm : ∀ {c : Int}, 0 ≤ c → c < 8 → Bd 2000 c := fun {c} h0 h1 => (Bd.of (n := 4) (i := c) (by omega) (by omega)).mono (by decide)
      refine g_forLn 10 nd n10 (ds := [pr px py, pr l1 l2, pr f1 f2] ++ [pr 0 0, pr 1 0]) (f_cat (k_var 9 n9 rfl hk9) (f_lst (ds := [pr 0 0, pr 1 0]) (by ke_read) (by simp)).fk (by simp)).fk.kd (fun _ σ' H' => ∃ o10, σ' = [some v0, some (.int whole), some (.int n), some (.int wide), some (.int a3), some (.int b3'), some (.int kind), some v7, some w8, some (.ref l), o10, none]) (fun _ _ => ⟨_, rfl⟩) PassesOwn.never (fun i d v σ' H14 hi x14 hd ⟨o10, hσ⟩ => ?_) fun σ' H14 x14 ⟨o10, hσ⟩ => ?_
      · subst hσ
        obtain ⟨hx, hy, rfl, bhx, bhy⟩ : ∃ hx hy, d = pr hx hy ∧ Bd 2000 hx ∧ Bd 2000 hy := by
          match i, hi with
          | 0, hi => exact ⟨px, py, (Option.some.inj hi).symm, bx.mono (by decide), by'.mono (by decide)⟩
          | 1, hi => exact ⟨l1, l2, (Option.some.inj hi).symm, bl1, bl2⟩
          | 2, hi => exact ⟨f1, f2, (Option.some.inj hi).symm, bf1, bf2⟩
          | 3, hi => exact ⟨0, 0, (Option.some.inj hi).symm, hsm (by decide) (by decide), hsm (by decide) (by decide)⟩
          | 4, hi => exact ⟨1, 0, (Option.some.inj hi).symm, hsm (by decide) (by decide), hsm (by decide) (by decide)⟩
        have g7d := dp_mono x14 g7c
        have hq14 := dp_mono x14 hq9
        have lpo : LpOk la lb := ⟨la0, lb0, lab, bla.mono (by decide), blb.mono (by decide)⟩
        refine g_when (t := !true) (t_not (t_val (x_call d2 hr (by decide) pass0 (s_cons (x_var 7 n7 rfl g7d) (s_cons (x_var 10 n10 rfl hd) (s_cons
          (x_lst (ds := [.tuple [pr la lb, pr px py], .tuple [pr 1 2, pr hx hy], .tuple [pr la lb, pr l1 l2]]) (s_cons (x_tup (s_cons (x_var 7 n7 rfl g7d) (s_cons (x_ixL (x_var 9 n9 rfl hq14) x_int (by rfl)) s_nil)) (by simp)) (s_cons (x_tup (s_cons (by keq_hits) (s_cons (x_var 10 n10 rfl hd) s_nil)) (by simp)) (s_cons (x_tup (s_cons (x_var 7 n7 rfl g7d) (s_cons (x_ixL (x_var 9 n9 rfl hq14) x_int (by rfl)) s_nil)) (by simp)) s_nil))) (by simp)) s_nil)))
          ⟨la, lb, hx, hy, [((la, lb), (px, py)), ((1, 2), (hx, hy)), ((la, lb), (l1, l2))], rfl, ⟨lpo, bhx, bhy, fun o ho => by
            simp only [List.mem_cons, List.not_mem_nil, or_false] at ho
            rcases ho with rfl | rfl | rfl
            · exact lpo
            · exact (⟨by decide, by decide, .inl (by decide), hsm (by decide) (by decide), hsm (by decide) (by decide)⟩ : LpOk 1 2)
            · exact lpo⟩, rfl⟩))) (fun z => by cases z) fun _ H15 e15 => g_nil ⟨e15, _, rfl⟩
      · subst hσ
        exact g_nil ⟨e913.trans x14, _, _, _, _, _, _, _, _, _, rfl⟩
  · subst hσ
    have hsm : ∀ {c : Int}, -8 < c → c < 8 → Bd 2000 c := fun {c} h0 h1 => (Bd.of (n := 4) (i := c) (by omega) (by omega)).mono (by decide)
    have q1 : barBy 2 4 1 0 = some 2 := by decide +kernel
    have q2 : barBy 1 3 1 0 = some 2 := by decide +kernel
    have q3 : barBy 0 1 5 (-7) = none := by decide +kernel
    have q4 : barBy 1 2 0 1 = none := by decide +kernel
    have q5 : barBy 3 3 3 0 = some 6 := by decide +kernel
    refine g_when (t := (!decide ((2 : Int) = 2)) || ((!decide ((2 : Int) = 2)) || !true)) (t_w (w_or (t_cmpR op_ne rd_neI (x_fldR (x_told d4 hr (by decide) (by keq_hits) (by keq_hits) ⟨by decide, by decide, .inl (by decide), hsm (by decide) (by decide), hsm (by decide) (by decide), hsm (by decide) (by decide), hsm (by decide) (by decide)⟩) (fun v H1 r => by
          obtain ⟨p, dx, z1, z2⟩ := told_never q1 r
          exact ⟨p, dx, _, _, z1, z2, by simp [List.lookup], .int 2⟩) TN.cl TN.na) x_int (nomark _)) fun _ =>
        w_or (t_cmpR op_ne rd_neI (x_fldR (x_told d4 hr (by decide) (by keq_hits) (by keq_hits) ⟨by decide, by decide, .inl (by decide), hsm (by decide) (by decide), hsm (by decide) (by decide), hsm (by decide) (by decide), hsm (by decide) (by decide)⟩) (fun v H1 r => by
          obtain ⟨p, dx, z1, z2⟩ := told_never q2 r
          exact ⟨p, dx, _, _, z1, z2, by simp [List.lookup], .int 2⟩) TN.cl TN.na) x_int (nomark _)) fun _ =>
        w_or1 (t_not (t_val (x_isiR (x_told d4 hr (by decide) (by keq_hits) (by keq_hits) ⟨by decide, by decide, .inr (by decide), hsm (by decide) (by decide), hsm (by decide) (by decide), hsm (by decide) (by decide), hsm (by decide) (by decide)⟩) (fun v H1 r => by
          obtain ⟨p, dx, l, z1, z2⟩ := told_way q3 r
          exact ⟨p, dx, _, z1, z2⟩) IW TW.gl kWW B.isinstance))))) (fun z => by simp at z) fun _ H3 e3 => ?_
    refine g_retD (d := .bool (true && true)) (x_and (x_isiR (x_told d4 hr (by decide) (by keq_hits) (by keq_hits) ⟨by decide, by decide, .inl (by decide), hsm (by decide) (by decide), hsm (by decide) (by decide), hsm (by decide) (by decide), hsm (by decide) (by decide)⟩) (fun v H1 r => by
          obtain ⟨p, dx, l, z1, z2⟩ := told_way q4 r
          exact ⟨p, dx, _, z1, z2⟩) IW TW.gl kWW B.isinstance) fun _ => x_and1 (x_isiR (x_told d4 hr (by decide) (by keq_hits) (by keq_hits) ⟨by decide, by decide, .inl (by decide), hsm (by decide) (by decide), hsm (by decide) (by decide), hsm (by decide) (by decide), hsm (by decide) (by decide)⟩) (fun v H1 r => by
          obtain ⟨p, dx, z1, z2⟩ := told_never q5 r
          exact ⟨p, dx, _, z1, z2⟩) IN TN.gl kNN B.isinstance)) rfl fun v2 H5 e5 r => k v2 H5 (((e1.trans x2).trans e3).trans e5) r
/-! ### what the top has written -/
theorem all_mk {l : PySem.W.OpenLaw} {w : World} {K : PySem.W.Frag} {h : Heap} {mg : Str → Option Value} {fa f_0 f_1 f_2 f_3 f_4 f_5 f_6 f_7 f_8 f_9 f_10 f_11 f_12 f_13 f_14 f_15 f_16 f_17 f_18 f_19 f_20 f_21 f_22 f_23 f_24 f_25 f_26 f_27 f_28 CW fWi fWs CN fNi fNs CA : Addr} (X : K.In h) (G : h.Ns mainGlobals mg) (hfa : mg "law" = some (.ref fa))
    {oc_0 kV_0 dc_0 pm_0 cd_0 ct_0 : Value} {od_0 an_0 : Option Addr} {sl_0 : Array (Option Value)}
    {oc_1 kV_1 dc_1 pm_1 cd_1 ct_1 : Value} {od_1 an_1 : Option Addr} {sl_1 : Array (Option Value)}
    {oc_2 kV_2 dc_2 pm_2 cd_2 ct_2 : Value} {od_2 an_2 : Option Addr} {sl_2 : Array (Option Value)}
    {oc_3 kV_3 dc_3 pm_3 cd_3 ct_3 : Value} {od_3 an_3 : Option Addr} {sl_3 : Array (Option Value)}
    {oc_4 kV_4 dc_4 pm_4 cd_4 ct_4 : Value} {od_4 an_4 : Option Addr} {sl_4 : Array (Option Value)}
    {oc_5 kV_5 dc_5 pm_5 cd_5 ct_5 : Value} {od_5 an_5 : Option Addr} {sl_5 : Array (Option Value)}
    {oc_6 kV_6 dc_6 pm_6 cd_6 ct_6 : Value} {od_6 an_6 : Option Addr} {sl_6 : Array (Option Value)}
    {oc_7 kV_7 dc_7 pm_7 cd_7 ct_7 : Value} {od_7 an_7 : Option Addr} {sl_7 : Array (Option Value)}
    {oc_8 kV_8 dc_8 pm_8 cd_8 ct_8 : Value} {od_8 an_8 : Option Addr} {sl_8 : Array (Option Value)}
    {oc_9 kV_9 dc_9 pm_9 cd_9 ct_9 : Value} {od_9 an_9 : Option Addr} {sl_9 : Array (Option Value)}
    {oc_10 kV_10 dc_10 pm_10 cd_10 ct_10 : Value} {od_10 an_10 : Option Addr} {sl_10 : Array (Option Value)}
    {oc_11 kV_11 dc_11 pm_11 cd_11 ct_11 : Value} {od_11 an_11 : Option Addr} {sl_11 : Array (Option Value)}
    {oc_12 kV_12 dc_12 pm_12 cd_12 ct_12 : Value} {od_12 an_12 : Option Addr} {sl_12 : Array (Option Value)}
    {oc_13 kV_13 dc_13 pm_13 cd_13 ct_13 : Value} {od_13 an_13 : Option Addr} {sl_13 : Array (Option Value)}
    {oc_14 kV_14 dc_14 pm_14 cd_14 ct_14 : Value} {od_14 an_14 : Option Addr} {sl_14 : Array (Option Value)}
    {oc_15 kV_15 dc_15 pm_15 cd_15 ct_15 : Value} {od_15 an_15 : Option Addr} {sl_15 : Array (Option Value)}
    {oc_16 kV_16 dc_16 pm_16 cd_16 ct_16 : Value} {od_16 an_16 : Option Addr} {sl_16 : Array (Option Value)}
    {oc_17 kV_17 dc_17 pm_17 cd_17 ct_17 : Value} {od_17 an_17 : Option Addr} {sl_17 : Array (Option Value)}
    {oc_18 kV_18 dc_18 pm_18 cd_18 ct_18 : Value} {od_18 an_18 : Option Addr} {sl_18 : Array (Option Value)}
    {oc_19 kV_19 dc_19 pm_19 cd_19 ct_19 : Value} {od_19 an_19 : Option Addr} {sl_19 : Array (Option Value)}
    {oc_20 kV_20 dc_20 pm_20 cd_20 ct_20 : Value} {od_20 an_20 : Option Addr} {sl_20 : Array (Option Value)}
    {oc_21 kV_21 dc_21 pm_21 cd_21 ct_21 : Value} {od_21 an_21 : Option Addr} {sl_21 : Array (Option Value)}
    {oc_22 kV_22 dc_22 pm_22 cd_22 ct_22 : Value} {od_22 an_22 : Option Addr} {sl_22 : Array (Option Value)}
    {oc_23 kV_23 dc_23 pm_23 cd_23 ct_23 : Value} {od_23 an_23 : Option Addr} {sl_23 : Array (Option Value)}
    {oc_24 kV_24 dc_24 pm_24 cd_24 ct_24 : Value} {od_24 an_24 : Option Addr} {sl_24 : Array (Option Value)}
    {oc_25 kV_25 dc_25 pm_25 cd_25 ct_25 : Value} {od_25 an_25 : Option Addr} {sl_25 : Array (Option Value)}
    {oc_26 kV_26 dc_26 pm_26 cd_26 ct_26 : Value} {od_26 an_26 : Option Addr} {sl_26 : Array (Option Value)}
    {oc_27 kV_27 dc_27 pm_27 cd_27 ct_27 : Value} {od_27 an_27 : Option Addr} {sl_27 : Array (Option Value)}
    {oc_28 kV_28 dc_28 pm_28 cd_28 ct_28 : Value} {od_28 an_28 : Option Addr} {sl_28 : Array (Option Value)}
    {ocWi kVWi dcWi pmWi cdWi ctWi : Value} {odWi anWi : Option Addr} {slWi : Array (Option Value)}
    {ocWs kVWs dcWs pmWs cdWs ctWs : Value} {odWs anWs : Option Addr} {slWs : Array (Option Value)}
    {ocNi kVNi dcNi pmNi cdNi ctNi : Value} {odNi anNi : Option Addr} {slNi : Array (Option Value)}
    {ocNs kVNs dcNs pmNs cdNs ctNs : Value} {odNs anNs : Option Addr} {slNs : Array (Option Value)}
    (jn : PySem.W.specialIn K (.builtin "object.__class__") "__get__" = some (some (.builtin "getset_descriptor.__get__"))) (jt : PySem.W.takesIn K (.builtin "object.__class__") = some true)
    (a_0 : PySem.W.nsIn K mainGlobals "along_and_across" = some (some (.ref f_0)))
    (l_0 : K.lookup f_0 = some ⟨oc_0, od_0, .func (PySem.W.fnOf "along_and_across" "along_and_across" (defArgs s_along_and_across) (defBody s_along_and_across) (defScope s_along_and_across) .none kV_0 dc_0 pm_0 an_0 cd_0 ct_0), sl_0⟩) (c_0 : PySem.W.codeIn K cd_0 "along_and_across" = true) (k_0 : PySem.W.keepIn K (.ref f_0) = true)
    (a_1 : PySem.W.nsIn K mainGlobals "bars_numbers" = some (some (.ref f_1)))
    (l_1 : K.lookup f_1 = some ⟨oc_1, od_1, .func (PySem.W.fnOf "bars_numbers" "bars_numbers" (defArgs s_bars_numbers) (defBody s_bars_numbers) (defScope s_bars_numbers) .none kV_1 dc_1 pm_1 an_1 cd_1 ct_1), sl_1⟩) (c_1 : PySem.W.codeIn K cd_1 "bars_numbers" = true) (k_1 : PySem.W.keepIn K (.ref f_1) = true)
    (a_2 : PySem.W.nsIn K mainGlobals "bars_sum" = some (some (.ref f_2)))
    (l_2 : K.lookup f_2 = some ⟨oc_2, od_2, .func (PySem.W.fnOf "bars_sum" "bars_sum" (defArgs s_bars_sum) (defBody s_bars_sum) (defScope s_bars_sum) .none kV_2 dc_2 pm_2 an_2 cd_2 ct_2), sl_2⟩) (c_2 : PySem.W.codeIn K cd_2 "bars_sum" = true) (k_2 : PySem.W.keepIn K (.ref f_2) = true)
    (a_3 : PySem.W.nsIn K mainGlobals "common_of" = some (some (.ref f_3)))
    (l_3 : K.lookup f_3 = some ⟨oc_3, od_3, .func (PySem.W.fnOf "common_of" "common_of" (defArgs s_common_of) (defBody s_common_of) (defScope s_common_of) .none kV_3 dc_3 pm_3 an_3 cd_3 ct_3), sl_3⟩) (c_3 : PySem.W.codeIn K cd_3 "common_of" = true) (k_3 : PySem.W.keepIn K (.ref f_3) = true)
    (a_4 : PySem.W.nsIn K mainGlobals "counts_to" = some (some (.ref f_4)))
    (l_4 : K.lookup f_4 = some ⟨oc_4, od_4, .func (PySem.W.fnOf "counts_to" "counts_to" (defArgs s_counts_to) (defBody s_counts_to) (defScope s_counts_to) .none kV_4 dc_4 pm_4 an_4 cd_4 ct_4), sl_4⟩) (c_4 : PySem.W.codeIn K cd_4 "counts_to" = true) (k_4 : PySem.W.keepIn K (.ref f_4) = true)
    (a_5 : PySem.W.nsIn K mainGlobals "eight" = some (some (.ref f_5)))
    (l_5 : K.lookup f_5 = some ⟨oc_5, od_5, .func (PySem.W.fnOf "eight" "eight" (defArgs s_eight) (defBody s_eight) (defScope s_eight) .none kV_5 dc_5 pm_5 an_5 cd_5 ct_5), sl_5⟩) (c_5 : PySem.W.codeIn K cd_5 "eight" = true) (k_5 : PySem.W.keepIn K (.ref f_5) = true)
    (a_6 : PySem.W.nsIn K mainGlobals "evened" = some (some (.ref f_6)))
    (l_6 : K.lookup f_6 = some ⟨oc_6, od_6, .func (PySem.W.fnOf "evened" "evened" (defArgs s_evened) (defBody s_evened) (defScope s_evened) .none kV_6 dc_6 pm_6 an_6 cd_6 ct_6), sl_6⟩) (c_6 : PySem.W.codeIn K cd_6 "evened" = true) (k_6 : PySem.W.keepIn K (.ref f_6) = true)
    (a_7 : PySem.W.nsIn K mainGlobals "goes_into" = some (some (.ref f_7)))
    (l_7 : K.lookup f_7 = some ⟨oc_7, od_7, .func (PySem.W.fnOf "goes_into" "goes_into" (defArgs s_goes_into) (defBody s_goes_into) (defScope s_goes_into) .none kV_7 dc_7 pm_7 an_7 cd_7 ct_7), sl_7⟩) (c_7 : PySem.W.codeIn K cd_7 "goes_into" = true) (k_7 : PySem.W.keepIn K (.ref f_7) = true)
    (a_8 : PySem.W.nsIn K mainGlobals "is_amount" = some (some (.ref f_8)))
    (l_8 : K.lookup f_8 = some ⟨oc_8, od_8, .func (PySem.W.fnOf "is_amount" "is_amount" (defArgs s_is_amount) (defBody s_is_amount) (defScope s_is_amount) .none kV_8 dc_8 pm_8 an_8 cd_8 ct_8), sl_8⟩) (c_8 : PySem.W.codeIn K cd_8 "is_amount" = true) (k_8 : PySem.W.keepIn K (.ref f_8) = true)
    (a_9 : PySem.W.nsIn K mainGlobals "is_counts" = some (some (.ref f_9)))
    (l_9 : K.lookup f_9 = some ⟨oc_9, od_9, .func (PySem.W.fnOf "is_counts" "is_counts" (defArgs s_is_counts) (defBody s_is_counts) (defScope s_is_counts) .none kV_9 dc_9 pm_9 an_9 cd_9 ct_9), sl_9⟩) (c_9 : PySem.W.codeIn K cd_9 "is_counts" = true) (k_9 : PySem.W.keepIn K (.ref f_9) = true)
    (a_10 : PySem.W.nsIn K mainGlobals "is_leap" = some (some (.ref f_10)))
    (l_10 : K.lookup f_10 = some ⟨oc_10, od_10, .func (PySem.W.fnOf "is_leap" "is_leap" (defArgs s_is_leap) (defBody s_is_leap) (defScope s_is_leap) .none kV_10 dc_10 pm_10 an_10 cd_10 ct_10), sl_10⟩) (c_10 : PySem.W.codeIn K cd_10 "is_leap" = true) (k_10 : PySem.W.keepIn K (.ref f_10) = true)
    (a_11 : PySem.W.nsIn K mainGlobals "is_place" = some (some (.ref f_11)))
    (l_11 : K.lookup f_11 = some ⟨oc_11, od_11, .func (PySem.W.fnOf "is_place" "is_place" (defArgs s_is_place) (defBody s_is_place) (defScope s_is_place) .none kV_11 dc_11 pm_11 an_11 cd_11 ct_11), sl_11⟩) (c_11 : PySem.W.codeIn K cd_11 "is_place" = true) (k_11 : PySem.W.keepIn K (.ref f_11) = true)
    (a_12 : PySem.W.nsIn K mainGlobals "is_whole" = some (some (.ref f_12)))
    (l_12 : K.lookup f_12 = some ⟨oc_12, od_12, .func (PySem.W.fnOf "is_whole" "is_whole" (defArgs s_is_whole) (defBody s_is_whole) (defScope s_is_whole) .none kV_12 dc_12 pm_12 an_12 cd_12 ct_12), sl_12⟩) (c_12 : PySem.W.codeIn K cd_12 "is_whole" = true) (k_12 : PySem.W.keepIn K (.ref f_12) = true)
    (a_13 : PySem.W.nsIn K mainGlobals "_law_barred" = some (some (.ref f_13)))
    (l_13 : K.lookup f_13 = some ⟨oc_13, od_13, .func (PySem.W.fnOf "_law_barred" "_law_barred" (defArgs s_law_barred) (defBody s_law_barred) (defScope s_law_barred) .none kV_13 dc_13 pm_13 an_13 cd_13 ct_13), sl_13⟩) (c_13 : PySem.W.codeIn K cd_13 "_law_barred" = true) (k_13 : PySem.W.keepIn K (.ref f_13) = true)
    (a_14 : PySem.W.nsIn K mainGlobals "_law_bars" = some (some (.ref f_14)))
    (l_14 : K.lookup f_14 = some ⟨oc_14, od_14, .func (PySem.W.fnOf "_law_bars" "_law_bars" (defArgs s_law_bars) (defBody s_law_bars) (defScope s_law_bars) .none kV_14 dc_14 pm_14 an_14 cd_14 ct_14), sl_14⟩) (c_14 : PySem.W.codeIn K cd_14 "_law_bars" = true) (k_14 : PySem.W.keepIn K (.ref f_14) = true)
    (a_15 : PySem.W.nsIn K mainGlobals "_law_common" = some (some (.ref f_15)))
    (l_15 : K.lookup f_15 = some ⟨oc_15, od_15, .func (PySem.W.fnOf "_law_common" "_law_common" (defArgs s_law_common) (defBody s_law_common) (defScope s_law_common) .none kV_15 dc_15 pm_15 an_15 cd_15 ct_15), sl_15⟩) (c_15 : PySem.W.codeIn K cd_15 "_law_common" = true) (k_15 : PySem.W.keepIn K (.ref f_15) = true)
    (a_16 : PySem.W.nsIn K mainGlobals "_law_counts" = some (some (.ref f_16)))
    (l_16 : K.lookup f_16 = some ⟨oc_16, od_16, .func (PySem.W.fnOf "_law_counts" "_law_counts" (defArgs s_law_counts) (defBody s_law_counts) (defScope s_law_counts) .none kV_16 dc_16 pm_16 an_16 cd_16 ct_16), sl_16⟩) (c_16 : PySem.W.codeIn K cd_16 "_law_counts" = true) (k_16 : PySem.W.keepIn K (.ref f_16) = true)
    (a_17 : PySem.W.nsIn K mainGlobals "_law_due" = some (some (.ref f_17)))
    (l_17 : K.lookup f_17 = some ⟨oc_17, od_17, .func (PySem.W.fnOf "_law_due" "_law_due" (defArgs s_law_due) (defBody s_law_due) (defScope s_law_due) .none kV_17 dc_17 pm_17 an_17 cd_17 ct_17), sl_17⟩) (c_17 : PySem.W.codeIn K cd_17 "_law_due" = true) (k_17 : PySem.W.keepIn K (.ref f_17) = true)
    (a_18 : PySem.W.nsIn K mainGlobals "_law_eight" = some (some (.ref f_18)))
    (l_18 : K.lookup f_18 = some ⟨oc_18, od_18, .func (PySem.W.fnOf "_law_eight" "_law_eight" (defArgs s_law_eight) (defBody s_law_eight) (defScope s_law_eight) .none kV_18 dc_18 pm_18 an_18 cd_18 ct_18), sl_18⟩) (c_18 : PySem.W.codeIn K cd_18 "_law_eight" = true) (k_18 : PySem.W.keepIn K (.ref f_18) = true)
    (a_19 : PySem.W.nsIn K mainGlobals "_law_led" = some (some (.ref f_19)))
    (l_19 : K.lookup f_19 = some ⟨oc_19, od_19, .func (PySem.W.fnOf "_law_led" "_law_led" (defArgs s_law_led) (defBody s_law_led) (defScope s_law_led) .none kV_19 dc_19 pm_19 an_19 cd_19 ct_19), sl_19⟩) (c_19 : PySem.W.codeIn K cd_19 "_law_led" = true) (k_19 : PySem.W.keepIn K (.ref f_19) = true)
    (a_20 : PySem.W.nsIn K mainGlobals "_law_number" = some (some (.ref f_20)))
    (l_20 : K.lookup f_20 = some ⟨oc_20, od_20, .func (PySem.W.fnOf "_law_number" "_law_number" (defArgs s_law_number) (defBody s_law_number) (defScope s_law_number) .none kV_20 dc_20 pm_20 an_20 cd_20 ct_20), sl_20⟩) (c_20 : PySem.W.codeIn K cd_20 "_law_number" = true) (k_20 : PySem.W.keepIn K (.ref f_20) = true)
    (a_21 : PySem.W.nsIn K mainGlobals "_law_right" = some (some (.ref f_21)))
    (l_21 : K.lookup f_21 = some ⟨oc_21, od_21, .func (PySem.W.fnOf "_law_right" "_law_right" (defArgs s_law_right) (defBody s_law_right) (defScope s_law_right) .none kV_21 dc_21 pm_21 an_21 cd_21 ct_21), sl_21⟩) (c_21 : PySem.W.codeIn K cd_21 "_law_right" = true) (k_21 : PySem.W.keepIn K (.ref f_21) = true)
    (a_22 : PySem.W.nsIn K mainGlobals "_law_value" = some (some (.ref f_22)))
    (l_22 : K.lookup f_22 = some ⟨oc_22, od_22, .func (PySem.W.fnOf "_law_value" "_law_value" (defArgs s_law_value) (defBody s_law_value) (defScope s_law_value) .none kV_22 dc_22 pm_22 an_22 cd_22 ct_22), sl_22⟩) (c_22 : PySem.W.codeIn K cd_22 "_law_value" = true) (k_22 : PySem.W.keepIn K (.ref f_22) = true)
    (a_23 : PySem.W.nsIn K mainGlobals "need_counts" = some (some (.ref f_23)))
    (l_23 : K.lookup f_23 = some ⟨oc_23, od_23, .func (PySem.W.fnOf "need_counts" "need_counts" (defArgs s_need_counts) (defBody s_need_counts) (defScope s_need_counts) .none kV_23 dc_23 pm_23 an_23 cd_23 ct_23), sl_23⟩) (c_23 : PySem.W.codeIn K cd_23 "need_counts" = true) (k_23 : PySem.W.keepIn K (.ref f_23) = true)
    (a_24 : PySem.W.nsIn K mainGlobals "need_leap" = some (some (.ref f_24)))
    (l_24 : K.lookup f_24 = some ⟨oc_24, od_24, .func (PySem.W.fnOf "need_leap" "need_leap" (defArgs s_need_leap) (defBody s_need_leap) (defScope s_need_leap) .none kV_24 dc_24 pm_24 an_24 cd_24 ct_24), sl_24⟩) (c_24 : PySem.W.codeIn K cd_24 "need_leap" = true) (k_24 : PySem.W.keepIn K (.ref f_24) = true)
    (a_25 : PySem.W.nsIn K mainGlobals "need_place" = some (some (.ref f_25)))
    (l_25 : K.lookup f_25 = some ⟨oc_25, od_25, .func (PySem.W.fnOf "need_place" "need_place" (defArgs s_need_place) (defBody s_need_place) (defScope s_need_place) .none kV_25 dc_25 pm_25 an_25 cd_25 ct_25), sl_25⟩) (c_25 : PySem.W.codeIn K cd_25 "need_place" = true) (k_25 : PySem.W.keepIn K (.ref f_25) = true)
    (a_26 : PySem.W.nsIn K mainGlobals "place_of" = some (some (.ref f_26)))
    (l_26 : K.lookup f_26 = some ⟨oc_26, od_26, .func (PySem.W.fnOf "place_of" "place_of" (defArgs s_place_of) (defBody s_place_of) (defScope s_place_of) .none kV_26 dc_26 pm_26 an_26 cd_26 ct_26), sl_26⟩) (c_26 : PySem.W.codeIn K cd_26 "place_of" = true) (k_26 : PySem.W.keepIn K (.ref f_26) = true)
    (a_27 : PySem.W.nsIn K mainGlobals "told" = some (some (.ref f_27)))
    (l_27 : K.lookup f_27 = some ⟨oc_27, od_27, .func (PySem.W.fnOf "told" "told" (defArgs s_told) (defBody s_told) (defScope s_told) .none kV_27 dc_27 pm_27 an_27 cd_27 ct_27), sl_27⟩) (c_27 : PySem.W.codeIn K cd_27 "told" = true) (k_27 : PySem.W.keepIn K (.ref f_27) = true)
    (a_28 : PySem.W.nsIn K mainGlobals "law" = some (some (.ref f_28)))
    (l_28 : K.lookup f_28 = some ⟨oc_28, od_28, .func (PySem.W.fnOf "law" "law" (defArgs s_law) (defBody s_law) (defScope s_law) .none kV_28 dc_28 pm_28 an_28 cd_28 ct_28), sl_28⟩) (c_28 : PySem.W.codeIn K cd_28 "law" = true) (k_28 : PySem.W.keepIn K (.ref f_28) = true)
    (aCW : PySem.W.nsIn K mainGlobals "Way" = some (some (.ref CW)))
    (aWi : PySem.W.findIn K (.ref CW) "__init__" = some (some (.ref fWi))) (iWi : PySem.W.isFn K (.ref fWi) = true)
    (lWi : K.lookup fWi = some ⟨ocWi, odWi, .func (PySem.W.fnOf "__init__" "Way.__init__" (defArgs s_Way_init) (defBody s_Way_init) (defScope s_Way_init) .none kVWi dcWi pmWi anWi cdWi ctWi), slWi⟩) (cWi : PySem.W.codeIn K cdWi "Way.__init__" = true) (kWi : PySem.W.keepIn K (.ref fWi) = true)
    (aWs : PySem.W.findIn K (.ref CW) "shows" = some (some (.ref fWs))) (iWs : PySem.W.isFn K (.ref fWs) = true)
    (lWs : K.lookup fWs = some ⟨ocWs, odWs, .func (PySem.W.fnOf "shows" "Way.shows" (defArgs s_Way_shows) (defBody s_Way_shows) (defScope s_Way_shows) .none kVWs dcWs pmWs anWs cdWs ctWs), slWs⟩) (cWs : PySem.W.codeIn K cdWs "Way.shows" = true) (kWs : PySem.W.keepIn K (.ref fWs) = true)
    (pgW : PySem.W.plainGet K CW Str.empty = true) (hdW : PySem.W.hasDictIn K CW = true) (poW : PySem.W.plainOver K CW = true) (saW : PySem.W.findIn K (.ref CW) "__setattr__" = some (some (.builtin "object.__setattr__"))) (mkW : PySem.W.makesIn K CW = true) (kcW : PySem.W.keepIn K (.ref CW) = true) (naW : PySem.W.findIn K (.ref CW) "counts" = some none)
    (jaW : PySem.W.findIn K (.ref CW) "__class__" = some (some (.builtin "object.__class__"))) (jmW : PySem.W.mroIn K CW (.type "object") = some true)
    (aCN : PySem.W.nsIn K mainGlobals "Never" = some (some (.ref CN)))
    (aNi : PySem.W.findIn K (.ref CN) "__init__" = some (some (.ref fNi))) (iNi : PySem.W.isFn K (.ref fNi) = true)
    (lNi : K.lookup fNi = some ⟨ocNi, odNi, .func (PySem.W.fnOf "__init__" "Never.__init__" (defArgs s_Never_init) (defBody s_Never_init) (defScope s_Never_init) .none kVNi dcNi pmNi anNi cdNi ctNi), slNi⟩) (cNi : PySem.W.codeIn K cdNi "Never.__init__" = true) (kNi : PySem.W.keepIn K (.ref fNi) = true)
    (aNs : PySem.W.findIn K (.ref CN) "shows" = some (some (.ref fNs))) (iNs : PySem.W.isFn K (.ref fNs) = true)
    (lNs : K.lookup fNs = some ⟨ocNs, odNs, .func (PySem.W.fnOf "shows" "Never.shows" (defArgs s_Never_shows) (defBody s_Never_shows) (defScope s_Never_shows) .none kVNs dcNs pmNs anNs cdNs ctNs), slNs⟩) (cNs : PySem.W.codeIn K cdNs "Never.shows" = true) (kNs : PySem.W.keepIn K (.ref fNs) = true)
    (pgN : PySem.W.plainGet K CN Str.empty = true) (hdN : PySem.W.hasDictIn K CN = true) (poN : PySem.W.plainOver K CN = true) (saN : PySem.W.findIn K (.ref CN) "__setattr__" = some (some (.builtin "object.__setattr__"))) (mkN : PySem.W.makesIn K CN = true) (kcN : PySem.W.keepIn K (.ref CN) = true) (naN : PySem.W.findIn K (.ref CN) "by" = some none)
    (jaN : PySem.W.findIn K (.ref CN) "__class__" = some (some (.builtin "object.__class__"))) (jmN : PySem.W.mroIn K CN (.type "object") = some true)
    (aCA : PySem.W.nsIn K mainGlobals "Answer" = some (some (.ref CA)))
    (kNA : PySem.W.kitOne K (.ref CN) (.ref CA) = some true)
    (kNN : PySem.W.kitOne K (.ref CN) (.ref CN) = some true)
    (kNW : PySem.W.kitOne K (.ref CN) (.ref CW) = some false)
    (kWA : PySem.W.kitOne K (.ref CW) (.ref CA) = some true)
    (kWN : PySem.W.kitOne K (.ref CW) (.ref CN) = some false)
    (kWW : PySem.W.kitOne K (.ref CW) (.ref CW) = some true)
    (zisinstance : PySem.W.nsIn K mainGlobals "isinstance" = some none)
    (zint : PySem.W.nsIn K mainGlobals "int" = some none)
    (zbool : PySem.W.nsIn K mainGlobals "bool" = some none)
    (ztuple : PySem.W.nsIn K mainGlobals "tuple" = some none)
    (zlist : PySem.W.nsIn K mainGlobals "list" = some none)
    (zlen : PySem.W.nsIn K mainGlobals "len" = some none)
    (zall : PySem.W.nsIn K mainGlobals "all" = some none)
    (zany : PySem.W.nsIn K mainGlobals "any" = some none)
    (zsum : PySem.W.nsIn K mainGlobals "sum" = some none)
    (zmin : PySem.W.nsIn K mainGlobals "min" = some none)
    (zmax : PySem.W.nsIn K mainGlobals "max" = some none)
    (zabs : PySem.W.nsIn K mainGlobals "abs" = some none)
    (zzip : PySem.W.nsIn K mainGlobals "zip" = some none)
    (zrange : PySem.W.nsIn K mainGlobals "range" = some none)
    : ∃ fd : FuncData, (∀ (s : Shared) (v : Value), BindsTo s fd ⟨[v], []⟩ [("_law_script", v)]) ∧ ∀ base : Heap, K.In base → base.Ns mainGlobals mg → FnOk l.prog w K mg base CX0 9 fa fd ["_law_script"] (spD K F_law) := by
  have e := hfa.symm.trans (PySem.W.mg_of X G a_28)
  cases e
  have F_along_and_across := fun_mk (st := s_along_and_across) l_0 c_0 k_0
  have T_along_and_across : Th K mg "along_and_across" s_along_and_across ["of_a", "of_b", "x", "y"] := ⟨_, _, PySem.W.mg_of X G a_0, F_along_and_across, F_along_and_across.binds (ps := ["of_a", "of_b", "x", "y"]) fun _ _ _ _ _ _ us hl => match us, hl with | [_, _, _, _], _ => rfl⟩
  have F_bars_numbers := fun_mk (st := s_bars_numbers) l_1 c_1 k_1
  have T_bars_numbers : Th K mg "bars_numbers" s_bars_numbers ["by", "leap", "place"] := ⟨_, _, PySem.W.mg_of X G a_1, F_bars_numbers, F_bars_numbers.binds (ps := ["by", "leap", "place"]) fun _ _ _ _ _ _ us hl => match us, hl with | [_, _, _], _ => rfl⟩
  have F_bars_sum := fun_mk (st := s_bars_sum) l_2 c_2 k_2
  have T_bars_sum : Th K mg "bars_sum" s_bars_sum ["by", "leap", "place"] := ⟨_, _, PySem.W.mg_of X G a_2, F_bars_sum, F_bars_sum.binds (ps := ["by", "leap", "place"]) fun _ _ _ _ _ _ us hl => match us, hl with | [_, _, _], _ => rfl⟩
  have F_common_of := fun_mk (st := s_common_of) l_3 c_3 k_3
  have T_common_of : Th K mg "common_of" s_common_of ["a", "b"] := ⟨_, _, PySem.W.mg_of X G a_3, F_common_of, F_common_of.binds (ps := ["a", "b"]) fun _ _ _ _ _ _ us hl => match us, hl with | [_, _], _ => rfl⟩
  have F_counts_to := fun_mk (st := s_counts_to) l_4 c_4 k_4
  have T_counts_to : Th K mg "counts_to" s_counts_to ["parts"] := ⟨_, _, PySem.W.mg_of X G a_4, F_counts_to, F_counts_to.binds (ps := ["parts"]) fun _ _ _ _ _ _ us hl => match us, hl with | [_], _ => rfl⟩
  have F_eight := fun_mk (st := s_eight) l_5 c_5 k_5
  have T_eight : Th K mg "eight" s_eight ["leap"] := ⟨_, _, PySem.W.mg_of X G a_5, F_eight, F_eight.binds (ps := ["leap"]) fun _ _ _ _ _ _ us hl => match us, hl with | [_], _ => rfl⟩
  have F_evened := fun_mk (st := s_evened) l_6 c_6 k_6
  have T_evened : Th K mg "evened" s_evened ["a", "b", "parts"] := ⟨_, _, PySem.W.mg_of X G a_6, F_evened, F_evened.binds (ps := ["a", "b", "parts"]) fun _ _ _ _ _ _ us hl => match us, hl with | [_, _, _], _ => rfl⟩
  have F_goes_into := fun_mk (st := s_goes_into) l_7 c_7 k_7
  have T_goes_into : Th K mg "goes_into" s_goes_into ["by", "one", "other"] := ⟨_, _, PySem.W.mg_of X G a_7, F_goes_into, F_goes_into.binds (ps := ["by", "one", "other"]) fun _ _ _ _ _ _ us hl => match us, hl with | [_, _, _], _ => rfl⟩
  have F_is_amount := fun_mk (st := s_is_amount) l_8 c_8 k_8
  have T_is_amount : Th K mg "is_amount" s_is_amount ["thing"] := ⟨_, _, PySem.W.mg_of X G a_8, F_is_amount, F_is_amount.binds (ps := ["thing"]) fun _ _ _ _ _ _ us hl => match us, hl with | [_], _ => rfl⟩
  have F_is_counts := fun_mk (st := s_is_counts) l_9 c_9 k_9
  have T_is_counts : Th K mg "is_counts" s_is_counts ["thing"] := ⟨_, _, PySem.W.mg_of X G a_9, F_is_counts, F_is_counts.binds (ps := ["thing"]) fun _ _ _ _ _ _ us hl => match us, hl with | [_], _ => rfl⟩
  have F_is_leap := fun_mk (st := s_is_leap) l_10 c_10 k_10
  have T_is_leap : Th K mg "is_leap" s_is_leap ["thing"] := ⟨_, _, PySem.W.mg_of X G a_10, F_is_leap, F_is_leap.binds (ps := ["thing"]) fun _ _ _ _ _ _ us hl => match us, hl with | [_], _ => rfl⟩
  have F_is_place := fun_mk (st := s_is_place) l_11 c_11 k_11
  have T_is_place : Th K mg "is_place" s_is_place ["thing"] := ⟨_, _, PySem.W.mg_of X G a_11, F_is_place, F_is_place.binds (ps := ["thing"]) fun _ _ _ _ _ _ us hl => match us, hl with | [_], _ => rfl⟩
  have F_is_whole := fun_mk (st := s_is_whole) l_12 c_12 k_12
  have T_is_whole : Th K mg "is_whole" s_is_whole ["thing"] := ⟨_, _, PySem.W.mg_of X G a_12, F_is_whole, F_is_whole.binds (ps := ["thing"]) fun _ _ _ _ _ _ us hl => match us, hl with | [_], _ => rfl⟩
  have F_law_barred := fun_mk (st := s_law_barred) l_13 c_13 k_13
  have T_law_barred : Th K mg "_law_barred" s_law_barred ["_law_leap", "_law_place_here"] := ⟨_, _, PySem.W.mg_of X G a_13, F_law_barred, F_law_barred.binds (ps := ["_law_leap", "_law_place_here"]) fun _ _ _ _ _ _ us hl => match us, hl with | [_, _], _ => rfl⟩
  have F_law_bars := fun_mk (st := s_law_bars) l_14 c_14 k_14
  have T_law_bars : Th K mg "_law_bars" s_law_bars ["_law_leap", "_law_place_here", "_law_by"] := ⟨_, _, PySem.W.mg_of X G a_14, F_law_bars, F_law_bars.binds (ps := ["_law_leap", "_law_place_here", "_law_by"]) fun _ _ _ _ _ _ us hl => match us, hl with | [_, _, _], _ => rfl⟩
  have F_law_common := fun_mk (st := s_law_common) l_15 c_15 k_15
  have T_law_common : Th K mg "_law_common" s_law_common ["_law_one", "_law_other"] := ⟨_, _, PySem.W.mg_of X G a_15, F_law_common, F_law_common.binds (ps := ["_law_one", "_law_other"]) fun _ _ _ _ _ _ us hl => match us, hl with | [_, _], _ => rfl⟩
  have F_law_counts := fun_mk (st := s_law_counts) l_16 c_16 k_16
  have T_law_counts : Th K mg "_law_counts" s_law_counts ["_law_found"] := ⟨_, _, PySem.W.mg_of X G a_16, F_law_counts, F_law_counts.binds (ps := ["_law_found"]) fun _ _ _ _ _ _ us hl => match us, hl with | [_], _ => rfl⟩
  have F_law_due := fun_mk (st := s_law_due) l_17 c_17 k_17
  have T_law_due : Th K mg "_law_due" s_law_due ["_law_leap", "_law_place_here", "_law_found"] := ⟨_, _, PySem.W.mg_of X G a_17, F_law_due, F_law_due.binds (ps := ["_law_leap", "_law_place_here", "_law_found"]) fun _ _ _ _ _ _ us hl => match us, hl with | [_, _, _], _ => rfl⟩
  have F_law_eight := fun_mk (st := s_law_eight) l_18 c_18 k_18
  have T_law_eight : Th K mg "_law_eight" s_law_eight ["_law_leap"] := ⟨_, _, PySem.W.mg_of X G a_18, F_law_eight, F_law_eight.binds (ps := ["_law_leap"]) fun _ _ _ _ _ _ us hl => match us, hl with | [_], _ => rfl⟩
  have F_law_led := fun_mk (st := s_law_led) l_19 c_19 k_19
  have T_law_led : Th K mg "_law_led" s_law_led ["_law_leap", "_law_counts_here"] := ⟨_, _, PySem.W.mg_of X G a_19, F_law_led, F_law_led.binds (ps := ["_law_leap", "_law_counts_here"]) fun _ _ _ _ _ _ us hl => match us, hl with | [_, _], _ => rfl⟩
  have F_law_number := fun_mk (st := s_law_number) l_20 c_20 k_20
  have T_law_number : Th K mg "_law_number" s_law_number ["_law_cell", "_law_at", "_law_whole"] := ⟨_, _, PySem.W.mg_of X G a_20, F_law_number, F_law_number.binds (ps := ["_law_cell", "_law_at", "_law_whole"]) fun _ _ _ _ _ _ us hl => match us, hl with | [_, _, _], _ => rfl⟩
  have F_law_right := fun_mk (st := s_law_right) l_21 c_21 k_21
  have T_law_right : Th K mg "_law_right" s_law_right ["_law_leap", "_law_place_here", "_law_others"] := ⟨_, _, PySem.W.mg_of X G a_21, F_law_right, F_law_right.binds (ps := ["_law_leap", "_law_place_here", "_law_others"]) fun _ _ _ _ _ _ us hl => match us, hl with | [_, _, _], _ => rfl⟩
  have F_law_value := fun_mk (st := s_law_value) l_22 c_22 k_22
  have T_law_value : Th K mg "_law_value" s_law_value ["_law_script", "_law_at", "_law_wide"] := ⟨_, _, PySem.W.mg_of X G a_22, F_law_value, F_law_value.binds (ps := ["_law_script", "_law_at", "_law_wide"]) fun _ _ _ _ _ _ us hl => match us, hl with | [_, _, _], _ => rfl⟩
  have F_need_counts := fun_mk (st := s_need_counts) l_23 c_23 k_23
  have T_need_counts : Th K mg "need_counts" s_need_counts ["thing"] := ⟨_, _, PySem.W.mg_of X G a_23, F_need_counts, F_need_counts.binds (ps := ["thing"]) fun _ _ _ _ _ _ us hl => match us, hl with | [_], _ => rfl⟩
  have F_need_leap := fun_mk (st := s_need_leap) l_24 c_24 k_24
  have T_need_leap : Th K mg "need_leap" s_need_leap ["thing"] := ⟨_, _, PySem.W.mg_of X G a_24, F_need_leap, F_need_leap.binds (ps := ["thing"]) fun _ _ _ _ _ _ us hl => match us, hl with | [_], _ => rfl⟩
  have F_need_place := fun_mk (st := s_need_place) l_25 c_25 k_25
  have T_need_place : Th K mg "need_place" s_need_place ["thing"] := ⟨_, _, PySem.W.mg_of X G a_25, F_need_place, F_need_place.binds (ps := ["thing"]) fun _ _ _ _ _ _ us hl => match us, hl with | [_], _ => rfl⟩
  have F_place_of := fun_mk (st := s_place_of) l_26 c_26 k_26
  have T_place_of : Th K mg "place_of" s_place_of ["leap", "counts"] := ⟨_, _, PySem.W.mg_of X G a_26, F_place_of, F_place_of.binds (ps := ["leap", "counts"]) fun _ _ _ _ _ _ us hl => match us, hl with | [_, _], _ => rfl⟩
  have F_told := fun_mk (st := s_told) l_27 c_27 k_27
  have T_told : Th K mg "told" s_told ["leap", "place"] := ⟨_, _, PySem.W.mg_of X G a_27, F_told, F_told.binds (ps := ["leap", "place"]) fun _ _ _ _ _ _ us hl => match us, hl with | [_, _], _ => rfl⟩
  have F_law := fun_mk (st := s_law) l_28 c_28 k_28
  have FWi := fun_mk (st := s_Way_init) lWi cWi kWi
  have bWi := FWi.binds (ps := ["self", "counts"]) fun _ _ _ _ _ _ us hl => match us, hl with | [_, _], _ => rfl
  have FWs := fun_mk (st := s_Way_shows) lWs cWs kWs
  have bWs := FWs.binds (ps := ["self", "leap", "place"]) fun _ _ _ _ _ _ us hl => match us, hl with | [_, _, _], _ => rfl
  have TW : TWay K mg CW := ⟨PySem.W.mg_of X G aCW, ⟨pgW, hdW, poW, saW⟩, naW, ⟨_, _, ⟨mkW, aWi, iWi, kcW⟩, FWi, bWi⟩, ⟨_, _, ⟨aWs, iWs, kWs⟩, FWs, bWs⟩⟩
  have IW : Isi K CW := ⟨⟨pgW, hdW, poW, saW⟩, jaW, jn, jt, jmW⟩
  have FNi := fun_mk (st := s_Never_init) lNi cNi kNi
  have bNi := FNi.binds (ps := ["self", "by"]) fun _ _ _ _ _ _ us hl => match us, hl with | [_, _], _ => rfl
  have FNs := fun_mk (st := s_Never_shows) lNs cNs kNs
  have bNs := FNs.binds (ps := ["self", "leap", "place"]) fun _ _ _ _ _ _ us hl => match us, hl with | [_, _, _], _ => rfl
  have TN : TNever K mg CN := ⟨PySem.W.mg_of X G aCN, ⟨pgN, hdN, poN, saN⟩, naN, ⟨_, _, ⟨mkN, aNi, iNi, kcN⟩, FNi, bNi⟩, ⟨_, _, ⟨aNs, iNs, kNs⟩, FNs, bNs⟩⟩
  have IN : Isi K CN := ⟨⟨pgN, hdN, poN, saN⟩, jaN, jn, jt, jmN⟩
  have gA := PySem.W.mg_of X G aCA
  have B : Bu mg := ⟨PySem.W.mg_none_of X G zisinstance, PySem.W.mg_none_of X G zint, PySem.W.mg_none_of X G zbool, PySem.W.mg_none_of X G ztuple, PySem.W.mg_none_of X G zlist, PySem.W.mg_none_of X G zlen, PySem.W.mg_none_of X G zall, PySem.W.mg_none_of X G zany, PySem.W.mg_none_of X G zsum, PySem.W.mg_none_of X G zmin, PySem.W.mg_none_of X G zmax, PySem.W.mg_none_of X G zabs, PySem.W.mg_none_of X G zzip, PySem.W.mg_none_of X G zrange⟩
  refine ⟨PySem.W.fnOf "law" "law" (defArgs s_law) (defBody s_law) (defScope s_law) .none kV_28 dc_28 pm_28 an_28 cd_28 ct_28, fun s v => .of_eq rfl, fun base _ _ => ?_⟩
  have e_is_whole := ok_is_whole (P := l.prog) (w := w) (base := base) B T_is_whole
  have e_is_amount := ok_is_amount (P := l.prog) (w := w) (base := base) B T_is_amount e_is_whole
  have e_is_place := ok_is_place (P := l.prog) (w := w) (base := base) B T_is_place e_is_whole
  have e_is_leap := ok_is_leap (P := l.prog) (w := w) (base := base) B T_is_leap e_is_place
  have e_is_counts := ok_is_counts (P := l.prog) (w := w) (base := base) B T_is_counts e_is_amount
  have e_need_leap := ok_need_leap (P := l.prog) (w := w) (base := base) T_need_leap e_is_leap
  have e_need_place := ok_need_place (P := l.prog) (w := w) (base := base) T_need_place e_is_place
  have e_need_counts := ok_need_counts (P := l.prog) (w := w) (base := base) T_need_counts e_is_counts
  have e_eight := ok_eight (P := l.prog) (w := w) (base := base) T_eight e_need_leap
  have e_place_of := ok_place_of (P := l.prog) (w := w) (base := base) B T_place_of e_need_leap e_need_counts e_eight
  have e_goes_into := ok_goes_into (P := l.prog) (w := w) (base := base) T_goes_into
  have e_bars_numbers := ok_bars_numbers (P := l.prog) (w := w) (base := base) T_bars_numbers e_goes_into
  have e_bars_sum := ok_bars_sum (P := l.prog) (w := w) (base := base) T_bars_sum e_goes_into
  have e_common_of := ok_common_of (P := l.prog) (w := w) (base := base) T_common_of
  have e_along_and_across := ok_along_and_across (P := l.prog) (w := w) (base := base) T_along_and_across
  have e_evened := ok_evened (P := l.prog) (w := w) (base := base) T_evened
  have e_counts_to := ok_counts_to (P := l.prog) (w := w) (base := base) B T_counts_to
  have mW := ok_Way_init (P := l.prog) (w := w) (base := base) B TW
  have mN := ok_Never_init (P := l.prog) (w := w) (base := base) TN
  have sW := ok_Way_shows (P := l.prog) (w := w) (base := base) TW e_is_counts e_place_of
  have sN := ok_Never_shows (P := l.prog) (w := w) (base := base) TN e_is_amount e_bars_numbers e_bars_sum
  have e_told := ok_told (P := l.prog) (w := w) (base := base) T_told e_need_leap e_need_place e_common_of e_along_and_across e_evened e_counts_to mN mW
  have e_law_number := ok_law_number (P := l.prog) (w := w) (base := base) T_law_number
  have e_law_value := ok_law_value (P := l.prog) (w := w) (base := base) B T_law_value e_law_number
  have e_law_eight := ok_law_eight (P := l.prog) (w := w) (base := base) T_law_eight
  have e_law_led := ok_law_led (P := l.prog) (w := w) (base := base) B T_law_led e_law_eight
  have e_law_counts := ok_law_counts (P := l.prog) (w := w) (base := base) B T_law_counts
  have e_law_bars := ok_law_bars (P := l.prog) (w := w) (base := base) T_law_bars
  have e_law_common := ok_law_common (P := l.prog) (w := w) (base := base) T_law_common
  have e_law_barred := ok_law_barred (P := l.prog) (w := w) (base := base) T_law_barred e_law_common
  have e_law_due := ok_law_due (P := l.prog) (w := w) (base := base) B T_law_due TW TN IW IN kWW kNW e_law_counts e_law_led e_law_bars
  have e_law_right := ok_law_right (P := l.prog) (w := w) (base := base) B T_law_right TW TN IW IN gA kWA kNA kWW kNW kNN kWN sW sN e_told e_law_barred e_law_due
  exact ok_law (P := l.prog) (w := w) (base := base) B F_law TW TN IW IN kWW kNN e_law_value e_law_right e_law_led e_told
end
end Lw
open PySem PySem.W PyProof.Rows
set_option maxRecDepth 100000 in
set_option maxHeartbeats 0 in
theorem PySem.Challenge.cw_leapways_k01_whole_told_holds : PySem.Challenge.rw_leapways_k01_whole_told.Holds := by
  w_on; o_law; k_head; (case hw => w_witness2)
  k_fill
  refine L2.walk_ofB (l := PySem.Challenge.rw_leapways_k01_whole_told) (n := 63) (k := 9) (x := "_law_script") (CX := fun _ => L2.CX0) (sp := fun w => Lw.spD _ Lw.F_law) rfl (by decide) rfl ⟨rfl, by decide, by decide⟩ (fun w h Y => PySem.W.kIn_of Y) ?F (fun _ _ a ns hl hb _ hS => ⟨_, _, .cons (.lst hS (Lw.dpa_of_ints ns)) .nil, ⟨ns, rfl, ⟨hl, fun c hc => Lw.bd_bits (hb c hc)⟩, rfl⟩, fun v H2 _ r => Lw.dp_bl r⟩) (fun _ _ _ _ _ h => h)
  case F =>
    intro w mg fa h KX G hmg
    refine' Lw.all_mk KX G hmg ?jn ?jt ?a_0 ?l_0 ?c_0 ?k_0 ?a_1 ?l_1 ?c_1 ?k_1 ?a_2 ?l_2 ?c_2 ?k_2 ?a_3 ?l_3 ?c_3 ?k_3 ?a_4 ?l_4 ?c_4 ?k_4 ?a_5 ?l_5 ?c_5 ?k_5 ?a_6 ?l_6 ?c_6 ?k_6 ?a_7 ?l_7 ?c_7 ?k_7 ?a_8 ?l_8 ?c_8 ?k_8 ?a_9 ?l_9 ?c_9 ?k_9 ?a_10 ?l_10 ?c_10 ?k_10 ?a_11 ?l_11 ?c_11 ?k_11 ?a_12 ?l_12 ?c_12 ?k_12 ?a_13 ?l_13 ?c_13 ?k_13 ?a_14 ?l_14 ?c_14 ?k_14 ?a_15 ?l_15 ?c_15 ?k_15 ?a_16 ?l_16 ?c_16 ?k_16 ?a_17 ?l_17 ?c_17 ?k_17 ?a_18 ?l_18 ?c_18 ?k_18 ?a_19 ?l_19 ?c_19 ?k_19 ?a_20 ?l_20 ?c_20 ?k_20 ?a_21 ?l_21 ?c_21 ?k_21 ?a_22 ?l_22 ?c_22 ?k_22 ?a_23 ?l_23 ?c_23 ?k_23 ?a_24 ?l_24 ?c_24 ?k_24 ?a_25 ?l_25 ?c_25 ?k_25 ?a_26 ?l_26 ?c_26 ?k_26 ?a_27 ?l_27 ?c_27 ?k_27 ?a_28 ?l_28 ?c_28 ?k_28 ?aCW ?aWi ?iWi ?lWi ?cWi ?kWi ?aWs ?iWs ?lWs ?cWs ?kWs ?pgW ?hdW ?poW ?saW ?mkW ?kcW ?naW ?jaW ?jmW ?aCN ?aNi ?iNi ?lNi ?cNi ?kNi ?aNs ?iNs ?lNs ?cNs ?kNs ?pgN ?hdN ?poN ?saN ?mkN ?kcN ?naN ?jaN ?jmN ?aCA ?kNA ?kNN ?kNW ?kWA ?kWN ?kWW ?zisinstance ?zint ?zbool ?ztuple ?zlist ?zlen ?zall ?zany ?zsum ?zmin ?zmax ?zabs ?zzip ?zrange
    (case jn => k_is); (case jt => k_is); (case a_0 => k_is); (case l_0 => k_is); (case c_0 => k_is); (case k_0 => k_is); (case a_1 => k_is); (case l_1 => k_is)
    (case c_1 => k_is); (case k_1 => k_is); (case a_2 => k_is); (case l_2 => k_is); (case c_2 => k_is); (case k_2 => k_is); (case a_3 => k_is); (case l_3 => k_is)
    (case c_3 => k_is); (case k_3 => k_is); (case a_4 => k_is); (case l_4 => k_is); (case c_4 => k_is); (case k_4 => k_is); (case a_5 => k_is); (case l_5 => k_is)
    (case c_5 => k_is); (case k_5 => k_is); (case a_6 => k_is); (case l_6 => k_is); (case c_6 => k_is); (case k_6 => k_is); (case a_7 => k_is); (case l_7 => k_is)
    (case c_7 => k_is); (case k_7 => k_is); (case a_8 => k_is); (case l_8 => k_is); (case c_8 => k_is); (case k_8 => k_is); (case a_9 => k_is); (case l_9 => k_is)
    (case c_9 => k_is); (case k_9 => k_is); (case a_10 => k_is); (case l_10 => k_is); (case c_10 => k_is); (case k_10 => k_is); (case a_11 => k_is); (case l_11 => k_is)
    (case c_11 => k_is); (case k_11 => k_is); (case a_12 => k_is); (case l_12 => k_is); (case c_12 => k_is); (case k_12 => k_is); (case a_13 => k_is); (case l_13 => k_is)
    (case c_13 => k_is); (case k_13 => k_is); (case a_14 => k_is); (case l_14 => k_is); (case c_14 => k_is); (case k_14 => k_is); (case a_15 => k_is); (case l_15 => k_is)
    (case c_15 => k_is); (case k_15 => k_is); (case a_16 => k_is); (case l_16 => k_is); (case c_16 => k_is); (case k_16 => k_is); (case a_17 => k_is); (case l_17 => k_is)
    (case c_17 => k_is); (case k_17 => k_is); (case a_18 => k_is); (case l_18 => k_is); (case c_18 => k_is); (case k_18 => k_is); (case a_19 => k_is); (case l_19 => k_is)
    (case c_19 => k_is); (case k_19 => k_is); (case a_20 => k_is); (case l_20 => k_is); (case c_20 => k_is); (case k_20 => k_is); (case a_21 => k_is); (case l_21 => k_is)
    (case c_21 => k_is); (case k_21 => k_is); (case a_22 => k_is); (case l_22 => k_is); (case c_22 => k_is); (case k_22 => k_is); (case a_23 => k_is); (case l_23 => k_is)
    (case c_23 => k_is); (case k_23 => k_is); (case a_24 => k_is); (case l_24 => k_is); (case c_24 => k_is); (case k_24 => k_is); (case a_25 => k_is); (case l_25 => k_is)
    (case c_25 => k_is); (case k_25 => k_is); (case a_26 => k_is); (case l_26 => k_is); (case c_26 => k_is); (case k_26 => k_is); (case a_27 => k_is); (case l_27 => k_is)
    (case c_27 => k_is); (case k_27 => k_is); (case a_28 => k_is); (case l_28 => k_is); (case c_28 => k_is); (case k_28 => k_is); (case aCW => k_is); (case aWi => k_is)
    (case iWi => k_is); (case lWi => k_is); (case cWi => k_is); (case kWi => k_is); (case aWs => k_is); (case iWs => k_is); (case lWs => k_is); (case cWs => k_is)
    (case kWs => k_is); (case pgW => k_is); (case hdW => k_is); (case poW => k_is); (case saW => k_is); (case mkW => k_is); (case kcW => k_is); (case naW => k_is)
    (case jaW => k_is); (case jmW => k_is); (case aCN => k_is); (case aNi => k_is); (case iNi => k_is); (case lNi => k_is); (case cNi => k_is); (case kNi => k_is)
    (case aNs => k_is); (case iNs => k_is); (case lNs => k_is); (case cNs => k_is); (case kNs => k_is); (case pgN => k_is); (case hdN => k_is); (case poN => k_is)
    (case saN => k_is); (case mkN => k_is); (case kcN => k_is); (case naN => k_is); (case jaN => k_is); (case jmN => k_is); (case aCA => k_is); (case kNA => kit_is)
    (case kNN => kit_is); (case kNW => kit_is); (case kWA => kit_is); (case kWN => kit_is); (case kWW => kit_is); (case zisinstance => k_is); (case zint => k_is); (case zbool => k_is)
    (case ztuple => k_is); (case zlist => k_is); (case zlen => k_is); (case zall => k_is); (case zany => k_is); (case zsum => k_is); (case zmin => k_is); (case zmax => k_is)
    (case zabs => k_is); (case zzip => k_is); (case zrange => k_is)
