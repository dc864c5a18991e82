import PyProof.Rows.All
import Wide.All
import OpenK.AllK
import Wide.FinOn
import HandS.ForMost
import HandS.ForExc
import HandS.Evl
import HandS.Deep
import HandS.Style
import HandS.IsInst
import HandS.Zip
import HandS.Wide
import HandS.SetFor
import HandS.EndBits
import KE.KDictDisplayH
import HandS.Walk
import HandS.ExcOwn
import HandS.ExcIs
import HandS.ExcBuiltin
import HandS.WordsExc
import HandS.TupMul
import PySem.Challenge.RW_leapways_k05_refused
set_option Elab.async false
set_option linter.all false
set_option maxRecDepth 100000
set_option maxHeartbeats 4000000
namespace Lw
open PySem PySem.Spec PyProof.Rows L2 Evl

/-! ### data: what a value holds; an empty dict too -/
mutual
inductive Dq (K : PySem.W.Frag) (H : Hp) : V → PyData → Prop
  | non : Dq K H .non .none
  | bl (c : Bool) : Dq K H (.bl c) (.bool c)
  | int (n : Int) : Dq K H (.int n) (.int n)
  | str (z : Str) : Dq K H (.str z) (.str z)
  | lst {p : Addr} {vs : List V} {ds : List PyData} : SqL K H p vs → DqAll K H vs ds → Dq K H (.ref p) (.list ds)
  | tup {p : Addr} {vs : List V} {ds : List PyData} : SqT K H p vs → DqAll K H vs ds → Dq K H (.ref p) (.tuple ds)
  | dct {p : Addr} : H p = some (.dK []) → Dq K H (.ref p) (.dict [])
inductive DqAll (K : PySem.W.Frag) (H : Hp) : List V → List PyData → Prop
  | nil : DqAll K H [] []
  | cons {v : V} {vs : List V} {d : PyData} {ds : List PyData} : Dq K H v d → DqAll K H vs ds → DqAll K H (v :: vs) (d :: ds)
end
section
variable {K : PySem.W.Frag} {H : Hp}
mutual
theorem to_dp : ∀ (d : PyData) (v : V), d.canLay0 = true → Dq K H v d → L2.Dp K H v d
  | .none, _, _, h => by cases h; exact .non
  | .bool c, _, _, h => by cases h; exact .bl c
  | .int n, _, _, h => by cases h; exact .int n
  | .str z, _, _, h => by cases h; exact .str z
  | .list ds, _, q, h => by
    cases h with
    | lst hs ha => exact .lst hs (to_dpa ds _ q ha)
  | .tuple ds, _, q, h => by
    cases h with
    | tup hs ha => exact .tup hs (to_dpa ds _ q ha)
  | .dict _, _, q, _ => by cases q
theorem to_dpa : ∀ (ds : List PyData) (vs : List V), PyData.canLayAll0 ds = true → DqAll K H vs ds → L2.DpAll K H vs ds
  | [], _, _, h => by cases h; exact .nil
  | d :: ds, _, q, h => by
    have q' : (d.canLay0 && PyData.canLayAll0 ds) = true := q
    rw [Bool.and_eq_true] at q'
    cases h with
    | cons h1 h2 => exact .cons (to_dp d _ q'.1 h1) (to_dpa ds _ q'.2 h2)
end
end
/-! ### data under a growing heap -/
section
variable {K : PySem.W.Frag} {H H' : Hp}
mutual
theorem dp_ex (e : Ex H H') : ∀ (d : PyData) (v : V), Dq K H v d → Dq K H' v d
  | .none, _, h => by cases h; exact .non
  | .bool b, _, h => by cases h; exact .bl b
  | .int i, _, h => by cases h; exact .int i
  | .str x, _, h => by cases h; exact .str x
  | .list ds, _, h => by
    cases h with
    | lst hs ha => exact .lst (ex_l e hs) (dpa_ex e ds _ ha)
  | .tuple ds, _, h => by
    cases h with
    | tup hs ha => exact .tup (ex_t e hs) (dpa_ex e ds _ ha)
  | .dict _, _, h => by
    cases h with
    | dct h => exact .dct (e _ _ h)
theorem dpa_ex (e : Ex H H') : ∀ (ds : List PyData) (vs : List V), DqAll K H vs ds → DqAll K H' vs ds
  | [], _, h => by cases h; exact .nil
  | d :: ds, _, h => by
    cases h with
    | cons h1 h2 => exact .cons (dp_ex e d _ h1) (dpa_ex e ds _ h2)
end
theorem dp_mono {v : V} {d : PyData} (e : Ex H H') (h : Dq K H v d) : Dq K H' v d := dp_ex e d v h
theorem dpa_mono {vs : List V} {ds : List PyData} (e : Ex H H') (h : DqAll K H vs ds) : DqAll K H' vs ds := dpa_ex e ds vs h
theorem dpa_len : ∀ {vs : List V} {ds : List PyData}, DqAll K H vs ds → vs.length = ds.length
  | _, _, .nil => rfl
  | _, _, .cons _ t => congrArg Nat.succ (dpa_len t)
theorem dpa_get : ∀ {vs : List V} {ds : List PyData} {i : Nat} {d : PyData}, DqAll K H vs ds → ds[i]? = some d → ∃ v, vs[i]? = some v ∧ Dq K H v d
  | _, _, _, _, .nil, h => by simp at h
  | _, _, 0, _, .cons a _, h => by
    have e := Option.some.inj h
    subst e
    exact ⟨_, rfl, a⟩
  | _, _, i + 1, d, .cons _ t, h => dpa_get (i := i) (d := d) t h
theorem dpa_get' : ∀ {vs : List V} {ds : List PyData} {i : Nat} {v : V}, DqAll K H vs ds → vs[i]? = some v → ∃ d, ds[i]? = some d ∧ Dq K H v d
  | _, _, _, _, .nil, h => by simp at h
  | _, _, 0, _, .cons a _, h => by
    have e := Option.some.inj h
    subst e
    exact ⟨_, rfl, a⟩
  | _, _, i + 1, d, .cons _ t, h => dpa_get' (i := i) (v := d) t h
theorem dpa_app : ∀ {vs ws : List V} {ds es : List PyData}, DqAll K H vs ds → DqAll K H ws es → DqAll K H (vs ++ ws) (ds ++ es)
  | _, _, _, _, .nil, h => h
  | _, _, _, _, .cons a t, h => .cons a (dpa_app t h)
theorem dpa_take : ∀ {vs : List V} {ds : List PyData} (n : Nat), DqAll K H vs ds → DqAll K H (vs.take n) (ds.take n)
  | _, _, 0, _ => .nil
  | _, _, _ + 1, .nil => .nil
  | _, _, n + 1, .cons a t => .cons a (dpa_take n t)
theorem dpa_drop : ∀ {vs : List V} {ds : List PyData} (n : Nat), DqAll K H vs ds → DqAll K H (vs.drop n) (ds.drop n)
  | _, _, 0, h => h
  | _, _, _ + 1, .nil => .nil
  | _, _, n + 1, .cons _ t => dpa_drop n t
theorem dpa_rev : ∀ {vs : List V} {ds : List PyData}, DqAll K H vs ds → DqAll K H vs.reverse ds.reverse
  | _, _, .nil => .nil
  | _, _, .cons a t => by
    rw [List.reverse_cons, List.reverse_cons]
    exact dpa_app (dpa_rev t) (.cons a .nil)
theorem dp_int {v : V} {i : Int} (h : Dq K H v (.int i)) : v = .int i := by cases h; rfl
theorem dp_bl {v : V} {b : Bool} (h : Dq K H v (.bool b)) : v = .bl b := by cases h; rfl
theorem dp_tup {v : V} {ds : List PyData} (h : Dq K H v (.tuple ds)) : ∃ a xs, v = .ref a ∧ SqT K H a xs ∧ DqAll K H xs ds := by
  cases h with
  | tup a b => exact ⟨_, _, rfl, a, b⟩
theorem dp_lst {v : V} {ds : List PyData} (h : Dq K H v (.list ds)) : ∃ a xs, v = .ref a ∧ SqL K H a xs ∧ DqAll K H xs ds := by
  cases h with
  | lst a b => exact ⟨_, _, rfl, a, b⟩
theorem dpa_ints : ∀ {vs : List V} (ns : List Int), DqAll K H vs (ns.map .int) → vs = ns.map V.int
  | _, [], h => by cases h; rfl
  | _, n :: ns, h => by
    cases h with
    | cons a t => rw [dp_int a, dpa_ints ns t] <;> rfl
theorem dpa_of_ints : ∀ (ns : List Int), DqAll K H (ns.map V.int) (ns.map .int)
  | [] => .nil
  | n :: ns => .cons (.int n) (dpa_of_ints ns)
theorem dpa_bls : ∀ {vs : List V} (ns : List Bool), DqAll K H vs (ns.map .bool) → vs = ns.map V.bl
  | _, [], h => by cases h; rfl
  | _, n :: ns, h => by
    cases h with
    | cons a t => rw [dp_bl a, dpa_bls ns t] <;> rfl
end

/-! ### the widest readings -/
def cE (X : Cx) (e : Expr) : TE := fun σ H Q => ∀ pins s, Inv X pins σ H s → wpAny (model X.prog X.w) X.A (eval e X.env) (EP X pins σ Q) X.xe s
def cT (X : Cx) (e : Expr) : TT := fun σ H Q => ∀ pins s, Inv X pins σ H s → wpAny (model X.prog X.w) X.A (isTrue e X.env (eval e X.env)) (TP X pins σ Q) X.xe s
def cW (X : Cx) (e : Expr) : TT := fun σ H Q => ∀ whole pins s, Inv X pins σ H s → wpAny (model X.prog X.w) X.A (isTrue e X.env whole) (TP X pins σ Q) X.xe s
def cA (X : Cx) (es : List Expr) : TA := fun σ H Q => ∀ pos pins s, Inv X pins σ H s → wpAny (model X.prog X.w) X.A (spliced (backTo pos (starEach es X.env))) (AP X pins σ Q) X.xe s
def cS (X : Cx) (st : Stmt) : TS := fun D σ H => ∀ pins s, Inv X pins σ H s → wpAny (model X.prog X.w) X.A (exec st X.env) (SP X pins D) X.xe s
def cSs (X : Cx) (sts : List Stmt) : TS := fun D σ H => ∀ pins s, Inv X pins σ H s → wpAny (model X.prog X.w) X.A (execs sts X.env) (SP X pins D) X.xe s
section
variable {X : Cx} {e : Expr} {es : List Expr} {st : Stmt} {sts : List Stmt} {σ : L2.St} {H : Hp}
theorem cE_pe : PE X e (cE X e) := ⟨fun pins s _ _ _ I h => h pins s I⟩
theorem cT_pt : PT X e (cT X e) := ⟨fun pins s _ _ _ I h => h pins s I⟩
theorem cW_pw : PW X e (cW X e) := ⟨fun w pins s _ _ _ I h => h w pins s I⟩
theorem cA_pa : PA X es (cA X es) := ⟨fun pos pins s _ _ _ I h => h pos pins s I⟩
theorem cS_ps : PS X st (cS X st) := ⟨fun pins s _ _ _ I h => h pins s I⟩
theorem cSs_ps : PSs X sts (cSs X sts) := ⟨fun pins s _ _ _ I h => h pins s I⟩
theorem cE_of {t : TE} {Q : VK} (h : PE X e t) (q : t σ H Q) : cE X e σ H Q := fun pins s I => h.run pins s σ H Q I q
theorem cT_of {t : TT} {Q : Bool → Hp → Prop} (h : PT X e t) (q : t σ H Q) : cT X e σ H Q := fun pins s I => h.run pins s σ H Q I q
theorem cW_of {t : TT} {Q : Bool → Hp → Prop} (h : PW X e t) (q : t σ H Q) : cW X e σ H Q := fun w pins s I => h.run w pins s σ H Q I q
theorem cA_of {t : TA} {Q : List V → Hp → Prop} (h : PA X es t) (q : t σ H Q) : cA X es σ H Q := fun pos pins s I => h.run pos pins s σ H Q I q
theorem cS_of {t : TS} {D : Ends} (h : PS X st t) (q : t D σ H) : cS X st D σ H := fun pins s I => h.run pins s σ H D I q
theorem cSs_of {t : TS} {D : Ends} (h : PSs X sts t) (q : t D σ H) : cSs X sts D σ H := fun pins s I => h.run pins s σ H D I q
end

/-! ### what an expression gives: R of the value, in every later heap -/
structure Gv (X : Cx) (e : Expr) (σ : L2.St) (H : Hp) (R : V → Hp → Prop) : Prop where
  go : ∀ H1, Ex H H1 → ∀ Q : VK, (∀ v H2, Ex H1 H2 → R v H2 → Q v H2) → cE X e σ H1 Q
abbrev Gd (X : Cx) (e : Expr) (σ : L2.St) (H : Hp) (d : PyData) : Prop := Gv X e σ H fun v H' => Dq X.K H' v d
structure Gt (X : Cx) (e : Expr) (σ : L2.St) (H : Hp) (b : Bool) : Prop where
  go : ∀ H1, Ex H H1 → ∀ Q : Bool → Hp → Prop, (∀ H2, Ex H1 H2 → Q b H2) → cT X e σ H1 Q
structure Gw (X : Cx) (e : Expr) (σ : L2.St) (H : Hp) (b : Bool) : Prop where
  go : ∀ H1, Ex H H1 → ∀ Q : Bool → Hp → Prop, (∀ H2, Ex H1 H2 → Q b H2) → cW X e σ H1 Q
structure Gl (X : Cx) (es : List Expr) (σ : L2.St) (H : Hp) (R : List V → Hp → Prop) : Prop where
  go : ∀ H1, Ex H H1 → ∀ Q : List V → Hp → Prop, (∀ vs H2, Ex H1 H2 → R vs H2 → Q vs H2) → cA X es σ H1 Q
abbrev Gs (X : Cx) (es : List Expr) (σ : L2.St) (H : Hp) (ds : List PyData) : Prop := Gl X es σ H fun vs H' => DqAll X.K H' vs ds
section
variable {X : Cx} {e a b : Expr} {es rest : List Expr} {σ : L2.St} {H H' : Hp} {d : PyData} {ds : List PyData} {pos : Pos} {R : V → Hp → Prop}
theorem Gv.ex (x : Ex H H') (h : Gv X e σ H R) : Gv X e σ H' R := .mk fun H1 y Q q => (h).go H1 (x.trans y) Q q
theorem Gv.imp {R' : V → Hp → Prop} (h : Gv X e σ H R) (k : ∀ v H2, Ex H H2 → R v H2 → R' v H2) : Gv X e σ H R' := .mk fun H1 y Q q => h.go H1 y Q fun v H2 z r => q v H2 z (k v H2 (y.trans z) r)
theorem Gt.ex {b : Bool} (x : Ex H H') (h : Gt X e σ H b) : Gt X e σ H' b := .mk fun H1 y Q q => (h).go H1 (x.trans y) Q q
theorem gd_is {d' : PyData} (h : Gd X e σ H d) (q : d = d') : Gd X e σ H d' := by rw [← q]; exact h
theorem gt_is {b b' : Bool} (h : Gt X e σ H b) (q : b = b') : Gt X e σ H b' := by rw [← q]; exact h
theorem gv_of {t : TE} (h : PE X e t) (q : ∀ H1, Ex H H1 → ∀ Q : VK, (∀ v H2, Ex H1 H2 → R v H2 → Q v H2) → t σ H1 Q) : Gv X e σ H R := .mk fun H1 x Q k => cE_of h (q H1 x Q k)
theorem gd_ev {t : TE} {v : V} (h : PE X e t) (q : Ev t σ H v) (r : Dq X.K H v d) : Gd X e σ H d := gv_of h fun H1 x Q k => q H1 x Q fun H2 y => k v H2 y (dp_mono (x.trans y) r)
theorem gv_v {t : TE} {v : V} (h : PE X e t) (q : Ev t σ H v) : Gv X e σ H fun v' _ => v' = v := gv_of h fun H1 x Q k => q H1 x Q fun H2 y => k v H2 y rfl

/-! constants, names -/
theorem x_int {i : Int} {j : Nat} : Gd X (.Constant (.int i) j pos) σ H (.int i) := gd_ev pe_int ev_c (.int i)
theorem x_bl {c : Bool} {j : Nat} : Gd X (.Constant (.bool c) j pos) σ H (.bool c) := gd_ev pe_bl ev_c (.bl c)
theorem x_non {j : Nat} : Gd X (.Constant .none j pos) σ H .none := gd_ev pe_non ev_c .non
theorem x_str {x : Str} {j : Nat} : Gd X (.Constant (.str x) j pos) σ H (.str x) := gd_ev pe_str ev_c (.str x)
theorem x_var (i : Nat) {x : Str} {v : V} (hN : X.N[i]? = some x) (hs : σ[i]? = some (some v)) (hd : Dq X.K H v d)
    (hv : Vis X.env.scope x := by first | exact Or.inl rfl | exact Or.inr (Or.inl rfl) | exact Or.inr (Or.inr rfl)) (h1 : (x == ("__debug__" : Str)) = false := by decide) (h2 : (x == ("__classdict__" : Str)) = false := by decide) : Gd X (.Name x pos) σ H d :=
  gd_ev (pe_var hN hv h1 h2) (ev_var hs) hd
theorem x_varV (i : Nat) {x : Str} {v : V} (hN : X.N[i]? = some x) (hs : σ[i]? = some (some v))
    (hv : Vis X.env.scope x := by first | exact Or.inl rfl | exact Or.inr (Or.inl rfl) | exact Or.inr (Or.inr rfl)) (h1 : (x == ("__debug__" : Str)) = false := by decide) (h2 : (x == ("__classdict__" : Str)) = false := by decide) : Gv X (.Name x pos) σ H fun v' _ => v' = v :=
  gv_v (pe_var hN hv h1 h2) (ev_var hs)
theorem x_glob {x : Str} {v : V} {u : Value} (hm : X.mg x = some u) (r : RelV v u) (hd : Dq X.K H v d) (hg : L2.Gl X x := by rfl) (h1 : (x == ("__debug__" : Str)) = false := by decide) : Gd X (.Name x pos) σ H d :=
  gd_ev (pe_glob hg hm r h1) ev_c hd

/-! operators by data -/
def RD (K : PySem.W.Frag) (H : Hp) (r : R2) (d e f : PyData) : Prop := ∀ H1, Ex H H1 → ∀ x y, Dq K H1 x d → Dq K H1 y e → ∀ Q : VK, (∀ v H2, Ex H1 H2 → Dq K H2 v f → Q v H2) → r x y H1 Q
theorem x_two {t u : TE} {r : R2} {d f g : PyData} {w : Expr} (hw : PE X w (tOp r (cE X a) (cE X b))) (ha : Gd X a σ H d) (hb : Gd X b σ H f) (hr : RD X.K H r d f g) : Gd X w σ H g := gv_of hw fun H1 x Q q =>
  (ha).go H1 x _ fun v H2 y rv => (hb).go H2 (x.trans y) _ fun u H3 z ru => hr H3 ((x.trans y).trans z) v u (dp_mono z rv) ru Q fun w H4 s rw => q w H4 ((y.trans z).trans s) rw
theorem x_bin {op : Operator} {r : R2} {d f g : PyData} (ho : OpR X (binaryOp op) r) (hr : RD X.K H r d f g) (ha : Gd X a σ H d) (hb : Gd X b σ H f) : Gd X (.BinOp a op b pos) σ H g := x_two (t := cE X a) (u := cE X a) (pe_op ho cE_pe cE_pe) ha hb hr
theorem x_cmp {op : CmpOp} {r : R2} {d f g : PyData} (ho : OpR X (compareOp op) r) (hr : RD X.K H r d f g) (ha : Gd X a σ H d) (hb : Gd X b σ H f) (hm : behindInMarks op b = false) : Gd X (.Compare a [op] [b] pos) σ H g := x_two (t := cE X a) (u := cE X a) (pe_cmpR ho cE_pe cE_pe hm) ha hb hr
theorem x_ixR {r : R2} {d f g : PyData} (ho : IxR X r) (hr : RD X.K H r d f g) (ha : Gd X a σ H d) (hb : Gd X b σ H f) (hs : PlainIx b) : Gd X (.Subscript a b pos) σ H g := x_two (t := cE X a) (u := cE X a) (pe_ix ho cE_pe cE_pe hs) ha hb hr
theorem rd_I0 {K : PySem.W.Frag} {g : Int → Int → V} {i j : Int} {f : PyData} (hf : ∀ H', Dq K H' (g i j) f) : RD K H (rI0 g) (.int i) (.int j) f := fun H1 _ x y rx ry Q q => by
  rw [dp_int rx, dp_int ry]
  exact ⟨i, j, rfl, rfl, q _ H1 (Ex.refl H1) (hf H1)⟩
theorem rd_I {K : PySem.W.Frag} {C : Int → Int → Prop} {g : Int → Int → V} {i j : Int} {f : PyData} (hc : C i j) (hf : ∀ H', Dq K H' (g i j) f) : RD K H (rI C g) (.int i) (.int j) f := fun H1 _ x y rx ry Q q => by
  rw [dp_int rx, dp_int ry]
  exact ⟨i, j, rfl, rfl, hc, q _ H1 (Ex.refl H1) (hf H1)⟩
variable {i j : Int}
theorem x_add (ha : Gd X a σ H (.int i)) (hb : Gd X b σ H (.int j)) : Gd X (.BinOp a .Add b pos) σ H (.int (i + j)) := x_bin op_add (rd_I0 fun _ => .int _) ha hb
theorem x_sub (ha : Gd X a σ H (.int i)) (hb : Gd X b σ H (.int j)) : Gd X (.BinOp a .Sub b pos) σ H (.int (i - j)) := x_bin op_sub (rd_I0 fun _ => .int _) ha hb
/-- the product's two sizes -/
def MOk (i j : Int) : Prop := i.natAbs.log2 + j.natAbs.log2 < 130000000
theorem MOk.fits {i j : Int} (h : MOk i j) : IntMulOk i j := by
  have one : ∀ z : Int, Builtin.Int.intBits z ≤ z.natAbs.log2 + 1 := fun z => by
    unfold Builtin.Int.intBits
    split <;> omega
  have hi := one i
  have hj := one j
  have hh : i.natAbs.log2 + j.natAbs.log2 < 130000000 := h
  have line : bitsLine = 134217728 := by decide
  unfold IntMulOk
  intro bad
  rw [Bool.and_eq_true] at bad
  have b2 := bad.2
  unfold Builtin.Int.intTooBig at b2
  have b3 := of_decide_eq_true b2
  rw [line] at b3
  omega
theorem op_mulM : OpR X (binaryOp .Mult) (rI MOk fun i j => .int (i * j)) := opI fun _ _ _ _ _ _ _ hc q => mul_int q hc.fits
theorem x_mul (ha : Gd X a σ H (.int i)) (hb : Gd X b σ H (.int j)) (hc : MOk i j) : Gd X (.BinOp a .Mult b pos) σ H (.int (i * j)) := x_bin op_mulM (rd_I hc fun _ => .int _) ha hb
/-- a divisor above 0, below 2 ^ 9000 -/
theorem x_div (ha : Gd X a σ H (.int i)) (hb : Gd X b σ H (.int j)) (hc : CDivW i j) : Gd X (.BinOp a .FloorDiv b pos) σ H (.int (i / j)) := x_bin op_fdivW (rd_I hc fun _ => .int _) ha hb
theorem x_mod (ha : Gd X a σ H (.int i)) (hb : Gd X b σ H (.int j)) (hc : 0 < j) : Gd X (.BinOp a .Mod b pos) σ H (.int (i % j)) := x_bin op_mod (rd_I hc fun _ => .int _) ha hb
theorem x_pow (ha : Gd X a σ H (.int i)) (hb : Gd X b σ H (.int j)) (hc : CPow i j) : Gd X (.BinOp a .Pow b pos) σ H (.int (i ^ j.toNat)) := x_bin op_pow (rd_I hc fun _ => .int _) ha hb
theorem x_neg (ha : Gd X a σ H (.int i)) : Gd X (.UnaryOp .USub a pos) σ H (.int (-i)) := gv_of (pe_un un_neg cE_pe) fun H1 x Q q => (ha).go H1 x _ fun v H2 y r => by
  rw [dp_int r]
  exact ⟨i, rfl, q _ H2 y (.int _)⟩
theorem x_lt (ha : Gd X a σ H (.int i)) (hb : Gd X b σ H (.int j)) : Gd X (.Compare a [.Lt] [b] pos) σ H (.bool (decide (i < j))) := x_cmp op_lt (rd_I0 fun _ => .bl _) ha hb (nomark _)
theorem x_le (ha : Gd X a σ H (.int i)) (hb : Gd X b σ H (.int j)) : Gd X (.Compare a [.LtE] [b] pos) σ H (.bool (decide (i ≤ j))) := x_cmp op_le (rd_I0 fun _ => .bl _) ha hb (nomark _)
theorem x_gt (ha : Gd X a σ H (.int i)) (hb : Gd X b σ H (.int j)) : Gd X (.Compare a [.Gt] [b] pos) σ H (.bool (decide (j < i))) := x_cmp op_gt (rd_I0 fun _ => .bl _) ha hb (nomark _)
theorem x_ge (ha : Gd X a σ H (.int i)) (hb : Gd X b σ H (.int j)) : Gd X (.Compare a [.GtE] [b] pos) σ H (.bool (decide (j ≤ i))) := x_cmp op_ge (rd_I0 fun _ => .bl _) ha hb (nomark _)
theorem rd_eqI {K : PySem.W.Frag} : RD K H rEq (.int i) (.int j) (.bool (decide (i = j))) := fun H1 _ x y rx ry Q q => by
  rw [dp_int rx, dp_int ry]
  refine ⟨rfl, q _ H1 (Ex.refl H1) ?_⟩
  rw [dec_int, Bool.beq_eq_decide_eq]
  exact .bl _
theorem rd_neI {K : PySem.W.Frag} : RD K H rNe (.int i) (.int j) (.bool (!decide (i = j))) := fun H1 _ x y rx ry Q q => by
  rw [dp_int rx, dp_int ry]
  refine ⟨rfl, q _ H1 (Ex.refl H1) ?_⟩
  rw [dec_int, Bool.beq_eq_decide_eq]
  exact .bl _
theorem rd_eqB {K : PySem.W.Frag} {c c' : Bool} : RD K H rEq (.bool c) (.bool c') (.bool (decide (c = c'))) := fun H1 _ x y rx ry Q q => by
  rw [dp_bl rx, dp_bl ry]
  refine ⟨rfl, q _ H1 (Ex.refl H1) ?_⟩
  rw [dec_bl, Bool.beq_eq_decide_eq]
  exact .bl _
theorem rd_neB {K : PySem.W.Frag} {c c' : Bool} : RD K H rNe (.bool c) (.bool c') (.bool (!decide (c = c'))) := fun H1 _ x y rx ry Q q => by
  rw [dp_bl rx, dp_bl ry]
  refine ⟨rfl, q _ H1 (Ex.refl H1) ?_⟩
  rw [dec_bl, Bool.beq_eq_decide_eq]
  exact .bl _
theorem x_eqI (ha : Gd X a σ H (.int i)) (hb : Gd X b σ H (.int j)) : Gd X (.Compare a [.Eq] [b] pos) σ H (.bool (decide (i = j))) := x_cmp op_eq rd_eqI ha hb (nomark _)
theorem x_neI (ha : Gd X a σ H (.int i)) (hb : Gd X b σ H (.int j)) : Gd X (.Compare a [.NotEq] [b] pos) σ H (.bool (!decide (i = j))) := x_cmp op_ne rd_neI ha hb (nomark _)
theorem x_eqB {c c' : Bool} (ha : Gd X a σ H (.bool c)) (hb : Gd X b σ H (.bool c')) : Gd X (.Compare a [.Eq] [b] pos) σ H (.bool (decide (c = c'))) := x_cmp op_eq rd_eqB ha hb (nomark _)
theorem x_neB {c c' : Bool} (ha : Gd X a σ H (.bool c)) (hb : Gd X b σ H (.bool c')) : Gd X (.Compare a [.NotEq] [b] pos) σ H (.bool (!decide (c = c'))) := x_cmp op_ne rd_neB ha hb (nomark _)
theorem x_isB {c c' : Bool} (ha : Gd X a σ H (.bool c)) (hb : Gd X b σ H (.bool c')) : Gd X (.Compare a [.Is] [b] pos) σ H (.bool (decide (c = c'))) := x_cmp op_isBl (fun H1 _ x y rx ry Q q => by
  rw [dp_bl rx, dp_bl ry]
  exact ⟨c, c', rfl, rfl, q _ H1 (Ex.refl H1) (.bl _)⟩) ha hb (nomark _)
theorem x_notB {c c' : Bool} (ha : Gd X a σ H (.bool c)) (hb : Gd X b σ H (.bool c')) : Gd X (.Compare a [.IsNot] [b] pos) σ H (.bool (!decide (c = c'))) := x_cmp op_notBl (fun H1 _ x y rx ry Q q => by
  rw [dp_bl rx, dp_bl ry]
  exact ⟨c, c', rfl, rfl, q _ H1 (Ex.refl H1) (.bl _)⟩) ha hb (nomark _)
theorem x_eqD (hu : X.A.units + 64 < cLine) {d f : PyData} (ha : Gd X a σ H d) (hb : Gd X b σ H f) (hd : SeqAt.shaped d = true) (hf : SeqAt.shaped f = true) : Gd X (.Compare a [.Eq] [b] pos) σ H (.bool (PyData.eqv d f)) := x_cmp (op_eqD hu) (fun H1 _ x y rx ry Q q =>
  ⟨d, f, to_dp d _ (SeqAt.canLay_of_shaped hd) rx, to_dp f _ (SeqAt.canLay_of_shaped hf) ry, hd, hf, q _ H1 (Ex.refl H1) (.bl _)⟩) ha hb (nomark _)
theorem x_neD (hu : X.A.units + 64 < cLine) {d f : PyData} (ha : Gd X a σ H d) (hb : Gd X b σ H f) (hd : SeqAt.shaped d = true) (hf : SeqAt.shaped f = true) : Gd X (.Compare a [.NotEq] [b] pos) σ H (.bool (!PyData.eqv d f)) := x_cmp (op_neD hu) (fun H1 _ x y rx ry Q q =>
  ⟨d, f, to_dp d _ (SeqAt.canLay_of_shaped hd) rx, to_dp f _ (SeqAt.canLay_of_shaped hf) ry, hd, hf, q _ H1 (Ex.refl H1) (.bl _)⟩) ha hb (nomark _)

/-! subscripts -/
theorem atI_dp {K : PySem.W.Frag} {xs : List V} {ds : List PyData} {i : Int} {f : PyData} (h : DqAll K H xs ds) (hf : atI ds i = some f) : ∃ v, atI xs i = some v ∧ Dq K H v f := by
  unfold atI at hf ⊢
  rw [dpa_len h]
  cases e : ixN ds.length i with
  | none => rw [e] at hf; cases hf
  | some j =>
    rw [e] at hf
    exact dpa_get h hf
theorem x_ixT {ds : List PyData} {i : Int} {f : PyData} (ha : Gd X a σ H (.tuple ds)) (hb : Gd X b σ H (.int i)) (hf : atI ds i = some f) (hs : PlainIx b := by exact fun _ _ => rfl) : Gd X (.Subscript a b pos) σ H f := x_ixR ix_tup (fun H1 _ x y rx ry Q q => by
  obtain ⟨p, xs, rfl, h1, h2⟩ := dp_tup rx
  rw [dp_int ry]
  obtain ⟨v, hv, rv⟩ := atI_dp h2 hf
  exact ⟨p, xs, i, v, rfl, rfl, h1, hv, q _ H1 (Ex.refl H1) rv⟩) ha hb hs
theorem x_ixL {ds : List PyData} {i : Int} {f : PyData} (ha : Gd X a σ H (.list ds)) (hb : Gd X b σ H (.int i)) (hf : atI ds i = some f) (hs : PlainIx b := by exact fun _ _ => rfl) : Gd X (.Subscript a b pos) σ H f := x_ixR ix_list (fun H1 _ x y rx ry Q q => by
  obtain ⟨p, xs, rfl, h1, h2⟩ := dp_lst rx
  rw [dp_int ry]
  obtain ⟨v, hv, rv⟩ := atI_dp h2 hf
  exact ⟨p, xs, i, v, rfl, rfl, h1, hv, q _ H1 (Ex.refl H1) rv⟩) ha hb hs

/-! lists of expressions, displays -/
theorem s_nil : Gs X [] σ H [] := .mk fun H1 _ Q q => cA_of pa_nil (q [] H1 (Ex.refl H1) .nil)
theorem s_cons (ha : Gd X a σ H d) (hr : Gs X rest σ H ds) (hs : starEach (a :: rest) X.env = (false, eval a X.env) :: starEach rest X.env := by rfl) : Gs X (a :: rest) σ H (d :: ds) := .mk fun H1 x Q q =>
  cA_of (pa_cons cE_pe cA_pa hs) ((ha).go H1 x _ fun v H2 y r => (hr).go H2 (x.trans y) _ fun vs H3 z rs => q (v :: vs) H3 (y.trans z) (.cons (dp_mono z r) rs))
theorem l_nil {R : List V → Hp → Prop} (h : ∀ H', R [] H') : Gl X [] σ H R := .mk fun H1 _ Q q => cA_of pa_nil (q [] H1 (Ex.refl H1) (h H1))
/-- R1 stays true as the heap grows -/
theorem l_cons {R1 : V → Hp → Prop} {R2 R : List V → Hp → Prop} (ha : Gv X a σ H R1) (m : ∀ v H1 H2, Ex H1 H2 → R1 v H1 → R1 v H2) (hr : Gl X rest σ H R2) (k : ∀ v vs H', R1 v H' → R2 vs H' → R (v :: vs) H')
    (hs : starEach (a :: rest) X.env = (false, eval a X.env) :: starEach rest X.env := by rfl) : Gl X (a :: rest) σ H R := .mk fun H1 x Q q =>
  cA_of (pa_cons cE_pe cA_pa hs) ((ha).go H1 x _ fun v H2 y r => (hr).go H2 (x.trans y) _ fun vs H3 z rs => q (v :: vs) H3 (y.trans z) (k v vs H3 (m _ _ _ z r) rs))
theorem x_tup {k : Nat} (h : Gs X es σ H ds) (hl : ds.length ≤ 100000) : Gd X (.Tuple es k pos) σ H (.tuple ds) := gv_of (pe_tup cA_pa) fun H1 x Q q => (h).go H1 x _ fun vs H2 y r =>
  ⟨sz_of (by rw [dpa_len r]; exact hl), fun p hp => q _ _ (y.trans (Ex.new hp)) (.tup (SqT.of upd_same) (dpa_mono (Ex.new hp) r))⟩
theorem x_lst (h : Gs X es σ H ds) (hl : ds.length ≤ 100000) : Gd X (.List es pos) σ H (.list ds) := gv_of (pe_lst cA_pa) fun H1 x Q q => (h).go H1 x _ fun vs H2 y r =>
  ⟨sz_of (by rw [dpa_len r]; exact hl), fun p hp => q _ _ (y.trans (Ex.new hp)) (.lst (SqL.of upd_same) (dpa_mono (Ex.new hp) r))⟩

/-! tests and truth -/
theorem t_val {c : Bool} (h : Gd X e σ H (.bool c)) (he : ∀ whole, isTrue e X.env whole = (do let v ← whole; standAt e.pos; holding [v] (truthy v)) := by intro _; rfl) : Gt X e σ H c := .mk fun H1 x Q q =>
  cT_of (pt_val cE_pe he) ((h).go H1 x _ fun v H2 y r => ⟨c, dp_bl r, q H2 y⟩)
theorem t_cmpR {op : CmpOp} {r : R2} {d f : PyData} {c : Bool} (ho : OpR X (compareOp op) r) (hr : RD X.K H r d f (.bool c)) (ha : Gd X a σ H d) (hb : Gd X b σ H f) (hm : behindInMarks op b = false) : Gt X (.Compare a [op] [b] pos) σ H c := .mk fun H1 x Q q =>
  cT_of (pt_cmpR ho cE_pe cE_pe hm) ((ha).go H1 x _ fun v H2 y rv => (hb).go H2 (x.trans y) _ fun u H3 z ru => hr H3 ((x.trans y).trans z) v u (dp_mono z rv) ru _ fun w H4 s rw => ⟨c, dp_bl rw, q H4 ((y.trans z).trans s)⟩)
theorem t_w {c : Bool} (h : Gw X e σ H c) : Gt X e σ H c := .mk fun H1 x Q q pins s I => (h).go H1 x Q q _ pins s I
theorem w_and1 {c : Bool} (h : Gt X a σ H c) : Gw X (.BoolOp .And [a] pos) σ H c := .mk fun H1 x Q q => cW_of (pw_and1 cT_pt) ((h).go H1 x Q q)
theorem w_or1 {c : Bool} (h : Gt X a σ H c) : Gw X (.BoolOp .Or [a] pos) σ H c := .mk fun H1 x Q q => cW_of (pw_or1 cT_pt) ((h).go H1 x Q q)
theorem w_and {c c' : Bool} (h : Gt X a σ H c) (k : c = true → Gw X (.BoolOp .And (b :: rest) pos) σ H c') : Gw X (.BoolOp .And (a :: b :: rest) pos) σ H (c && c') := .mk fun H1 x Q q => cW_of (pw_and cT_pt cW_pw) ((h).go H1 x _ fun H2 y => by
  cases c with
  | true => exact (k rfl).go H2 (x.trans y) Q fun H3 z => q H3 (y.trans z)
  | false => exact q H2 y)
theorem w_or {c c' : Bool} (h : Gt X a σ H c) (k : c = false → Gw X (.BoolOp .Or (b :: rest) pos) σ H c') : Gw X (.BoolOp .Or (a :: b :: rest) pos) σ H (c || c') := .mk fun H1 x Q q => cW_of (pw_or cT_pt cW_pw) ((h).go H1 x _ fun H2 y => by
  cases c with
  | true => exact q H2 y
  | false => exact (k rfl).go H2 (x.trans y) Q fun H3 z => q H3 (y.trans z))
theorem t_not {c : Bool} (h : Gt X a σ H c) : Gt X (.UnaryOp .Not a pos) σ H (!c) := .mk fun H1 x Q q => cT_of (pt_not cT_pt) ((h).go H1 x _ q)
theorem x_and1 {op : BoolOp} (h : Gd X a σ H d) : Gd X (.BoolOp op [a] pos) σ H d := gv_of (pe_one cE_pe) fun H1 x Q q => (h).go H1 x Q q
theorem x_and {c c' : Bool} (h : Gd X a σ H (.bool c)) (k : c = true → Gd X (.BoolOp .And (b :: rest) pos) σ H (.bool c')) : Gd X (.BoolOp .And (a :: b :: rest) pos) σ H (.bool (c && c')) := gv_of (pe_and cE_pe cE_pe) fun H1 x Q q => (h).go H1 x _ fun v H2 y r => ⟨c, dp_bl r, by
  cases c with
  | true => exact (k rfl).go H2 (x.trans y) Q fun v H3 z r => q v H3 (y.trans z) r
  | false => exact q _ H2 y (.bl false)⟩
theorem x_or {c c' : Bool} (h : Gd X a σ H (.bool c)) (k : c = false → Gd X (.BoolOp .Or (b :: rest) pos) σ H (.bool c')) : Gd X (.BoolOp .Or (a :: b :: rest) pos) σ H (.bool (c || c')) := gv_of (pe_or cE_pe cE_pe) fun H1 x Q q => (h).go H1 x _ fun v H2 y r => ⟨c, dp_bl r, by
  cases c with
  | true => exact q _ H2 y (.bl true)
  | false => exact (k rfl).go H2 (x.trans y) Q fun v H3 z r => q v H3 (y.trans z) r⟩
theorem x_not {c : Bool} (h : Gd X a σ H (.bool c)) : Gd X (.UnaryOp .Not a pos) σ H (.bool (!c)) := gv_of (pe_not cE_pe) fun H1 x Q q => (h).go H1 x _ fun v H2 y r => ⟨c, dp_bl r, q _ H2 y (.bl _)⟩
theorem x_ifE {t : Expr} {c : Bool} {f : PyData} (h : Gt X t σ H c) (ha : c = true → Gd X a σ H f) (hb : c = false → Gd X b σ H f) : Gd X (.IfExp t a b pos) σ H f := gv_of (pe_ifExp cT_pt cE_pe cE_pe) fun H1 x Q q => (h).go H1 x _ fun H2 y => by
  cases c with
  | true => exact (ha rfl).go H2 (x.trans y) Q fun v H3 z r => q v H3 (y.trans z) r
  | false => exact (hb rfl).go H2 (x.trans y) Q fun v H3 z r => q v H3 (y.trans z) r

/-! calls of built-ins, by data -/
def RCD (K : PySem.W.Frag) (H : Hp) (r : List V → Hp → VK → Prop) (ds : List PyData) (f : PyData) : Prop := ∀ H1, Ex H H1 → ∀ vs, DqAll K H1 vs ds → ∀ Q : VK, (∀ v H2, Ex H1 H2 → Dq K H2 v f → Q v H2) → r vs H1 Q
theorem x_cb {r : List V → Hp → VK → Prop} {f : PyData} {w : Expr} (hw : PE X w (tCB r (cA X es))) (ha : Gs X es σ H ds) (hr : RCD X.K H r ds f) : Gd X w σ H f := gv_of hw fun H1 x Q q => (ha).go H1 x _ fun vs H2 y rs =>
  hr H2 (x.trans y) vs rs Q fun v H3 z r => q v H3 (y.trans z) r
theorem dp2 {K : PySem.W.Frag} {vs : List V} {d f : PyData} (h : DqAll K H vs [d, f]) : ∃ x y, vs = [x, y] ∧ Dq K H x d ∧ Dq K H y f := by
  cases h with
  | cons h1 h2 =>
    cases h2 with
    | cons h3 h4 =>
      cases h4
      exact ⟨_, _, rfl, h1, h3⟩
theorem dp1 {K : PySem.W.Frag} {vs : List V} {d : PyData} (h : DqAll K H vs [d]) : ∃ x, vs = [x] ∧ Dq K H x d := by
  cases h with
  | cons h1 h2 =>
    cases h2
    exact ⟨_, rfl, h1⟩
end
end Lw

namespace Lw
open PySem PySem.Spec PyProof.Rows L2 Evl

/-! ### statements -/
section
variable {X : Cx} {e a b c : Expr} {es : List Expr} {rest body orelse : List Stmt} {st : Stmt} {σ : L2.St} {H H' : Hp} {d : PyData} {ds : List PyData} {pos p' kp : Pos} {R : V → Hp → Prop} {D : Ends}
theorem g_nil (h : D.nx σ H) : cSs X [] D σ H := cSs_of pss_nil h
theorem g_cons (h : cS X st { D with nx := cSs X rest D } σ H) : cSs X (st :: rest) D σ H := cSs_of (pss_cons cS_ps cSs_ps) h
theorem g_st {t : TS} (hp : PS X st t) (h : t { D with nx := cSs X rest D } σ H) : cSs X (st :: rest) D σ H := g_cons (cS_of hp h)
theorem g_ret (he : Gv X e σ H R) (k : ∀ v H1, Ex H H1 → R v H1 → D.rt v H1) : cSs X (.Return (some e) pos :: rest) D σ H := g_st (ps_ret cE_pe) ((he).go H (Ex.refl H) _ k)
theorem g_retD {f : PyData} (he : Gd X e σ H d) (q : d = f) (k : ∀ v H1, Ex H H1 → Dq X.K H1 v f → D.rt v H1) : cSs X (.Return (some e) pos :: rest) D σ H := g_ret (gd_is he q) k
theorem g_set (i : Nat) {x : Str} (hN : X.N.Nodup) (hi : X.N[i]? = some x) (he : Gv X e σ H R) (k : ∀ v H1, Ex H H1 → R v H1 → cSs X rest D (σ.set i (some v)) H1)
    (hx : Loc X.env.scope x := by first | exact Or.inl rfl | exact Or.inr rfl) (hs : swapsWith e (some (.Name x p')) pos.line X.env = pure false := by rfl)
    (hf : X.fn x = true ∨ X.env.scope.names.lookup x = some .local := by first | exact .inl rfl | exact .inr rfl) : cSs X (.Assign [.Name x p'] e pos :: rest) D σ H :=
  g_st (ps_set hN hi hx cE_pe hs hf) ((he).go H (Ex.refl H) _ k)
theorem g_setI (i : Nat) {x : Str} {n : Int} (hN : X.N.Nodup) (hi : X.N[i]? = some x) (he : Gd X e σ H (.int n)) (k : ∀ H1, Ex H H1 → cSs X rest D (σ.set i (some (.int n))) H1)
    (hx : Loc X.env.scope x := by first | exact Or.inl rfl | exact Or.inr rfl) (hs : swapsWith e (some (.Name x p')) pos.line X.env = pure false := by rfl)
    (hf : X.fn x = true ∨ X.env.scope.names.lookup x = some .local := by first | exact .inl rfl | exact .inr rfl) : cSs X (.Assign [.Name x p'] e pos :: rest) D σ H :=
  g_set i hN hi he (fun v H1 q r => by rw [dp_int r]; exact k H1 q) hx hs hf
theorem g_setB (i : Nat) {x : Str} {n : Bool} (hN : X.N.Nodup) (hi : X.N[i]? = some x) (he : Gd X e σ H (.bool n)) (k : ∀ H1, Ex H H1 → cSs X rest D (σ.set i (some (.bl n))) H1)
    (hx : Loc X.env.scope x := by first | exact Or.inl rfl | exact Or.inr rfl) (hs : swapsWith e (some (.Name x p')) pos.line X.env = pure false := by rfl)
    (hf : X.fn x = true ∨ X.env.scope.names.lookup x = some .local := by first | exact .inl rfl | exact .inr rfl) : cSs X (.Assign [.Name x p'] e pos :: rest) D σ H :=
  g_set i hN hi he (fun v H1 q r => by rw [dp_bl r]; exact k H1 q) hx hs hf
theorem g_if {t : Bool} (hc : Gt X c σ H t) (h1 : t = true → ∀ H1, Ex H H1 → cSs X body { D with nx := cSs X rest D } σ H1) (h2 : t = false → ∀ H1, Ex H H1 → cSs X orelse { D with nx := cSs X rest D } σ H1) : cSs X (.If c body orelse pos :: rest) D σ H :=
  g_st (ps_if cT_pt cSs_ps cSs_ps) ((hc).go H (Ex.refl H) _ fun H1 x => by
    cases t with
    | true => exact h1 rfl H1 x
    | false => exact h2 rfl H1 x)
/-- an if without else whose body leaves -/
theorem g_when {t : Bool} (hc : Gt X c σ H t) (h1 : t = true → ∀ H1, Ex H H1 → cSs X body { D with nx := cSs X rest D } σ H1) (h2 : t = false → ∀ H1, Ex H H1 → cSs X rest D σ H1) : cSs X (.If c body [] pos :: rest) D σ H :=
  g_if hc h1 fun q H1 x => g_nil (h2 q H1 x)
theorem g_expr (he : Gv X e σ H R) (k : ∀ v H1, Ex H H1 → R v H1 → cSs X rest D σ H1) (hs : swapsWith e none pos.line X.env = pure false := by rfl) : cSs X (.Expr e pos :: rest) D σ H :=
  g_st (ps_expr cE_pe hs) ((he).go H (Ex.refl H) _ k)
theorem g_augI (i : Nat) {x : Str} {n m : Int} (hN : X.N.Nodup) (hi : X.N[i]? = some x) (hσ : σ[i]? = some (some (.int n))) (he : Gd X e σ H (.int m)) (k : ∀ H1, Ex H H1 → cSs X rest D (σ.set i (some (.int (n + m)))) H1)
    (hx : Loc X.env.scope x := by first | exact Or.inl rfl | exact Or.inr rfl) (hf : X.fn x = true ∨ X.env.scope.names.lookup x = some .local := by first | exact .inl rfl | exact .inr rfl) : cSs X (.AugAssign (.Name x p') .Add e pos :: rest) D σ H :=
  g_st (ps_aug hN hi hx cE_pe ip_add hf) ⟨.int n, hσ, (he).go H (Ex.refl H) _ fun v H1 x r => ⟨n, m, rfl, dp_int r, k H1 x⟩⟩
theorem g_augS (i : Nat) {x : Str} {n m : Int} (hN : X.N.Nodup) (hi : X.N[i]? = some x) (hσ : σ[i]? = some (some (.int n))) (he : Gd X e σ H (.int m)) (k : ∀ H1, Ex H H1 → cSs X rest D (σ.set i (some (.int (n - m)))) H1)
    (hx : Loc X.env.scope x := by first | exact Or.inl rfl | exact Or.inr rfl) (hf : X.fn x = true ∨ X.env.scope.names.lookup x = some .local := by first | exact .inl rfl | exact .inr rfl) : cSs X (.AugAssign (.Name x p') .Sub e pos :: rest) D σ H :=
  g_st (ps_aug hN hi hx cE_pe ip_sub hf) ⟨.int n, hσ, (he).go H (Ex.refl H) _ fun v H1 x r => ⟨n, m, rfl, dp_int r, k H1 x⟩⟩
/-- x, y = a, b -/
theorem g_par (i j : Nat) {x y : Str} {px py pt pt2 : Pos} {kt k2 : Nat} {d1 d2 : PyData} (hN : X.N.Nodup) (hi : X.N[i]? = some x) (hj : X.N[j]? = some y) (hij : i ≠ j) (he : Gs X [a, b] σ H [d1, d2])
    (k : ∀ v w H1, Ex H H1 → Dq X.K H1 v d1 → Dq X.K H1 w d2 → cSs X rest D ((σ.set i (some v)).set j (some w)) H1)
    (hx : X.env.scope.names.lookup x = some .local := by rfl) (hy : X.env.scope.names.lookup y = some .local := by rfl) (hc : X.calm = true := by rfl)
    (hw : swappedStores [.Tuple [.Name x px, .Name y py] kt pt] (.Tuple [a, b] k2 pt2) X.env = pure (some [x, y]) := by rfl)
    (hs : swapsWithSole [.Tuple [.Name x px, .Name y py] kt pt] (.Tuple [a, b] k2 pt2) pos.line X.env = pure false := by rfl) :
    cSs X (.Assign [.Tuple [.Name x px, .Name y py] kt pt] (.Tuple [a, b] k2 pt2) pos :: rest) D σ H :=
  g_st (ps_par hc hN hi hj hij hx hy cA_pa hw hs) ((he).go H (Ex.refl H) _ fun vs H1 q r => by
    obtain ⟨v, w, rfl, r1, r2⟩ := dp2 r
    exact ⟨v, w, rfl, k v w H1 q r1 r2⟩)
theorem g_parI (i j : Nat) {x y : Str} {px py pt pt2 : Pos} {kt k2 : Nat} {n m : Int} (hN : X.N.Nodup) (hi : X.N[i]? = some x) (hj : X.N[j]? = some y) (hij : i ≠ j) (he : Gs X [a, b] σ H [.int n, .int m])
    (k : ∀ H1, Ex H H1 → cSs X rest D ((σ.set i (some (.int n))).set j (some (.int m))) H1)
    (hx : X.env.scope.names.lookup x = some .local := by rfl) (hy : X.env.scope.names.lookup y = some .local := by rfl) (hc : X.calm = true := by rfl)
    (hw : swappedStores [.Tuple [.Name x px, .Name y py] kt pt] (.Tuple [a, b] k2 pt2) X.env = pure (some [x, y]) := by rfl)
    (hs : swapsWithSole [.Tuple [.Name x px, .Name y py] kt pt] (.Tuple [a, b] k2 pt2) pos.line X.env = pure false := by rfl) :
    cSs X (.Assign [.Tuple [.Name x px, .Name y py] kt pt] (.Tuple [a, b] k2 pt2) pos :: rest) D σ H :=
  g_par i j hN hi hj hij he (fun v w H1 q r1 r2 => by rw [dp_int r1, dp_int r2]; exact k H1 q) hx hy hc hw hs
/-- a target stores data -/
theorem g_asg {tg : Expr} {g : TG} (hg : PG X tg g) (he : Gv X e σ H R) (k : ∀ v H1, Ex H H1 → R v H1 → g v σ H1 (cSs X rest D))
    (hs : swapsWithSole [tg] e pos.line X.env = pure false := by rfl) (hw : swappedStores [tg] e X.env = pure none := by rfl)
    (h1 : (assignEach [tg] X.env).map (·.2) = [assign tg X.env] := by rfl) : cSs X (.Assign [tg] e pos :: rest) D σ H := g_st (ps_asg cE_pe hg hs hw h1) ((he).go H (Ex.refl H) _ k)
theorem gtup_of {K : PySem.W.Frag} {v : V} {ds : List PyData} {n : Nat} {t : TGs} {Q : L2.St → Hp → Prop} (h : Dq K H v (.tuple ds)) (hn : ds.length = n) (k : ∀ vs, DqAll K H vs ds → t vs σ H Q) : gTup K n t v σ H Q := by
  obtain ⟨p, xs, rfl, h1, h2⟩ := dp_tup h
  exact ⟨p, xs, rfl, h1, (dpa_len h2).trans hn, k xs h2⟩

/-! ### calls of defs -/
structure Df (P : Program) (w : World) (K : PySem.W.Frag) (mg : Str → Option Value) (base : Heap) (CX : CXT) (nm : Str) (k : Nat) (ps : List Str) (sp : Sp) : Prop where
  ex : ∃ f fd, mg nm = some (.ref f) ∧ PySem.W.keepIn K (.ref f) = true ∧ Binds K fd ps [] ∧ FnOk P w K mg base CX k f fd ps sp
/-- a promise by data -/
def spD (K : PySem.W.Frag) (F : List PyData → PyData → Prop) : Sp := fun vs H Q _ => ∃ ds d, DqAll K H vs ds ∧ F ds d ∧ ∀ v H2, Ex H H2 → Dq K H2 v d → Q v H2
theorem x_callR {nm : Str} {k n : Nat} {ps : List Str} {sp : Sp} {CX : CXT} {RA : List V → Hp → Prop} (Df_ : Df X.prog X.w X.K X.mg X.base CX nm k ps sp) (hr : Room n X.A) (hk : k ≤ n) (hx : Passes CX X E0) (ha : Gl X (e :: es) σ H RA)
    (hs : ∀ vs H1, Ex H H1 → RA vs H1 → ∀ Q : VK, (∀ v H2, Ex H1 H2 → R v H2 → Q v H2) → sp vs H1 Q E0) (hg : L2.Gl X nm := by rfl) (hdb : (nm == ("__debug__" : Str)) = false := by decide)
    (he : starEach (e :: es) X.env = (false, eval e X.env) :: starEach es X.env := by rfl) (hpl : (backTo pos (starEach es X.env)).any (·.1) = false := by rfl) : Gv X (.Call (.Name nm kp) (e :: es) [] pos) σ H R := by
  obtain ⟨f, fd, hm, hkp, hb, F⟩ := Df_.ex
  refine gv_of (pe_call F (hr.mono hk) hg hm hkp hb .nil hx cA_pa hdb he hpl) fun H1 x Q q => (ha).go H1 x _ fun vs H2 y r => ?_
  rw [List.append_nil]
  exact hs vs H2 (x.trans y) r Q fun v H3 z rv => q v H3 (y.trans z) rv
theorem x_call {nm : Str} {k n : Nat} {ps : List Str} {CX : CXT} {F : List PyData → PyData → Prop} {f : PyData} (Df_ : Df X.prog X.w X.K X.mg X.base CX nm k ps (spD X.K F)) (hr : Room n X.A) (hk : k ≤ n) (hx : Passes CX X E0) (ha : Gs X (e :: es) σ H ds)
    (hF : F ds f) (hg : L2.Gl X nm := by rfl) (hdb : (nm == ("__debug__" : Str)) = false := by decide)
    (he : starEach (e :: es) X.env = (false, eval e X.env) :: starEach es X.env := by rfl) (hpl : (backTo pos (starEach es X.env)).any (·.1) = false := by rfl) : Gd X (.Call (.Name nm kp) (e :: es) [] pos) σ H f :=
  x_callR Df_ hr hk hx ha (fun vs H1 _ r Q q => ⟨ds, f, r, hF, q⟩) hg hdb he hpl
theorem x_call0 {nm : Str} {k n : Nat} {ps : List Str} {CX : CXT} {F : List PyData → PyData → Prop} {f : PyData} (Df_ : Df X.prog X.w X.K X.mg X.base CX nm k ps (spD X.K F)) (hr : Room n X.A) (hk : k ≤ n) (hx : Passes CX X E0)
    (hF : F [] f) (hg : L2.Gl X nm := by rfl) (hdb : (nm == ("__debug__" : Str)) = false := by decide) : Gd X (.Call (.Name nm kp) [] [] pos) σ H f := by
  obtain ⟨f', fd, hm, hkp, hb, Fo⟩ := Df_.ex
  exact gv_of (pe_call0 Fo (hr.mono hk) hg hm hkp hb .nil hx hdb) fun H1 x Q q => ⟨[], f, .nil, hF, q⟩
end

/-! ### a def's body -/
abbrev cxB (P : Program) (w : World) (K : PySem.W.Frag) (mg : Str → Option Value) (base : Heap) (N : List Str) (nm : Str) (sc : Scope) (f : Addr) (cdv : Value) (A : Around) (outer : List Env) (s : Shared) (H : Hp) (E : XK) : Cx := (cxOf CX0 P w K mg base N nm sc f cdv A outer s H E).nox
section
variable {P : Program} {w : World} {K : PySem.W.Frag} {mg : Str → Option Value} {base : Heap}
theorem Df.mkR {nm : Str} {st : Stmt} {f : Addr} {fd : FuncData} {N ps : List Str} {sp : Sp} (k : Nat) (Fu : Fun K nm nm st f fd) (hm : mg nm = some (.ref f)) (hb : Binds K fd ps []) (S : FnScope N ps (defScope st)) (len : ∀ vs H Q E, sp vs H Q E → vs.length = ps.length)
    (body : ∀ cdv A outer s H0 E, Room k (cxB P w K mg base N nm (defScope st) f cdv A outer s H0 E).A → ∀ vs H Q, sp vs H Q E → H = H0 →
      cSs (cxB P w K mg base N nm (defScope st) f cdv A outer s H0 E) (defBody st) { nx := fun _ H' => Q .non H', rt := Q } (start N vs) H) : Df P w K mg base CX0 nm (k + 1) ps sp :=
  ⟨f, fd, hm, Fu.kp, hb, Fu.ok S len fun cdv A outer s H vs Q E hr h => ⟨_, cSs_ps, body cdv A outer s H E hr vs H Q h rfl⟩⟩
theorem Df.mk' {nm : Str} {st : Stmt} {f : Addr} {fd : FuncData} {N ps : List Str} {F : List PyData → PyData → Prop} (k : Nat) (Fu : Fun K nm nm st f fd) (hm : mg nm = some (.ref f)) (hb : Binds K fd ps []) (S : FnScope N ps (defScope st)) (len : ∀ ds d, F ds d → ds.length = ps.length)
    (body : ∀ cdv A outer s H0 E, Room k (cxB P w K mg base N nm (defScope st) f cdv A outer s H0 E).A → ∀ ds d vs H (Q : VK), F ds d → DqAll K H vs ds → (∀ v H2, Ex H H2 → Dq K H2 v d → Q v H2) →
      cSs (cxB P w K mg base N nm (defScope st) f cdv A outer s H0 E) (defBody st) { nx := fun _ H' => Q .non H', rt := Q } (start N vs) H) : Df P w K mg base CX0 nm (k + 1) ps (spD K F) :=
  Df.mkR k Fu hm hb S (fun vs H Q E ⟨ds, d, h1, h2, _⟩ => (dpa_len h1).trans (len ds d h2)) fun cdv A outer s H0 E hr vs H Q ⟨ds, d, h1, h2, h3⟩ _ => body cdv A outer s H0 E hr ds d vs H Q h2 h1 h3
end

/-! ### built-ins -/
section
variable {X : Cx} {e a b c : Expr} {es : List Expr} {σ : L2.St} {H H' : Hp} {d f : PyData} {ds : List PyData} {pos p : Pos} {i j : Int}
theorem x_abs (ha : Gd X a σ H (.int i)) (hm : X.mg "abs" = none) (hg : L2.Gl X "abs" := by rfl) (hs : starEach [a] X.env = (false, eval a X.env) :: starEach [] X.env := by rfl) (hpl : (backTo pos (starEach [] X.env)).any (·.1) = false := by rfl) : Gd X (.Call (.Name "abs" p) [a] [] pos) σ H (.int (if i < 0 then -i else i)) :=
  x_cb (pe_callB call_abs hg hm (by decide +kernel) cA_pa (by decide) (by decide) hs hpl) (s_cons ha s_nil hs) fun H1 _ vs r Q q => by
    obtain ⟨x, rfl, r1⟩ := dp1 r
    rw [dp_int r1]
    exact ⟨i, rfl, q _ H1 (Ex.refl H1) (.int _)⟩
theorem x_max2 (ha : Gd X a σ H (.int i)) (hb : Gd X b σ H (.int j)) (hm : X.mg "max" = none) (hc : X.calm = true := by rfl) (hg : L2.Gl X "max" := by rfl) (hs : starEach [a, b] X.env = (false, eval a X.env) :: starEach [b] X.env := by rfl) (hs2 : starEach [b] X.env = (false, eval b X.env) :: starEach [] X.env := by rfl) (hpl : (backTo pos (starEach [b] X.env)).any (·.1) = false := by rfl) : Gd X (.Call (.Name "max" p) [a, b] [] pos) σ H (.int (if j > i then j else i)) :=
  x_cb (pe_callB (call_max2 hc) hg hm (by decide +kernel) cA_pa (by decide) (by decide) hs hpl) (s_cons ha (s_cons hb s_nil hs2) hs) fun H1 _ vs r Q q => by
    obtain ⟨x, y, rfl, r1, r2⟩ := dp2 r
    rw [dp_int r1, dp_int r2]
    exact ⟨i, j, rfl, q _ H1 (Ex.refl H1) (.int _)⟩
theorem x_min2 (ha : Gd X a σ H (.int i)) (hb : Gd X b σ H (.int j)) (hm : X.mg "min" = none) (hc : X.calm = true := by rfl) (hg : L2.Gl X "min" := by rfl) (hs : starEach [a, b] X.env = (false, eval a X.env) :: starEach [b] X.env := by rfl) (hs2 : starEach [b] X.env = (false, eval b X.env) :: starEach [] X.env := by rfl) (hpl : (backTo pos (starEach [b] X.env)).any (·.1) = false := by rfl) : Gd X (.Call (.Name "min" p) [a, b] [] pos) σ H (.int (if j < i then j else i)) :=
  x_cb (pe_callB (call_min2 hc) hg hm (by decide +kernel) cA_pa (by decide) (by decide) hs hpl) (s_cons ha (s_cons hb s_nil hs2) hs) fun H1 _ vs r Q q => by
    obtain ⟨x, y, rfl, r1, r2⟩ := dp2 r
    rw [dp_int r1, dp_int r2]
    exact ⟨i, j, rfl, q _ H1 (Ex.refl H1) (.int _)⟩
theorem x_sum {ns : List Int} (ha : Gd X a σ H (.list (ns.map .int))) (hm : X.mg "sum" = none) (hc : X.calm = true := by rfl) (hg : L2.Gl X "sum" := by rfl) (hs : starEach [a] X.env = (false, eval a X.env) :: starEach [] X.env := by rfl) (hpl : (backTo pos (starEach [] X.env)).any (·.1) = false := by rfl) : Gd X (.Call (.Name "sum" p) [a] [] pos) σ H (.int ns.sum) :=
  x_cb (pe_callB (cr_sum hc) hg hm (by decide +kernel) cA_pa (by decide) (by decide) hs hpl) (s_cons ha s_nil hs) fun H1 _ vs r Q q => by
    obtain ⟨x, rfl, r1⟩ := dp1 r
    obtain ⟨l, xs, rfl, h1, h2⟩ := dp_lst r1
    rw [dpa_ints ns h2] at h1
    exact ⟨l, ns, rfl, h1, q _ H1 (Ex.refl H1) (.int _)⟩
theorem x_all {bs : List Bool} (ha : Gd X a σ H (.list (bs.map .bool))) (hm : X.mg "all" = none) (hc : X.calm = true := by rfl) (hg : L2.Gl X "all" := by rfl) (hs : starEach [a] X.env = (false, eval a X.env) :: starEach [] X.env := by rfl) (hpl : (backTo pos (starEach [] X.env)).any (·.1) = false := by rfl) : Gd X (.Call (.Name "all" p) [a] [] pos) σ H (.bool (bs.all id)) :=
  x_cb (pe_callB (cr_all hc) hg hm (by decide +kernel) cA_pa (by decide) (by decide) hs hpl) (s_cons ha s_nil hs) fun H1 _ vs r Q q => by
    obtain ⟨x, rfl, r1⟩ := dp1 r
    obtain ⟨l, xs, rfl, h1, h2⟩ := dp_lst r1
    rw [dpa_bls bs h2] at h1
    exact ⟨l, bs, rfl, h1, q _ H1 (Ex.refl H1) (.bl _)⟩
theorem x_any {bs : List Bool} (ha : Gd X a σ H (.list (bs.map .bool))) (hm : X.mg "any" = none) (hc : X.calm = true := by rfl) (hg : L2.Gl X "any" := by rfl) (hs : starEach [a] X.env = (false, eval a X.env) :: starEach [] X.env := by rfl) (hpl : (backTo pos (starEach [] X.env)).any (·.1) = false := by rfl) : Gd X (.Call (.Name "any" p) [a] [] pos) σ H (.bool (bs.any id)) :=
  x_cb (pe_callB (cr_any hc) hg hm (by decide +kernel) cA_pa (by decide) (by decide) hs hpl) (s_cons ha s_nil hs) fun H1 _ vs r Q q => by
    obtain ⟨x, rfl, r1⟩ := dp1 r
    obtain ⟨l, xs, rfl, h1, h2⟩ := dp_lst r1
    rw [dpa_bls bs h2] at h1
    exact ⟨l, bs, rfl, h1, q _ H1 (Ex.refl H1) (.bl _)⟩
theorem x_lenL (ha : Gd X a σ H (.list ds)) (hm : X.mg "len" = none) (hg : L2.Gl X "len" := by rfl) (hs : starEach [a] X.env = (false, eval a X.env) :: starEach [] X.env := by rfl) (hpl : (backTo pos (starEach [] X.env)).any (·.1) = false := by rfl) : Gd X (.Call (.Name "len" p) [a] [] pos) σ H (.int ds.length) :=
  x_cb (pe_callB call_len_seq hg hm PySem.boot_len cA_pa (by decide) (by decide) hs hpl) (s_cons ha s_nil hs) fun H1 _ vs r Q q => by
    obtain ⟨x, rfl, r1⟩ := dp1 r
    obtain ⟨l, xs, rfl, h1, h2⟩ := dp_lst r1
    refine ⟨l, xs, rfl, .inl h1, q _ H1 (Ex.refl H1) ?_⟩
    rw [dpa_len h2]
    exact .int _
theorem x_lenT (ha : Gd X a σ H (.tuple ds)) (hm : X.mg "len" = none) (hg : L2.Gl X "len" := by rfl) (hs : starEach [a] X.env = (false, eval a X.env) :: starEach [] X.env := by rfl) (hpl : (backTo pos (starEach [] X.env)).any (·.1) = false := by rfl) : Gd X (.Call (.Name "len" p) [a] [] pos) σ H (.int ds.length) :=
  x_cb (pe_callB call_len_seq hg hm PySem.boot_len cA_pa (by decide) (by decide) hs hpl) (s_cons ha s_nil hs) fun H1 _ vs r Q q => by
    obtain ⟨x, rfl, r1⟩ := dp1 r
    obtain ⟨l, xs, rfl, h1, h2⟩ := dp_tup r1
    refine ⟨l, xs, rfl, .inr h1, q _ H1 (Ex.refl H1) ?_⟩
    rw [dpa_len h2]
    exact .int _
theorem x_list (ha : Gd X a σ H (.list ds)) (hm : X.mg "list" = none) (hg : L2.Gl X "list" := by rfl) (hs : starEach [a] X.env = (false, eval a X.env) :: starEach [] X.env := by rfl) (hpl : (backTo pos (starEach [] X.env)).any (·.1) = false := by rfl) : Gd X (.Call (.Name "list" p) [a] [] pos) σ H (.list ds) :=
  x_cb (pe_callTy call_list_of hg hm (by decide +kernel) cA_pa (by decide) (by decide) hs hpl) (s_cons ha s_nil hs) fun H1 _ vs r Q q => by
    obtain ⟨x, rfl, r1⟩ := dp1 r
    obtain ⟨l, xs, rfl, h1, h2⟩ := dp_lst r1
    exact ⟨l, xs, rfl, .inl h1, fun p hp => q _ _ (Ex.new hp) (.lst (SqL.of upd_same) (dpa_mono (Ex.new hp) h2))⟩
/-- the type of data -/
def tyD : PyData → String
  | .none => "NoneType"
  | .bool _ => "bool"
  | .int _ => "int"
  | .str _ => "str"
  | .list _ => "list"
  | .tuple _ => "tuple"
  | .dict _ => "dict"
theorem tyx_of {K : PySem.W.Frag} {v : V} {d : PyData} (h : Dq K H v d) : TyX K H v (.type (tyD d)) := by
  cases h with
  | non => exact .base .non
  | bl c => exact .base (.bl c)
  | int n => exact .base (.int n)
  | str z => exact .base (.str z)
  | lst hs _ =>
    rcases hs with (hs | ⟨o, hs⟩) | ⟨o, its, n, hs, hc, _⟩
    · exact .base (.lst hs)
    · exact .base (.frz hs)
    · exact .kList hs hc
  | tup hs _ =>
    rcases hs with (hs | ⟨o, hs⟩) | ⟨o, its, n, hs, hc, _⟩
    · exact .base (.tup hs)
    · exact .fTuple hs
    · exact .kTuple hs hc
  | dct hs => exact .base (.dK hs)
theorem x_ty {T : Str} {Tn : String} (hm : X.mg T = none) (hv : bootBuiltins T = some (.type Tn)) (hg : L2.Gl X T := by rfl) (h1 : T ≠ "__name__" := by decide) (h2 : (T == ("__debug__" : Str)) = false := by decide) : Gv X (.Name T p) σ H fun v _ => v = .ty Tn :=
  gv_v (pe_bltn hg hm hv (show RelV (.ty Tn) (.type Tn) from rfl) h1 h2) ev_c
theorem x_isi {T : Str} {Tn : String} {q : Pos} {c : Bool} (ha : Gd X a σ H d) (hT : X.mg T = none) (hm : X.mg "isinstance" = none) (hv : bootBuiltins T = some (.type Tn) := by decide +kernel) (hk : kitB (tyD d) Tn = some c := by decide +kernel)
    (hgT : L2.Gl X T := by rfl) (h1 : T ≠ "__name__" := by decide) (h2 : (T == ("__debug__" : Str)) = false := by decide) (hg : L2.Gl X "isinstance" := by rfl)
    (hs : starEach [a, .Name T q] X.env = (false, eval a X.env) :: starEach [.Name T q] X.env := by rfl) (hs2 : starEach [.Name T q] X.env = (false, eval (.Name T q) X.env) :: starEach [] X.env := by rfl) (hpl : (backTo pos (starEach [.Name T q] X.env)).any (·.1) = false := by rfl) :
    Gd X (.Call (.Name "isinstance" p) [a, .Name T q] [] pos) σ H (.bool c) :=
  gv_of (pe_callB call_isi hg hm (by decide +kernel) cA_pa (by decide) (by decide) hs hpl) fun H1 x Q k =>
    (l_cons (R := fun vs H' => ∃ v, vs = [v, .ty Tn] ∧ Dq X.K H' v d) ha (fun _ _ _ z r => dp_mono z r) (l_cons (R := fun vs _ => vs = [.ty Tn]) (x_ty hT hv hgT h1 h2) (fun _ _ _ _ r => r) (l_nil (R := fun vs _ => vs = []) fun _ => rfl) (fun v vs _ r1 r2 => by rw [r1, r2]) hs2)
      (fun v vs _ r1 r2 => ⟨v, by rw [r2], r1⟩) hs).go H1 x _ fun vs H2 y ⟨v, e, r⟩ => ⟨v, .ty Tn, _, _, c, e, .ty Tn, tyx_of r, kit_ty hk, k _ H2 y (.bl c)⟩
/-- min, max of a pair of ints -/
theorem pair_raw {X : Cx} {pins : List (Addr × Obj)} {s : Shared} {p : Addr} (I : Inv X pins σ H s) (hs : SqT X.K H p [.int i, .int j]) : ∃ t u, s.heap.IsTuple p (intItems #[(i, t), (j, u)]) := by
  obtain ⟨its, rv, tp, _⟩ := I.tuple hs
  obtain ⟨u1, u2, rfl, ⟨t, rfl⟩, ⟨u, rfl⟩⟩ := vals2 rv
  have tq : s.heap.IsTuple p #[.int i t, .int j u] := tp
  exact ⟨t, u, by simpa [intItems] using tq⟩
section
variable {prog : Program} {w : World} {A : Around} {E : Value → Shared → Prop} {s : Shared} {l : Addr} {xs : Array (Int × Tok)} {Q : Value → Shared → Prop}
theorem pair_lt (hl : s.heap.IsTuple l (intItems xs)) : l < s.heap.objs.size := by
  obtain ⟨_, o, _⟩ := hl
  exact Heap.lt_size o
theorem iter_pair (hl : s.heap.IsTuple l (intItems xs))
    (h : ∀ s2 : Shared, s2 = { s with heap := s.heap.push { cls := .type "tuple_iterator", data := .fields #[.ref l, .int 0 0] } } → (s2.heap.IsTupleIter s.heap.objs.size l 0 ∧ s2.heap.IsTuple l (intItems xs)) →
      (∀ b ∈ [s.heap.objs.size, l], b < s2.heap.objs.size) → Q (.ref s.heap.objs.size) s2) : wpAny (model prog w) A (pyIter (.ref l)) Q E s := by
  have small := pair_lt hl
  refine wpAny_pyIter_tuple hl (h _ rfl ⟨⟨_, Heap.get?_push_size _ rfl, rfl, rfl⟩, hl.push _⟩ fun b hb => ?_)
  show b < (s.heap.push _).objs.size
  rw [Heap.size_push]
  simp only [List.mem_cons, List.not_mem_nil, or_false] at hb
  rcases hb with rfl | rfl
  · exact Nat.lt_succ_self _
  · exact Nat.lt_succ_of_lt small
theorem pair_old {h' : Heap} (hk : ∀ b o, b ∉ [s.heap.objs.size] → (s.heap.push { cls := .type "tuple_iterator", data := .fields #[.ref l, .int 0 0] }).get? b = some o → h'.get? b = some o) (b : Addr) (o : Obj) (q : s.heap.get? b = some o) : h'.get? b = some o := by
  refine hk b o (fun hm => ?_) (Heap.get?_push_of_some _ q)
  have eb : b = s.heap.objs.size := by simpa using hm
  have lb := Heap.lt_size q
  rw [eb] at lb
  exact absurd lb (Nat.lt_irrefl _)
theorem max_pair (hh : A.handled = none) (hl : s.heap.IsTuple l (intItems xs)) (hne : 0 < xs.size)
    (h : ∀ v h' tk, (intItems xs)[argBest (fun i j => decide (numAt xs i > numAt xs j)) (xs.size - 1)]? = some v → (∀ b o, s.heap.get? b = some o → h'.get? b = some o) → Q v { s with heap := h', toks := tk }) : wpAny (model prog w) A (call (.builtin "max") [.ref l]) Q E s := by
  have hne2 := pair_lt hl
  refine call_max_walk (iter_pair hl fun s2 eq st hfp => ?_)
  subst eq
  refine ⟨_, _, _, _, _, _, _, rfl, Walks.tuple (A := A.in1) hh _ l (Nat.ne_of_lt hne2) (intItems xs), st, hfp, by simpa [intItems] using hne, CmpOf.ints_gt (numAt xs) (fun _ _ => intItems_at), fun v h' tk hP hk => ?_⟩
  refine h v h' tk ?_ (pair_old hk)
  have sz : (intItems xs).size = xs.size := by simp [intItems]
  rw [sz] at hP
  exact hP
theorem min_pair (hh : A.handled = none) (hl : s.heap.IsTuple l (intItems xs)) (hne : 0 < xs.size)
    (h : ∀ v h' tk, (intItems xs)[argBest (fun i j => decide (numAt xs i < numAt xs j)) (xs.size - 1)]? = some v → (∀ b o, s.heap.get? b = some o → h'.get? b = some o) → Q v { s with heap := h', toks := tk }) : wpAny (model prog w) A (call (.builtin "min") [.ref l]) Q E s := by
  have hne2 := pair_lt hl
  refine call_min_walk (iter_pair hl fun s2 eq st hfp => ?_)
  subst eq
  refine ⟨_, _, _, _, _, _, _, rfl, Walks.tuple (A := A.in1) hh _ l (Nat.ne_of_lt hne2) (intItems xs), st, hfp, by simpa [intItems] using hne, CmpOf.ints_lt (numAt xs) (fun _ _ => intItems_at), fun v h' tk hP hk => ?_⟩
  refine h v h' tk ?_ (pair_old hk)
  have sz : (intItems xs).size = xs.size := by simp [intItems]
  rw [sz] at hP
  exact hP
end
def rPair (K : PySem.W.Frag) (g : Int → Int → Int) : List V → Hp → VK → Prop := fun vs H Q => ∃ p i j, vs = [.ref p] ∧ SqT K H p [.int i, .int j] ∧ Q (.int (g i j)) H
theorem best_gt {t u : Tok} {v : Value} (h : (intItems #[(i, t), (j, u)])[argBest (fun a b => decide (numAt #[(i, t), (j, u)] a > numAt #[(i, t), (j, u)] b)) 1]? = some v) : ∃ tk, v = .int (if j > i then j else i) tk := by
  by_cases c : j > i
  · have q : argBest (fun a b => decide (numAt #[(i, t), (j, u)] a > numAt #[(i, t), (j, u)] b)) 1 = 1 := by simp [argBest, numAt, c]
    rw [q] at h
    refine ⟨u, ?_⟩
    rw [if_pos c]
    have z : (intItems #[(i, t), (j, u)])[1]? = some (.int j u) := by simp [intItems]
    exact (Option.some.inj (z.symm.trans h)).symm
  · have q : argBest (fun a b => decide (numAt #[(i, t), (j, u)] a > numAt #[(i, t), (j, u)] b)) 1 = 0 := by simp [argBest, numAt, c]
    rw [q] at h
    refine ⟨t, ?_⟩
    rw [if_neg c]
    have z : (intItems #[(i, t), (j, u)])[0]? = some (.int i t) := by simp [intItems]
    exact (Option.some.inj (z.symm.trans h)).symm
theorem best_lt {t u : Tok} {v : Value} (h : (intItems #[(i, t), (j, u)])[argBest (fun a b => decide (numAt #[(i, t), (j, u)] a < numAt #[(i, t), (j, u)] b)) 1]? = some v) : ∃ tk, v = .int (if j < i then j else i) tk := by
  by_cases c : j < i
  · have q : argBest (fun a b => decide (numAt #[(i, t), (j, u)] a < numAt #[(i, t), (j, u)] b)) 1 = 1 := by simp [argBest, numAt, c]
    rw [q] at h
    refine ⟨u, ?_⟩
    rw [if_pos c]
    have z : (intItems #[(i, t), (j, u)])[1]? = some (.int j u) := by simp [intItems]
    exact (Option.some.inj (z.symm.trans h)).symm
  · have q : argBest (fun a b => decide (numAt #[(i, t), (j, u)] a < numAt #[(i, t), (j, u)] b)) 1 = 0 := by simp [argBest, numAt, c]
    rw [q] at h
    refine ⟨t, ?_⟩
    rw [if_neg c]
    have z : (intItems #[(i, t), (j, u)])[0]? = some (.int i t) := by simp [intItems]
    exact (Option.some.inj (z.symm.trans h)).symm
theorem call_maxP (hc : X.calm = true) : CallR X (.builtin "max") (rPair X.K fun i j => if j > i then j else i) := by
  intro pins s σ H vs us Q I r h
  obtain ⟨p, i, j, rfl, hs, q⟩ := h
  rw [Vals.ref1 r]
  obtain ⟨t, u, hp⟩ := pair_raw I hs
  refine max_pair (I.ok.hd hc) hp (by simp) fun v h' tk hv hk => ?_
  obtain ⟨tk', rfl⟩ := best_gt hv
  exact ⟨.int _, H, I.kept hk, ⟨_, rfl⟩, q⟩
theorem call_minP (hc : X.calm = true) : CallR X (.builtin "min") (rPair X.K fun i j => if j < i then j else i) := by
  intro pins s σ H vs us Q I r h
  obtain ⟨p, i, j, rfl, hs, q⟩ := h
  rw [Vals.ref1 r]
  obtain ⟨t, u, hp⟩ := pair_raw I hs
  refine min_pair (I.ok.hd hc) hp (by simp) fun v h' tk hv hk => ?_
  obtain ⟨tk', rfl⟩ := best_lt hv
  exact ⟨.int _, H, I.kept hk, ⟨_, rfl⟩, q⟩
theorem dp_pair {K : PySem.W.Frag} {v : V} (h : Dq K H v (.tuple [.int i, .int j])) : ∃ p, v = .ref p ∧ SqT K H p [.int i, .int j] := by
  obtain ⟨p, xs, rfl, h1, h2⟩ := dp_tup h
  have z : xs = [.int i, .int j] := dpa_ints [i, j] h2
  rw [z] at h1
  exact ⟨p, rfl, h1⟩
theorem x_maxP (ha : Gd X a σ H (.tuple [.int i, .int j])) (hm : X.mg "max" = none) (hc : X.calm = true := by rfl) (hg : L2.Gl X "max" := by rfl) (hs : starEach [a] X.env = (false, eval a X.env) :: starEach [] X.env := by rfl) (hpl : (backTo pos (starEach [] X.env)).any (·.1) = false := by rfl) : Gd X (.Call (.Name "max" p) [a] [] pos) σ H (.int (if j > i then j else i)) :=
  x_cb (pe_callB (call_maxP hc) hg hm (by decide +kernel) cA_pa (by decide) (by decide) hs hpl) (s_cons ha s_nil hs) fun H1 _ vs r Q q => by
    obtain ⟨x, rfl, r1⟩ := dp1 r
    obtain ⟨l, rfl, h1⟩ := dp_pair r1
    exact ⟨l, i, j, rfl, h1, q _ H1 (Ex.refl H1) (.int _)⟩
theorem x_minP (ha : Gd X a σ H (.tuple [.int i, .int j])) (hm : X.mg "min" = none) (hc : X.calm = true := by rfl) (hg : L2.Gl X "min" := by rfl) (hs : starEach [a] X.env = (false, eval a X.env) :: starEach [] X.env := by rfl) (hpl : (backTo pos (starEach [] X.env)).any (·.1) = false := by rfl) : Gd X (.Call (.Name "min" p) [a] [] pos) σ H (.int (if j < i then j else i)) :=
  x_cb (pe_callB (call_minP hc) hg hm (by decide +kernel) cA_pa (by decide) (by decide) hs hpl) (s_cons ha s_nil hs) fun H1 _ vs r Q q => by
    obtain ⟨x, rfl, r1⟩ := dp1 r
    obtain ⟨l, rfl, h1⟩ := dp_pair r1
    exact ⟨l, i, j, rfl, h1, q _ H1 (Ex.refl H1) (.int _)⟩

/-! ### comprehensions -/
mutual
/-- data without a list -/
def nl : PyData → Bool
  | .list _ => false
  | .tuple ds => nls ds
  | _ => true
def nls : List PyData → Bool
  | [] => true
  | d :: ds => nl d && nls ds
end
section
variable {K : PySem.W.Frag}
theorem sqt_mut {D p : Addr} {xs ys vs : List V} (hD : H D = some (.lst xs)) (h : SqT K H p vs) : SqT K (upd H D (.lst ys)) p vs := by
  rcases h with (h | ⟨o, h⟩) | h
  · exact .inl (.inl (by rw [upd_ne (ne_of h hD (by intro z; cases z))]; exact h))
  · exact .inl (.inr ⟨o, by rw [upd_ne (ne_of h hD (by intro z; cases z))]; exact h⟩)
  · exact .inr h
mutual
theorem dp_mut {D : Addr} {xs ys : List V} (hD : H D = some (.lst xs)) : ∀ (d : PyData) (v : V), nl d = true → Dq K H v d → Dq K (upd H D (.lst ys)) v d
  | .none, _, _, h => by cases h; exact .non
  | .bool b, _, _, h => by cases h; exact .bl b
  | .int i, _, _, h => by cases h; exact .int i
  | .str x, _, _, h => by cases h; exact .str x
  | .list _, _, n, _ => by cases n
  | .tuple ds, _, n, h => by
    cases h with
    | tup hs ha => exact .tup (sqt_mut hD hs) (dpa_mut hD ds _ n ha)
  | .dict _, _, _, h => by
    cases h with
    | dct h => exact .dct (by rw [upd_ne (ne_of h hD (by intro z; cases z))]; exact h)
theorem dpa_mut {D : Addr} {xs ys : List V} (hD : H D = some (.lst xs)) : ∀ (ds : List PyData) (vs : List V), nls ds = true → DqAll K H vs ds → DqAll K (upd H D (.lst ys)) vs ds
  | [], _, _, h => by cases h; exact .nil
  | d :: ds, _, n, h => by
    have n' : (nl d && nls ds) = true := n
    rw [Bool.and_eq_true] at n'
    cases h with
    | cons h1 h2 => exact .cons (dp_mut hD d _ n'.1 h1) (dpa_mut hD ds _ n'.2 h2)
end
end
theorem nls_take : ∀ {fs : List PyData} (i : Nat), nls fs = true → nls (fs.take i) = true
  | _, 0, _ => rfl
  | [], _ + 1, _ => rfl
  | d :: ds, i + 1, n => by
    have n' : (nl d && nls ds) = true := n
    rw [Bool.and_eq_true] at n'
    show (nl d && nls (ds.take i)) = true
    rw [n'.1, nls_take i n'.2] <;> rfl
theorem nls_at : ∀ {fs : List PyData} {i : Nat} {f : PyData}, nls fs = true → fs[i]? = some f → nl f = true
  | [], _, _, _, h => by simp at h
  | d :: ds, 0, f, n, h => by
    have n' : (nl d && nls ds) = true := n
    rw [Bool.and_eq_true] at n'
    have z := Option.some.inj h
    rw [← z]
    exact n'.1
  | d :: ds, i + 1, f, n, h => by
    have n' : (nl d && nls ds) = true := n
    rw [Bool.and_eq_true] at n'
    exact nls_at (i := i) n'.2 h
theorem nls_map {α : Type} (f : α → PyData) (hf : ∀ a, nl (f a) = true) : ∀ l : List α, nls (l.map f) = true
  | [] => rfl
  | a :: l => by
    show (nl (f a) && nls (l.map f)) = true
    rw [hf a, nls_map f hf l] <;> rfl
/-- a turn's word: i items made in the list at D -/
def Lcw (K : PySem.W.Frag) (H1 : Hp) (D : Addr) (fs : List PyData) (i : Nat) (H' : Hp) : Prop := H1 D = none ∧ Ex H1 H' ∧ ∃ vs, H' D = some (.lst vs) ∧ DqAll K H' vs (fs.take i)
theorem lcw_turn {K : PySem.W.Frag} {H1 H' : Hp} {D : Addr} {fs : List PyData} {i : Nat} {f : PyData} {te : TE} {σ2 : L2.St} (p : Lcw K H1 D fs i H') (hf : fs[i]? = some f) (hz : fs.length ≤ 100000) (hn : nls fs = true)
    (he : ∀ Q : VK, (∀ v H2, Ex H' H2 → Dq K H2 v f → Q v H2) → te σ2 H' Q) :
    te σ2 H' fun y H4 => ∃ acc, H4 D = some (.lst acc) ∧ acc.length < sizeLine ∧ Lcw K H1 D fs (i + 1) (upd H4 D (.lst (acc ++ [y]))) := by
  obtain ⟨p1, p2, vs, p3, p4⟩ := p
  refine he _ fun v H2 x r => ⟨vs, x D _ p3, ?_, p1, Ex.mut (p2.trans x) p1, vs ++ [v], upd_same, ?_⟩
  · have l1 := dpa_len p4
    have l2 := (List.getElem?_eq_some_iff.mp hf).1
    rw [List.length_take] at l1
    exact sz_lt (by omega)
  · rw [List.take_add_one, hf]
    refine dpa_app (dpa_mut (x D _ p3) _ _ (nls_take i hn) (dpa_mono x p4)) (.cons (dp_mut (x D _ p3) _ _ (nls_at hn hf) r) .nil)
def cB (X : Cx) (scope : Scope) (e : Expr) : TE := fun σ H Q => ∀ (s : Shared) (H0 : Hp) (C : Addr) (cl : List (Str × Addr)) (fp : List Addr), cE (X.blk s H0 scope (compEnvC scope cl C X.env) fp) e σ H Q
theorem cB_pe {scope : Scope} (s : Shared) (H0 : Hp) (C : Addr) (cl : List (Str × Addr)) (fp : List Addr) : PE (X.blk s H0 scope (compEnvC scope cl C X.env) fp) e (cB X scope e) := ⟨fun pins s1 _ _ _ I h => h s H0 C cl fp pins s1 I⟩
theorem wipe1 (σ : L2.St) (j : Nat) (x : Option V) : wipe ((wipe σ [j]).set j x) [j] = wipe σ [j] := by
  show ((σ.set j none).set j x).set j none = σ.set j none
  rw [List.set_set, List.set_set]
section
variable {iter elt : Expr} {scope : Scope} {x : Str} {px : Pos} {fs : List PyData}
/-- [elt for x in iter], iter a list; x in slot j -/
theorem x_lcL (jj : Nat) (hN : X.N.Nodup) (hi : Gd X iter σ H (.list ds)) (ok : BlkOk X.N X.env.scope scope [(x, jj)]) (hl : fs.length = ds.length) (hz : fs.length ≤ 100000) (hn : nls fs = true)
    (he : ∀ (i : Nat) (d f : PyData) (v : V) (H1 : Hp), ds[i]? = some d → fs[i]? = some f → Ex H H1 → Dq X.K H1 v d → ∀ s H0 C cl fp, Gd (X.blk s H0 scope (compEnvC scope cl C X.env) fp) elt ((wipe σ [jj]).set jj (some v)) H1 f)
    (hj : X.N[jj]? = some x := by rfl)
    (hg : ∀ (s : Shared) (H0 : Hp) (C : Addr) (cl : List (Str × Addr)) (fp : List Addr), PG (X.blk s H0 scope (compEnvC scope cl C X.env) fp) (.Name x px) (gName jj))
    (hc : X.calm = true := by rfl) (hs : ∀ x, foldedSetIterable iter X.env x = pure x := by intro _; rfl) : Gd X (.ListComp elt [⟨.Name x px, iter, [], 0⟩] scope pos) σ H (.list fs) :=
  gv_of (pe_lc (own := [(x, jj)]) (tt := tYes) hc hN (pi_list cE_pe) ok hg (fun _ _ _ _ _ => pts_nil) (fun s H0 C cl fp => cB_pe s H0 C cl fp) hs) fun H1 x1 Q q => (hi).go H1 x1 _ fun v H2 y r => by
    obtain ⟨a, xs, rfl, h1, h2⟩ := dp_lst r
    refine ⟨a, rfl, ⟨xs, h1⟩, fun D hD => lc_list (xs := xs) (Lcw X.K H2 D fs) ⟨hD, Ex.new hD, [], upd_same, .nil⟩ (fun i H' _ p => ex_l p.2.1 h1) (fun i u H' hu p => ?_) fun H' p => ?_⟩
    · obtain ⟨d, hd, rd⟩ := dpa_get' h2 hu
      have li : i < fs.length := by rw [hl]; exact (List.getElem?_eq_some_iff.mp hd).1
      refine ⟨wipe1 σ jj _, ?_⟩
      refine lcw_turn (te := cB X scope elt) p (List.getElem?_eq_getElem li) hz hn fun Q' q' s H0 C cl fp => ?_
      exact (he i d _ u H' hd (List.getElem?_eq_getElem li) (x1.trans (y.trans p.2.1)) (dp_mono p.2.1 rd) s H0 C cl fp).go H' (Ex.refl H') Q' q'
    · obtain ⟨p1, p2, vs, p3, p4⟩ := p
      rw [dpa_len h2, ← hl, List.take_length] at p4
      exact q _ H' (y.trans p2) (.lst (SqL.of p3) p4)
theorem x_lcT (jj : Nat) (hN : X.N.Nodup) (hi : Gd X iter σ H (.tuple ds)) (ok : BlkOk X.N X.env.scope scope [(x, jj)]) (hl : fs.length = ds.length) (hz : fs.length ≤ 100000) (hn : nls fs = true)
    (he : ∀ (i : Nat) (d f : PyData) (v : V) (H1 : Hp), ds[i]? = some d → fs[i]? = some f → Ex H H1 → Dq X.K H1 v d → ∀ s H0 C cl fp, Gd (X.blk s H0 scope (compEnvC scope cl C X.env) fp) elt ((wipe σ [jj]).set jj (some v)) H1 f)
    (hj : X.N[jj]? = some x := by rfl)
    (hg : ∀ (s : Shared) (H0 : Hp) (C : Addr) (cl : List (Str × Addr)) (fp : List Addr), PG (X.blk s H0 scope (compEnvC scope cl C X.env) fp) (.Name x px) (gName jj))
    (hc : X.calm = true := by rfl) (hs : ∀ x, foldedSetIterable iter X.env x = pure x := by intro _; rfl) : Gd X (.ListComp elt [⟨.Name x px, iter, [], 0⟩] scope pos) σ H (.list fs) :=
  gv_of (pe_lc (own := [(x, jj)]) (tt := tYes) hc hN (pi_tup cE_pe) ok hg (fun _ _ _ _ _ => pts_nil) (fun s H0 C cl fp => cB_pe s H0 C cl fp) hs) fun H1 x1 Q q => (hi).go H1 x1 _ fun v H2 y r => by
    obtain ⟨a, xs, rfl, h1, h2⟩ := dp_tup r
    refine ⟨a, rfl, ⟨xs, h1⟩, fun D hD => lc_tup (xs := xs) (Lcw X.K H2 D fs) ⟨hD, Ex.new hD, [], upd_same, .nil⟩ (fun i H' _ p => ex_t p.2.1 h1) (fun i u H' hu p => ?_) fun H' p => ?_⟩
    · obtain ⟨d, hd, rd⟩ := dpa_get' h2 hu
      have li : i < fs.length := by rw [hl]; exact (List.getElem?_eq_some_iff.mp hd).1
      refine ⟨wipe1 σ jj _, ?_⟩
      refine lcw_turn (te := cB X scope elt) p (List.getElem?_eq_getElem li) hz hn fun Q' q' s H0 C cl fp => ?_
      exact (he i d _ u H' hd (List.getElem?_eq_getElem li) (x1.trans (y.trans p.2.1)) (dp_mono p.2.1 rd) s H0 C cl fp).go H' (Ex.refl H') Q' q'
    · obtain ⟨p1, p2, vs, p3, p4⟩ := p
      rw [dpa_len h2, ← hl, List.take_length] at p4
      exact q _ H' (y.trans p2) (.lst (SqL.of p3) p4)
end
end
end Lw

namespace Lw
open PySem PySem.Spec PyProof.Rows L2 Evl

/-- a def of the top as it stands -/
structure Th (K : PySem.W.Frag) (mg : Str → Option Value) (nm : Str) (st : Stmt) (ps : List Str) : Prop where
  ex : ∃ f fd, mg nm = some (.ref f) ∧ Fun K nm nm st f fd ∧ Binds K fd ps []
/-- built-in names that the top leaves as they are -/
structure Bu (mg : Str → Option Value) : Prop where
  isinstance : mg "isinstance" = none
  int : mg "int" = none
  bool : mg "bool" = none
  tuple : mg "tuple" = none
  list : mg "list" = none
  len : mg "len" = none
  all : mg "all" = none
  any : mg "any" = none
  sum : mg "sum" = none
  min : mg "min" = none
  max : mg "max" = none
  abs : mg "abs" = none
  zip : mg "zip" = none
  range : mg "range" = none
theorem of_dec {p : Prop} [Decidable p] (h : decide p = true) : p := of_decide_eq_true h
theorem of_ndec {p : Prop} [Decidable p] (h : decide p = false) : ¬ p := of_decide_eq_false h
def isInt : PyData → Bool
  | .int _ => true
  | _ => false
theorem ki1 : kitB "NoneType" "int" = some false := by decide +kernel
theorem ki2 : kitB "bool" "int" = some true := by decide +kernel
theorem ki3 : kitB "int" "int" = some true := by decide +kernel
theorem ki4 : kitB "str" "int" = some false := by decide +kernel
theorem ki5 : kitB "list" "int" = some false := by decide +kernel
theorem ki6 : kitB "tuple" "int" = some false := by decide +kernel
theorem ki7 : kitB "dict" "int" = some false := by decide +kernel
theorem kb1 : kitB "NoneType" "bool" = some false := by decide +kernel
theorem kb2 : kitB "bool" "bool" = some true := by decide +kernel
theorem kb3 : kitB "int" "bool" = some false := by decide +kernel
theorem kb4 : kitB "str" "bool" = some false := by decide +kernel
theorem kb5 : kitB "list" "bool" = some false := by decide +kernel
theorem kb6 : kitB "tuple" "bool" = some false := by decide +kernel
theorem kb7 : kitB "dict" "bool" = some false := by decide +kernel
theorem kt1 : kitB "NoneType" "tuple" = some false := by decide +kernel
theorem kt2 : kitB "bool" "tuple" = some false := by decide +kernel
theorem kt3 : kitB "int" "tuple" = some false := by decide +kernel
theorem kt4 : kitB "str" "tuple" = some false := by decide +kernel
theorem kt5 : kitB "list" "tuple" = some false := by decide +kernel
theorem kt6 : kitB "tuple" "tuple" = some true := by decide +kernel
theorem kt7 : kitB "dict" "tuple" = some false := by decide +kernel
theorem kl1 : kitB "NoneType" "list" = some false := by decide +kernel
theorem kl2 : kitB "bool" "list" = some false := by decide +kernel
theorem kl3 : kitB "int" "list" = some false := by decide +kernel
theorem kl4 : kitB "str" "list" = some false := by decide +kernel
theorem kl5 : kitB "list" "list" = some true := by decide +kernel
theorem kl6 : kitB "tuple" "list" = some false := by decide +kernel
theorem kl7 : kitB "dict" "list" = some false := by decide +kernel
theorem isInt_is (d : PyData) : ∃ b1 b2, kitB (tyD d) "int" = some b1 ∧ kitB (tyD d) "bool" = some b2 ∧ (b1 && !b2) = isInt d := by
  cases d
  · exact ⟨false, false, ki1, kb1, rfl⟩
  · exact ⟨true, true, ki2, kb2, rfl⟩
  · exact ⟨true, false, ki3, kb3, rfl⟩
  · exact ⟨false, false, ki4, kb4, rfl⟩
  · exact ⟨false, false, ki5, kb5, rfl⟩
  · exact ⟨false, false, ki6, kb6, rfl⟩
  · exact ⟨false, false, ki7, kb7, rfl⟩
def isTup : PyData → Bool
  | .tuple _ => true
  | _ => false
theorem isTup_is (d : PyData) : kitB (tyD d) "tuple" = some (isTup d) := by
  cases d
  · exact kt1
  · exact kt2
  · exact kt3
  · exact kt4
  · exact kt5
  · exact kt6
  · exact kt7
def isLst : PyData → Bool
  | .list _ => true
  | _ => false
theorem isLst_is (d : PyData) : kitB (tyD d) "list" = some (isLst d) := by
  cases d
  · exact kl1
  · exact kl2
  · exact kl3
  · exact kl4
  · exact kl5
  · exact kl6
  · exact kl7
def isAmt : PyData → Bool
  | .int i => decide (0 ≤ i)
  | _ => false
def pr (x y : Int) : PyData := .tuple [.int x, .int y]
def lsI (l : List Int) : PyData := .list (l.map .int)

section
variable {X : Cx} {a : Expr} {σ : L2.St} {H : Hp} {d : PyData} {pos p q : Pos} {c : Bool}
theorem x_isiInt (ha : Gd X a σ H d) (hk : kitB (tyD d) "int" = some c) (hT : X.mg "int" = none) (hm : X.mg "isinstance" = none) (hgT : L2.Gl X "int" := by rfl) (hg : L2.Gl X "isinstance" := by rfl)
    (hs : starEach [a, .Name "int" q] X.env = (false, eval a X.env) :: starEach [.Name "int" q] X.env := by rfl) (hs2 : starEach [.Name "int" q] X.env = (false, eval (.Name "int" q) X.env) :: starEach [] X.env := by rfl) (hpl : (backTo pos (starEach [.Name "int" q] X.env)).any (·.1) = false := by rfl) :
    Gd X (.Call (.Name "isinstance" p) [a, .Name "int" q] [] pos) σ H (.bool c) := x_isi (T := "int") (Tn := "int") ha hT hm (by decide +kernel) hk hgT (by decide) (by decide) hg hs hs2 hpl
theorem x_isiBool (ha : Gd X a σ H d) (hk : kitB (tyD d) "bool" = some c) (hT : X.mg "bool" = none) (hm : X.mg "isinstance" = none) (hgT : L2.Gl X "bool" := by rfl) (hg : L2.Gl X "isinstance" := by rfl)
    (hs : starEach [a, .Name "bool" q] X.env = (false, eval a X.env) :: starEach [.Name "bool" q] X.env := by rfl) (hs2 : starEach [.Name "bool" q] X.env = (false, eval (.Name "bool" q) X.env) :: starEach [] X.env := by rfl) (hpl : (backTo pos (starEach [.Name "bool" q] X.env)).any (·.1) = false := by rfl) :
    Gd X (.Call (.Name "isinstance" p) [a, .Name "bool" q] [] pos) σ H (.bool c) := x_isi (T := "bool") (Tn := "bool") ha hT hm (by decide +kernel) hk hgT (by decide) (by decide) hg hs hs2 hpl
theorem x_isiTup (ha : Gd X a σ H d) (hk : kitB (tyD d) "tuple" = some c) (hT : X.mg "tuple" = none) (hm : X.mg "isinstance" = none) (hgT : L2.Gl X "tuple" := by rfl) (hg : L2.Gl X "isinstance" := by rfl)
    (hs : starEach [a, .Name "tuple" q] X.env = (false, eval a X.env) :: starEach [.Name "tuple" q] X.env := by rfl) (hs2 : starEach [.Name "tuple" q] X.env = (false, eval (.Name "tuple" q) X.env) :: starEach [] X.env := by rfl) (hpl : (backTo pos (starEach [.Name "tuple" q] X.env)).any (·.1) = false := by rfl) :
    Gd X (.Call (.Name "isinstance" p) [a, .Name "tuple" q] [] pos) σ H (.bool c) := x_isi (T := "tuple") (Tn := "tuple") ha hT hm (by decide +kernel) hk hgT (by decide) (by decide) hg hs hs2 hpl
theorem x_isiLst (ha : Gd X a σ H d) (hk : kitB (tyD d) "list" = some c) (hT : X.mg "list" = none) (hm : X.mg "isinstance" = none) (hgT : L2.Gl X "list" := by rfl) (hg : L2.Gl X "isinstance" := by rfl)
    (hs : starEach [a, .Name "list" q] X.env = (false, eval a X.env) :: starEach [.Name "list" q] X.env := by rfl) (hs2 : starEach [.Name "list" q] X.env = (false, eval (.Name "list" q) X.env) :: starEach [] X.env := by rfl) (hpl : (backTo pos (starEach [.Name "list" q] X.env)).any (·.1) = false := by rfl) :
    Gd X (.Call (.Name "isinstance" p) [a, .Name "list" q] [] pos) σ H (.bool c) := x_isi (T := "list") (Tn := "list") ha hT hm (by decide +kernel) hk hgT (by decide) (by decide) hg hs hs2 hpl
end
/-- the names by their slots -/
def Names (X : Cx) : List Str → Nat → Prop
  | [], _ => True
  | x :: r, i => X.N[i]? = some x ∧ Names X r (i + 1)
theorem names_of {X : Cx} : ∀ (l k : List Str), X.N = k ++ l → Names X l k.length
  | [], _, _ => True.intro
  | x :: r, k, h => by
    refine ⟨by rw [h, List.getElem?_append_right (Nat.le_refl _), Nat.sub_self] <;> rfl, ?_⟩
    have z := names_of r (k ++ [x]) (by rw [h, List.append_assoc] <;> rfl)
    rw [List.length_append] at z
    exact z
section
variable {P : Program} {w : World} {K : PySem.W.Frag} {mg : Str → Option Value} {base : Heap}
theorem Df.goR {nm : Str} {st : Stmt} {N ps : List Str} {sp : Sp} (k : Nat) (T : Th K mg nm st ps) (S : FnScope N ps (defScope st)) (len : ∀ vs H Q E, sp vs H Q E → vs.length = ps.length)
    (body : ∀ f cdv A outer s H0 E, Room k (cxB P w K mg base N nm (defScope st) f cdv A outer s H0 E).A → Names (cxB P w K mg base N nm (defScope st) f cdv A outer s H0 E) N 0 → (cxB P w K mg base N nm (defScope st) f cdv A outer s H0 E).N.Nodup → ∀ vs H (Q : VK), sp vs H Q E → H = H0 →
      cSs (cxB P w K mg base N nm (defScope st) f cdv A outer s H0 E) (defBody st) { nx := fun _ H' => Q .non H', rt := Q } (start N vs) H) : Df P w K mg base CX0 nm (k + 1) ps sp := by
  obtain ⟨f, fd, hm, Fu, hb⟩ := T.ex
  exact Df.mkR k Fu hm hb S len fun cdv A outer s H0 E hr => body f cdv A outer s H0 E hr (names_of N [] rfl) S.nd
theorem Df.go {nm : Str} {st : Stmt} {N ps : List Str} {F : List PyData → PyData → Prop} (k : Nat) (T : Th K mg nm st ps) (S : FnScope N ps (defScope st)) (len : ∀ ds d, F ds d → ds.length = ps.length)
    (body : ∀ f cdv A outer s H0 E, Room k (cxB P w K mg base N nm (defScope st) f cdv A outer s H0 E).A → Names (cxB P w K mg base N nm (defScope st) f cdv A outer s H0 E) N 0 → (cxB P w K mg base N nm (defScope st) f cdv A outer s H0 E).N.Nodup → ∀ ds d vs H (Q : VK), F ds d → DqAll K H vs ds → (∀ v H2, Ex H H2 → Dq K H2 v d → Q v H2) →
      cSs (cxB P w K mg base N nm (defScope st) f cdv A outer s H0 E) (defBody st) { nx := fun _ H' => Q .non H', rt := Q } (start N vs) H) : Df P w K mg base CX0 nm (k + 1) ps (spD K F) :=
  Df.goR k T S (fun vs H Q E ⟨ds, d, h1, h2, _⟩ => (dpa_len h1).trans (len ds d h2)) fun f cdv A outer s H0 E hr hn nd vs H Q ⟨ds, d, h1, h2, h3⟩ _ => body f cdv A outer s H0 E hr hn nd ds d vs H Q h2 h1 h3
end
/-! ### what is a place, a leap, counts -/
def isPl : PyData → Bool
  | .tuple [p, q] => isInt p && isInt q
  | _ => false
theorem isPl_pair {x : PyData} (h : isPl x = true) : ∃ i j, x = .tuple [.int i, .int j] := by
  unfold isPl at h
  split at h
  · rename_i p q
    rw [Bool.and_eq_true] at h
    cases p with
    | int i =>
      cases q with
      | int j => exact ⟨i, j, rfl⟩
      | _ => exact absurd h.2 Bool.false_ne_true
    | _ => exact absurd h.1 Bool.false_ne_true
  · cases h
def isLp : PyData → Bool
  | .tuple [.int i, .int j] => decide (0 ≤ if j < i then j else i) && decide (0 < if j > i then j else i)
  | _ => false
theorem isLp_of {x : PyData} (h : isPl x = false) : isLp x = false := by
  unfold isLp
  split
  · cases h
  · rfl
theorem isLp_ok {a b : Int} (ha : 0 ≤ a) (hb : 0 ≤ b) (h : 0 < a ∨ 0 < b) : isLp (pr a b) = true := by
  show (decide _ && decide _) = true
  rw [Bool.and_eq_true]
  exact ⟨decide_eq_true (by split <;> omega), decide_eq_true (by split <;> omega)⟩
theorem isLp_is {a b : Int} (h : isLp (pr a b) = true) : 0 ≤ a ∧ 0 ≤ b ∧ (0 < a ∨ 0 < b) := by
  have h' : (decide (0 ≤ if b < a then b else a) && decide (0 < if b > a then b else a)) = true := h
  rw [Bool.and_eq_true] at h'
  have h1 := of_decide_eq_true h'.1
  have h2 := of_decide_eq_true h'.2
  split at h1 <;> split at h2 <;> omega
def isCt : PyData → Bool
  | .list es => decide (es.length = 8) && (es.map isAmt).all id
  | _ => false
def lenOk : PyData → Prop
  | .list es => es.length ≤ 100000
  | .tuple es => es.length ≤ 100000
  | _ => True
end Lw

namespace Lw
open PySem PySem.Spec PyProof.Rows L2 Evl
section
variable {X : Cx} {e a b c : Expr} {es : List Expr} {rest body orelse : List Stmt} {σ : L2.St} {H H' : Hp} {d : PyData} {ds : List PyData} {pos p' kp px py pz pu pt : Pos} {kt : Nat} {D : Ends} {x y z u : Str} {n m l o : Int}
abbrev Ld (X : Cx) (x : Str) : Prop := Loc X.env.scope x
abbrev Lf (X : Cx) (x : Str) : Prop := X.fn x = true ∨ X.env.scope.names.lookup x = some .local
theorem g_unp2I (i j : Nat) (hN : X.N.Nodup) (hi : X.N[i]? = some x) (hj : X.N[j]? = some y) (he : Gd X e σ H (.tuple [.int n, .int m])) (k : ∀ H1, Ex H H1 → cSs X rest D ((σ.set i (some (.int n))).set j (some (.int m))) H1)
    (h1 : Ld X x := by first | exact Or.inl rfl | exact Or.inr rfl) (h2 : Ld X y := by first | exact Or.inl rfl | exact Or.inr rfl) (f1 : Lf X x := by first | exact .inl rfl | exact .inr rfl) (f2 : Lf X y := by first | exact .inl rfl | exact .inr rfl) (hc : X.calm = true := by rfl)
    (hs : swapsWithSole [.Tuple [.Name x px, .Name y py] kt pt] e pos.line X.env = pure false := by rfl) (hw : swappedStores [.Tuple [.Name x px, .Name y py] kt pt] e X.env = pure none := by rfl) :
    cSs X (.Assign [.Tuple [.Name x px, .Name y py] kt pt] e pos :: rest) D σ H :=
  g_asg (pg_tup hc (pgs_cons (pg_name hN hi h1 f1) (pgs_cons (pg_name hN hj h2 f2) pgs_nil))) he (fun v H1 q r => gtup_of r rfl fun vs rs => by
    have e1 := dpa_ints [n, m] rs
    exact ⟨.int n, [.int m], e1, .int m, [], rfl, rfl, k H1 q⟩) hs hw
theorem g_unp3I (i j s : Nat) (hN : X.N.Nodup) (hi : X.N[i]? = some x) (hj : X.N[j]? = some y) (hk : X.N[s]? = some z) (he : Gd X e σ H (.tuple [.int n, .int m, .int l])) (k : ∀ H1, Ex H H1 → cSs X rest D (((σ.set i (some (.int n))).set j (some (.int m))).set s (some (.int l))) H1)
    (h1 : Ld X x := by first | exact Or.inl rfl | exact Or.inr rfl) (h2 : Ld X y := by first | exact Or.inl rfl | exact Or.inr rfl) (h3 : Ld X z := by first | exact Or.inl rfl | exact Or.inr rfl) (f1 : Lf X x := by first | exact .inl rfl | exact .inr rfl) (f2 : Lf X y := by first | exact .inl rfl | exact .inr rfl) (f3 : Lf X z := by first | exact .inl rfl | exact .inr rfl) (hc : X.calm = true := by rfl)
    (hs : swapsWithSole [.Tuple [.Name x px, .Name y py, .Name z pz] kt pt] e pos.line X.env = pure false := by rfl) (hw : swappedStores [.Tuple [.Name x px, .Name y py, .Name z pz] kt pt] e X.env = pure none := by rfl) :
    cSs X (.Assign [.Tuple [.Name x px, .Name y py, .Name z pz] kt pt] e pos :: rest) D σ H :=
  g_asg (pg_tup hc (pgs_cons (pg_name hN hi h1 f1) (pgs_cons (pg_name hN hj h2 f2) (pgs_cons (pg_name hN hk h3 f3) pgs_nil)))) he (fun v H1 q r => gtup_of r rfl fun vs rs => by
    have e1 := dpa_ints [n, m, l] rs
    exact ⟨.int n, [.int m, .int l], e1, .int m, [.int l], rfl, .int l, [], rfl, rfl, k H1 q⟩) hs hw
theorem g_unp4I (i j s t : Nat) (hN : X.N.Nodup) (hi : X.N[i]? = some x) (hj : X.N[j]? = some y) (hk : X.N[s]? = some z) (hl : X.N[t]? = some u) (he : Gd X e σ H (.tuple [.int n, .int m, .int l, .int o])) (k : ∀ H1, Ex H H1 → cSs X rest D ((((σ.set i (some (.int n))).set j (some (.int m))).set s (some (.int l))).set t (some (.int o))) H1)
    (h1 : Ld X x := by first | exact Or.inl rfl | exact Or.inr rfl) (h2 : Ld X y := by first | exact Or.inl rfl | exact Or.inr rfl) (h3 : Ld X z := by first | exact Or.inl rfl | exact Or.inr rfl) (h4 : Ld X u := by first | exact Or.inl rfl | exact Or.inr rfl) (f1 : Lf X x := by first | exact .inl rfl | exact .inr rfl) (f2 : Lf X y := by first | exact .inl rfl | exact .inr rfl) (f3 : Lf X z := by first | exact .inl rfl | exact .inr rfl) (f4 : Lf X u := by first | exact .inl rfl | exact .inr rfl) (hc : X.calm = true := by rfl)
    (hs : swapsWithSole [.Tuple [.Name x px, .Name y py, .Name z pz, .Name u pu] kt pt] e pos.line X.env = pure false := by rfl) (hw : swappedStores [.Tuple [.Name x px, .Name y py, .Name z pz, .Name u pu] kt pt] e X.env = pure none := by rfl) :
    cSs X (.Assign [.Tuple [.Name x px, .Name y py, .Name z pz, .Name u pu] kt pt] e pos :: rest) D σ H :=
  g_asg (pg_tup hc (pgs_cons (pg_name hN hi h1 f1) (pgs_cons (pg_name hN hj h2 f2) (pgs_cons (pg_name hN hk h3 f3) (pgs_cons (pg_name hN hl h4 f4) pgs_nil))))) he (fun v H1 q r => gtup_of r rfl fun vs rs => by
    have e1 := dpa_ints [n, m, l, o] rs
    exact ⟨.int n, [.int m, .int l, .int o], e1, .int m, [.int l, .int o], rfl, .int l, [.int o], rfl, .int o, [], rfl, rfl, k H1 q⟩) hs hw
/-- while, by a word and a measure; the test's truth b -/
theorem g_while {t : Nat → L2.St → Hp → Bool} (W : Nat → L2.St → Hp → Prop) (m0 : Nat) (h0 : W m0 σ H) (hp : PassesOwn (model X.prog X.w) X.A X.env X.xe)
    (hc : ∀ m σ' H', W m σ' H' → Gt X c σ' H' (t m σ' H'))
    (h1 : ∀ m σ' H', W m σ' H' → t m σ' H' = true → ∀ H1, Ex H' H1 → cSs X body { D with nx := fun σ2 H2 => ∃ m', m' < m ∧ W m' σ2 H2, ct := fun σ2 H2 => ∃ m', m' < m ∧ W m' σ2 H2, bk := cSs X rest D } σ' H1)
    (h2 : ∀ m σ' H', W m σ' H' → t m σ' H' = false → ∀ H1, Ex H' H1 → cSs X rest D σ' H1) : cSs X (.While c body [] pos :: rest) D σ H :=
  g_st (ps_while hp cT_pt cSs_ps) ⟨W, ⟨m0, h0⟩, fun m σ' H' hw => (hc m σ' H' hw).go H' (Ex.refl H') _ fun H1 x => by
    cases q : t m σ' H' with
    | true => exact ⟨_, fun _ _ z => z, h1 m σ' H' hw q H1 x⟩
    | false => exact h2 m σ' H' hw q H1 x⟩
end

/-! ### sizes -/
/-- below 2 ^ n -/
def Bd (n : Nat) (i : Int) : Prop := i.natAbs < 2 ^ n
theorem Bd.log {n : Nat} {i : Int} (h : Bd n i) (h0 : 0 < n) : i.natAbs.log2 < n := PySem.Flt.log2_lt_of h0 h
theorem Bd.mono {n m : Nat} {i : Int} (h : Bd n i) (hm : n ≤ m) : Bd m i := Nat.lt_of_lt_of_le h (Nat.pow_le_pow_right (by decide) hm)
theorem Bd.mok {n m : Nat} {i j : Int} (hi : Bd n i) (hj : Bd m j) (h0 : 0 < n) (h1 : 0 < m) (h : n + m ≤ 130000000) : MOk i j := by
  have a := hi.log h0
  have b := hj.log h1
  show _ < _
  omega
theorem Bd.mul {n m : Nat} {i j : Int} (hi : Bd n i) (hj : Bd m j) : Bd (n + m) (i * j) := wide_lt hi hj
theorem Bd.add {n : Nat} {i j : Int} (hi : Bd n i) (hj : Bd n j) : Bd (n + 1) (i + j) := by
  have a : i.natAbs < 2 ^ n := hi
  have b : j.natAbs < 2 ^ n := hj
  show (i + j).natAbs < 2 ^ (n + 1)
  rw [Nat.pow_succ]
  omega
theorem Bd.neg {n : Nat} {i : Int} (hi : Bd n i) : Bd n (-i) := by
  show (-i).natAbs < _
  rw [Int.natAbs_neg]
  exact hi
theorem Bd.sub {n : Nat} {i j : Int} (hi : Bd n i) (hj : Bd n j) : Bd (n + 1) (i - j) := by
  rw [Int.sub_eq_add_neg]
  exact hi.add hj.neg
theorem Bd.div {n : Nat} {i j : Int} (hi : Bd n i) : Bd n (i / j) := by
  show (i / j).natAbs < _
  exact Nat.lt_of_le_of_lt (Int.natAbs_ediv_le_natAbs i j) hi
theorem Bd.le {n : Nat} {i j : Int} (hi : Bd n i) (h : j.natAbs ≤ i.natAbs) : Bd n j := Nat.lt_of_le_of_lt h hi
theorem Bd.cdiv {n : Nat} {i j : Int} (hj : Bd n j) (h0 : 0 < n) (h : n ≤ 9000) (hp : 0 < j) : CDivW i j := ⟨hp, Nat.lt_of_lt_of_le (hj.log h0) h⟩
theorem Bd.of {n : Nat} {i : Int} (h : -(2 ^ n) < i) (h2 : i < 2 ^ n) : Bd n i := by
  show i.natAbs < 2 ^ n
  have e : ((2 ^ n : Nat) : Int) = (2 : Int) ^ n := by push_cast; rfl
  have z : ((i.natAbs : Nat) : Int) < ((2 ^ n : Nat) : Int) := by
    rw [e]
    omega
  exact_mod_cast z
end Lw

namespace Lw
open PySem PySem.Spec PyProof.Rows L2 Evl
section
variable {X : Cx} {e a b c iter tg : Expr} {es : List Expr} {rest body orelse : List Stmt} {σ : L2.St} {H H' : Hp} {d : PyData} {ds ds1 ds2 : List PyData} {pos p' kp px py pz pu pt : Pos} {kt : Nat} {D : Ends} {x y z u : Str} {g : TG} {R : V → Hp → Prop}
theorem g_forE {wi : TI} (hi : PI X tg iter wi) (hg : PG X tg g) (hp : PassesOwn (model X.prog X.w) X.A X.env X.xe) (hc : X.calm = true) (hs : ∀ x, foldedSetIterable iter X.env x = pure x) (h : tFor wi g (cSs X body) { D with nx := cSs X rest D } σ H) : cSs X (.For tg iter body [] pos :: rest) D σ H :=
  g_st (ps_for hp hc hi hg cSs_ps hs) h
/-- a turn's ends: the heap has grown since H', P holds -/
abbrev Tn (D : Ends) (out : L2.St → Hp → Prop) (H' : Hp) (P : L2.St → Hp → Prop) : Ends := { D with nx := fun σ3 H3 => Ex H' H3 ∧ P σ3 H3, ct := fun σ3 H3 => Ex H' H3 ∧ P σ3 H3, bk := out }
theorem g_forL (hg : PG X tg g) (hi : Gd X iter σ H (.list ds)) (P : Nat → L2.St → Hp → Prop) (h0 : ∀ H1, Ex H H1 → P 0 σ H1) (hp : PassesOwn (model X.prog X.w) X.A X.env X.xe)
    (hs : ∀ (i : Nat) (d : PyData) (v : V) (σ' : L2.St) (H' : Hp), ds[i]? = some d → Ex H H' → Dq X.K H' v d → P i σ' H' → g v σ' H' fun σ2 H2 => cSs X body (Tn D (cSs X rest D) H' (P (i + 1))) σ2 H2)
    (hm : ∀ (Q Q' : L2.St → Hp → Prop) v σ' H', (∀ s h, Q s h → Q' s h) → g v σ' H' Q → g v σ' H' Q')
    (hd : ∀ σ' H', Ex H H' → P ds.length σ' H' → cSs X rest D σ' H') (hc : X.calm = true := by rfl) (hf : ∀ x, foldedSetIterable iter X.env x = pure x := by intro _; rfl) : cSs X (.For tg iter body [] pos :: rest) D σ H :=
  g_forE (pi_list cE_pe) hg hp hc hf (hi.go H (Ex.refl H) _ fun v H1 x1 r => by
    obtain ⟨p, xs, rfl, h1, h2⟩ := dp_lst r
    refine ⟨p, rfl, ⟨xs, h1⟩, for_list (xs := xs) (fun i σ' H' => Ex H1 H' ∧ P i σ' H') ⟨Ex.refl H1, h0 H1 x1⟩ (fun i σ' H' _ q => ex_l q.1 h1) (fun i w σ' H' hi q => ?_) fun σ' H' q => ?_⟩
    · obtain ⟨d, hd', rd⟩ := dpa_get' h2 hi
      refine hm _ _ _ _ _ (fun s h q2 => ?_) (hs i d w σ' H' hd' (x1.trans q.1) (dp_mono q.1 rd) q.2)
      refine fun pins st I => wpAny_mono (q2 pins st I) (fun f s' z => ?_) fun _ _ z => z
      cases f with
      | next => obtain ⟨σ3, H3, I3, z1, z2⟩ := z; exact ⟨σ3, H3, I3, q.1.trans z1, z2⟩
      | cont => obtain ⟨σ3, H3, I3, z1, z2⟩ := z; exact ⟨σ3, H3, I3, q.1.trans z1, z2⟩
      | brk => exact z
      | ret _ => exact z
    · refine hd σ' H' (x1.trans q.1) ?_
      rw [← dpa_len h2]
      exact q.2)
theorem m_name {j : Nat} (Q Q' : L2.St → Hp → Prop) (v : V) (σ' : L2.St) (H' : Hp) (k : ∀ s h, Q s h → Q' s h) (h : gName j v σ' H' Q) : gName j v σ' H' Q' := k _ _ h
/-- for x in a list: x in slot j -/
theorem g_forLn (j : Nat) (hN : X.N.Nodup) (hj : X.N[j]? = some x) (hi : Gd X iter σ H (.list ds)) (P : Nat → L2.St → Hp → Prop) (h0 : ∀ H1, Ex H H1 → P 0 σ H1) (hp : PassesOwn (model X.prog X.w) X.A X.env X.xe)
    (hs : ∀ (i : Nat) (d : PyData) (v : V) (σ' : L2.St) (H' : Hp), ds[i]? = some d → Ex H H' → Dq X.K H' v d → P i σ' H' → cSs X body (Tn D (cSs X rest D) H' (P (i + 1))) (σ'.set j (some v)) H')
    (hd : ∀ σ' H', Ex H H' → P ds.length σ' H' → cSs X rest D σ' H') (h1 : Ld X x := by first | exact Or.inl rfl | exact Or.inr rfl) (f1 : Lf X x := by first | exact .inl rfl | exact .inr rfl)
    (hc : X.calm = true := by rfl) (hf : ∀ x, foldedSetIterable iter X.env x = pure x := by intro _; rfl) : cSs X (.For (.Name x px) iter body [] pos :: rest) D σ H :=
  g_forL (pg_name hN hj h1 f1) hi P h0 hp hs m_name hd hc hf
/-- for (..) in zip of two lists of one length -/
theorem g_zip {elts : List Expr} (hg : PG X (.Tuple elts kt pt) g) (ha : Gd X a σ H (.list ds1)) (hb : Gd X b σ H (.list ds2)) (hl : ds1.length = ds2.length) (P : Nat → L2.St → Hp → Prop) (h0 : ∀ H1, Ex H H1 → P 0 σ H1) (hp : PassesOwn (model X.prog X.w) X.A X.env X.xe) (hz : X.mg "zip" = none)
    (hs : ∀ (i : Nat) (d1 d2 : PyData) (v : V) (σ' : L2.St) (H' : Hp), ds1[i]? = some d1 → ds2[i]? = some d2 → Ex H H' → Dq X.K H' v (.tuple [d1, d2]) → P i σ' H' → g v σ' H' fun σ2 H2 => cSs X body (Tn D (cSs X rest D) H' (P (i + 1))) σ2 H2)
    (hst : ∀ i σ' H1 H2, Ex H1 H2 → P i σ' H1 → P i σ' H2)
    (hm : ∀ (Q Q' : L2.St → Hp → Prop) v σ' H', (∀ s h, Q s h → Q' s h) → g v σ' H' Q → g v σ' H' Q')
    (hd : ∀ σ' H', Ex H H' → P ds1.length σ' H' → cSs X rest D σ' H') (hc : X.calm = true := by rfl) (hgz : L2.Gl X "zip" := by rfl)
    (s1 : starEach [a, b] X.env = (false, eval a X.env) :: starEach [b] X.env := by rfl) (s2 : starEach [b] X.env = (false, eval b X.env) :: starEach [] X.env := by rfl) (hpl : (backTo p' (starEach [b] X.env)).any (·.1) = false := by rfl)
    (hf : ∀ x, foldedSetIterable (.Call (.Name "zip" px) [a, b] [] p') X.env x = pure x := by intro _; rfl) : cSs X (.For (.Tuple elts kt pt) (.Call (.Name "zip" px) [a, b] [] p') body [] pos :: rest) D σ H :=
  g_forE (pi_zip hgz hz cA_pa s1 hpl) hg hp hc hf ((s_cons ha (s_cons hb s_nil s2) s1).go H (Ex.refl H) _ fun vs H1 x1 r => by
    obtain ⟨v1, v2, rfl, r1, r2⟩ := dp2 r
    obtain ⟨p, xs, rfl, h1, h2⟩ := dp_lst r1
    obtain ⟨q, ys, rfl, h3, h4⟩ := dp_lst r2
    refine ⟨p, q, xs, ys, rfl, h1, h3, RZ.for_zipL (xs := xs) (ys := ys) (by rw [dpa_len h2, dpa_len h4]; exact hl) (fun i σ' H' => Ex H1 H' ∧ P i σ' H') ⟨Ex.refl H1, h0 H1 x1⟩ (fun i σ' H' q => ⟨ex_l q.1 h1, ex_l q.1 h3⟩) (fun i v w T σ' H' hi hj q hT => ?_) fun σ' H' q => ?_⟩
    · obtain ⟨d1, hd1, rd1⟩ := dpa_get' h2 hi
      obtain ⟨d2, hd2, rd2⟩ := dpa_get' h4 hj
      have xT : Ex H' (upd H' T (.tup [v, w])) := Ex.new hT
      refine hm _ _ _ _ _ (fun s h q2 => ?_) (hs i d1 d2 (.ref T) σ' _ hd1 hd2 ((x1.trans q.1).trans xT) (.tup (SqT.of upd_same) (.cons (dp_mono (q.1.trans xT) rd1) (.cons (dp_mono (q.1.trans xT) rd2) .nil))) (hst _ _ _ _ xT q.2))
      refine fun pins st I => wpAny_mono (q2 pins st I) (fun f s' z => ?_) fun _ _ z => z
      cases f with
      | next => obtain ⟨σ3, H3, I3, z1, z2⟩ := z; exact ⟨σ3, H3, I3, (q.1.trans xT).trans z1, z2⟩
      | cont => obtain ⟨σ3, H3, I3, z1, z2⟩ := z; exact ⟨σ3, H3, I3, (q.1.trans xT).trans z1, z2⟩
      | brk => exact z
      | ret _ => exact z
    · refine hd σ' H' (x1.trans q.1) ?_
      rw [← dpa_len h2]
      exact q.2)
/-- the target x, (y, z) of ints -/
theorem g_tgt3 {i j l : Nat} {v : V} {n m o : Int} {K : PySem.W.Frag} {Q : L2.St → Hp → Prop} (h : Dq K H v (.tuple [.int n, .tuple [.int m, .int o]])) (k : Q (((σ.set i (some (.int n))).set j (some (.int m))).set l (some (.int o))) H) :
    gTup K 2 (gCons (gName i) (gCons (gTup K 2 (gCons (gName j) (gCons (gName l) gNil))) gNil)) v σ H Q :=
  gtup_of h rfl fun vs rs => by
    obtain ⟨v1, v2, rfl, r1, r2⟩ := dp2 rs
    rw [dp_int r1]
    refine ⟨_, _, rfl, v2, [], rfl, gtup_of r2 rfl fun ws rw => ?_⟩
    obtain ⟨w1, w2, rfl, q1, q2⟩ := dp2 rw
    rw [dp_int q1, dp_int q2]
    exact ⟨_, _, rfl, _, _, rfl, rfl, rfl, k⟩
theorem m_tgt3 {K : PySem.W.Frag} {i j l : Nat} (Q Q' : L2.St → Hp → Prop) (v : V) (σ' : L2.St) (H' : Hp) (k : ∀ s h, Q s h → Q' s h) (h : gTup K 2 (gCons (gName i) (gCons (gTup K 2 (gCons (gName j) (gCons (gName l) gNil))) gNil)) v σ' H' Q) :
    gTup K 2 (gCons (gName i) (gCons (gTup K 2 (gCons (gName j) (gCons (gName l) gNil))) gNil)) v σ' H' Q' := by
  obtain ⟨a, xs, e1, hs, hl, v1, r1, e2, v2, r2, e3, b, ys, e4, hs2, hl2, w1, t1, e5, w2, t2, e6, e7, e8, q2⟩ := h
  exact ⟨a, xs, e1, hs, hl, v1, r1, e2, v2, r2, e3, b, ys, e4, hs2, hl2, w1, t1, e5, w2, t2, e6, e7, e8, k _ _ q2⟩
/-- the target x, y of any data -/
theorem g_tgt2 {i j : Nat} {v : V} {d1 d2 : PyData} {K : PySem.W.Frag} {Q : L2.St → Hp → Prop} (h : Dq K H v (.tuple [d1, d2])) (k : ∀ v1 v2, Dq K H v1 d1 → Dq K H v2 d2 → Q ((σ.set i (some v1)).set j (some v2)) H) :
    gTup K 2 (gCons (gName i) (gCons (gName j) gNil)) v σ H Q :=
  gtup_of h rfl fun vs rs => by
    obtain ⟨v1, v2, rfl, r1, r2⟩ := dp2 rs
    exact ⟨_, _, rfl, _, _, rfl, rfl, k v1 v2 r1 r2⟩
theorem m_tgt2 {K : PySem.W.Frag} {i j : Nat} (Q Q' : L2.St → Hp → Prop) (v : V) (σ' : L2.St) (H' : Hp) (k : ∀ s h, Q s h → Q' s h) (h : gTup K 2 (gCons (gName i) (gCons (gName j) gNil)) v σ' H' Q) : gTup K 2 (gCons (gName i) (gCons (gName j) gNil)) v σ' H' Q' := by
  obtain ⟨a, xs, e1, hs, hl, v1, r1, e2, v2, r2, e3, e4, q⟩ := h
  exact ⟨a, xs, e1, hs, hl, v1, r1, e2, v2, r2, e3, e4, k _ _ q⟩
end
end Lw

namespace Lw
open PySem PySem.Spec PyProof.Rows L2 Evl
/-! ### the program, mirrored -/
def eightL (a b : Int) : List (Int × Int) := [(a, b), (a, -b), (-a, b), (-a, -b), (b, a), (b, -a), (-b, a), (-b, -a)]
def prs (l : List (Int × Int)) : PyData := .list (l.map fun p => pr p.1 p.2)
def ledL : List Int → List (Int × Int) → Int × Int
  | c :: cs, p :: ps => let r := ledL cs ps; (c * p.1 + r.1, c * p.2 + r.2)
  | _, _ => (0, 0)
def led (a b : Int) (cs : List Int) : Int × Int := ledL cs (eightL a b)
theorem ledL_snoc : ∀ (cs : List Int) (ps : List (Int × Int)) (i : Nat) (c : Int) (p : Int × Int), cs[i]? = some c → ps[i]? = some p →
    ledL (cs.take (i + 1)) (ps.take (i + 1)) = ((ledL (cs.take i) (ps.take i)).1 + c * p.1, (ledL (cs.take i) (ps.take i)).2 + c * p.2)
  | [], _, _, _, _, h, _ => by simp at h
  | _ :: _, [], _, _, _, _, h => by simp at h
  | d :: cs, q :: ps, 0, c, p, h1, h2 => by
    have e1 := Option.some.inj h1
    have e2 := Option.some.inj h2
    subst e1 e2
    show (d * q.1 + (0 : Int), d * q.2 + (0 : Int)) = ((0 : Int) + d * q.1, (0 : Int) + d * q.2)
    rw [Int.add_zero, Int.add_zero, Int.zero_add, Int.zero_add]
  | d :: cs, q :: ps, i + 1, c, p, h1, h2 => by
    have ih := ledL_snoc cs ps i c p h1 h2
    show (d * q.1 + (ledL (cs.take (i + 1)) (ps.take (i + 1))).1, d * q.2 + (ledL (cs.take (i + 1)) (ps.take (i + 1))).2) = ((d * q.1 + (ledL (cs.take i) (ps.take i)).1) + c * p.1, (d * q.2 + (ledL (cs.take i) (ps.take i)).2) + c * p.2)
    rw [ih, Int.add_assoc, Int.add_assoc]
/-- counts of at most so many bits -/
def CtOk (n : Nat) (cs : List Int) : Prop := cs.length = 8 ∧ ∀ c ∈ cs, 0 ≤ c ∧ Bd n c
theorem isCt_ok {n : Nat} {cs : List Int} (h : CtOk n cs) : isCt (lsI cs) = true := by
  show (decide ((cs.map PyData.int).length = 8) && ((cs.map PyData.int).map isAmt).all id) = true
  rw [List.length_map, h.1, List.map_map, List.all_map, Bool.and_eq_true]
  refine ⟨rfl, List.all_eq_true.mpr fun c hc => ?_⟩
  exact decide_eq_true (h.2 c hc).1
theorem eightL_bd {n : Nat} {a b : Int} (ha : Bd n a) (hb : Bd n b) : ∀ p ∈ eightL a b, Bd n p.1 ∧ Bd n p.2 := fun p hp => by
  simp only [eightL, List.mem_cons, List.not_mem_nil, or_false] at hp
  rcases hp with rfl | rfl | rfl | rfl | rfl | rfl | rfl | rfl <;> first | exact ⟨ha, hb⟩ | exact ⟨ha, hb.neg⟩ | exact ⟨ha.neg, hb⟩ | exact ⟨ha.neg, hb.neg⟩ | exact ⟨hb, ha⟩ | exact ⟨hb, ha.neg⟩ | exact ⟨hb.neg, ha⟩ | exact ⟨hb.neg, ha.neg⟩
/-- Euclid's steps -/
def gcdS : Nat → Int × Int × Int × Int × Int × Int → Int × Int × Int × Int × Int × Int
  | 0, s => s
  | k + 1, (o, n, oa, na, ob, nb) => if n = 0 then (o, n, oa, na, ob, nb) else gcdS k (n, o - o / n * n, na, oa - o / n * na, nb, ob - o / n * nb)
end Lw

namespace Lw
open PySem PySem.Spec PyProof.Rows L2 Evl
def into (q a b : Int) : Bool := decide (a % q = 0) && decide (b % q = 0)
/-- what Euclid's steps keep -/
structure EI (a b o n oa na ob nb : Int) : Prop where
  o0 : 0 ≤ o
  n0 : 0 ≤ n
  pos : 0 < o ∨ 0 < n
  ho : o = oa * a + ob * b
  hn : n = na * a + nb * b
  dv : ∀ q : Int, (q ∣ o ∧ q ∣ n) ↔ (q ∣ a ∧ q ∣ b)
  sg : ∃ p q r t : Int, 0 ≤ p ∧ 0 ≤ q ∧ 0 ≤ r ∧ 0 ≤ t ∧ o * q + n * p = b ∧ o * t + n * r = a ∧ p ≤ a + b + 1 ∧ q ≤ a + b + 1 ∧ r ≤ a + b + 1 ∧ t ≤ a + b + 1 ∧
    ((oa = p ∧ na = -q ∧ ob = -r ∧ nb = t) ∨ (oa = -p ∧ na = q ∧ ob = r ∧ nb = -t))
  om : o ≤ a + b
  nm : n ≤ a + b
theorem EI.start {a b : Int} (ha : 0 ≤ a) (hb : 0 ≤ b) (h : 0 < a ∨ 0 < b) : EI a b a b 1 0 0 1 where
  o0 := ha
  n0 := hb
  pos := h
  ho := by omega
  hn := by omega
  dv := fun _ => Iff.rfl
  sg := ⟨1, 0, 0, 1, by omega, by omega, by omega, by omega, by omega, by omega, by omega, by omega, by omega, by omega, .inl ⟨rfl, rfl, rfl, rfl⟩⟩
  om := by omega
  nm := by omega
theorem EI.step {a b o n oa na ob nb : Int} (h : EI a b o n oa na ob nb) (hn : 0 < n) : EI a b n (o - o / n * n) na (oa - o / n * na) nb (ob - o / n * nb) := by
  have m1 : o - o / n * n = o % n := by
    have z := Int.emod_add_mul_ediv o n
    rw [Int.mul_comm n] at z
    omega
  have t0 : 0 ≤ o / n := Int.ediv_nonneg h.o0 (by omega)
  have r0 : 0 ≤ o - o / n * n := by rw [m1]; exact Int.emod_nonneg _ (by omega)
  have r1 : o - o / n * n < n := by rw [m1]; exact Int.emod_lt_of_pos _ hn
  obtain ⟨p, q, r, t, hp, hq, hr, ht, e1, e2, bp, bq, br, bt, sg⟩ := h.sg
  generalize o / n = k at *
  have hho := h.ho
  have hhn := h.hn
  have hnm := h.nm
  have kq : 0 ≤ k * q := Int.mul_nonneg t0 hq
  have kt : 0 ≤ k * t := Int.mul_nonneg t0 ht
  have f1 : n * (p + k * q) + (o - k * n) * q = b := by grind
  have f2 : n * (r + k * t) + (o - k * n) * t = a := by grind
  have g1 : 0 ≤ (o - k * n) * q := Int.mul_nonneg r0 hq
  have g2 : 0 ≤ (o - k * n) * t := Int.mul_nonneg r0 ht
  have s1 : p + k * q ≤ n * (p + k * q) := by
    have z := Int.mul_le_mul_of_nonneg_right (show (1 : Int) ≤ n by omega) (show 0 ≤ p + k * q by omega)
    rw [Int.one_mul] at z
    exact z
  have s2 : r + k * t ≤ n * (r + k * t) := by
    have z := Int.mul_le_mul_of_nonneg_right (show (1 : Int) ≤ n by omega) (show 0 ≤ r + k * t by omega)
    rw [Int.one_mul] at z
    exact z
  have a0 : 0 ≤ a := by
    have z1 : 0 ≤ o * t := Int.mul_nonneg h.o0 ht
    have z2 : 0 ≤ n * r := Int.mul_nonneg h.n0 hr
    omega
  have b0 : 0 ≤ b := by
    have z1 : 0 ≤ o * q := Int.mul_nonneg h.o0 hq
    have z2 : 0 ≤ n * p := Int.mul_nonneg h.n0 hp
    omega
  refine ⟨h.n0, r0, .inl hn, hhn, ?_, fun z => ?_, ⟨q, p + k * q, t, r + k * t, hq, by omega, ht, by omega, f1, f2, bq, by omega, bt, by omega, ?_⟩, hnm, by omega⟩
  · grind
  · rw [← h.dv z]
    constructor
    · rintro ⟨⟨c, hc⟩, ⟨d, hd⟩⟩
      exact ⟨⟨k * c + d, by grind⟩, ⟨c, hc⟩⟩
    · rintro ⟨⟨c, hc⟩, ⟨d, hd⟩⟩
      exact ⟨⟨d, hd⟩, ⟨c - k * d, by grind⟩⟩
  · rcases sg with ⟨rfl, rfl, rfl, rfl⟩ | ⟨rfl, rfl, rfl, rfl⟩
    · exact .inr ⟨rfl, by grind, rfl, by grind⟩
    · exact .inl ⟨rfl, by grind, rfl, by grind⟩
abbrev E6 := Int × Int × Int × Int × Int × Int
theorem gcdS_inv {a b : Int} : ∀ (k : Nat) (o n oa na ob nb : Int), EI a b o n oa na ob nb → n.toNat ≤ k → ∃ g u x v y, gcdS k (o, n, oa, na, ob, nb) = (g, 0, u, x, v, y) ∧ EI a b g 0 u x v y
  | 0, o, n, oa, na, ob, nb, h, hk => by
    have z : n = 0 := by have := h.n0; omega
    subst z
    exact ⟨_, _, _, _, _, rfl, h⟩
  | k + 1, o, n, oa, na, ob, nb, h, hk => by
    by_cases z : n = 0
    · subst z
      exact ⟨_, _, _, _, _, rfl, h⟩
    · have hn : 0 < n := by have := h.n0; omega
      have h2 := h.step hn
      have e : gcdS (k + 1) (o, n, oa, na, ob, nb) = gcdS k (n, o - o / n * n, na, oa - o / n * na, nb, ob - o / n * nb) := by
        show (if n = 0 then _ else _) = _
        rw [if_neg z]
      rw [e]
      refine gcdS_inv k _ _ _ _ _ _ h2 ?_
      have m1 : o - o / n * n = o % n := by
        have z := Int.emod_add_mul_ediv o n
        rw [Int.mul_comm n] at z
        omega
      have r1 : o - o / n * n < n := by rw [m1]; exact Int.emod_lt_of_pos _ hn
      omega
/-- the greatest common number and how it is made up -/
def gcdE (a b : Int) : Int × Int × Int := let s := gcdS b.toNat (a, b, 1, 0, 0, 1); (s.1, s.2.2.1, s.2.2.2.2.1)
structure GE (a b g u v : Int) : Prop where
  pos : 0 < g
  da : g ∣ a
  db : g ∣ b
  mu : g = u * a + v * b
  gm : g ≤ a + b
  um : u.natAbs ≤ (a + b + 1).natAbs
  vm : v.natAbs ≤ (a + b + 1).natAbs
theorem gcdE_ok {a b : Int} (ha : 0 ≤ a) (hb : 0 ≤ b) (h : 0 < a ∨ 0 < b) : GE a b (gcdE a b).1 (gcdE a b).2.1 (gcdE a b).2.2 := by
  obtain ⟨g, u, x, v, y, e, I⟩ := gcdS_inv b.toNat a b 1 0 0 1 (EI.start ha hb h) (Nat.le_refl _)
  unfold gcdE
  simp only [e]
  have d := (I.dv g).mp ⟨Int.dvd_refl g, ⟨0, by omega⟩⟩
  obtain ⟨p, q, r, t, hp, hq, hr, ht, e1, e2, bp, bq, br, bt, sg⟩ := I.sg
  refine ⟨by rcases I.pos with z | z <;> omega, d.1, d.2, I.ho, I.om, ?_, ?_⟩
  · rcases sg with ⟨z, _⟩ | ⟨z, _⟩ <;> omega
  · rcases sg with ⟨_, _, z, _⟩ | ⟨_, _, z, _⟩ <;> omega
end Lw

namespace Lw
open PySem PySem.Spec PyProof.Rows L2 Evl
theorem GE.gcd {a b g u v : Int} (h : GE a b g u v) (q : Int) : (q ∣ a ∧ q ∣ b) ↔ q ∣ g := by
  constructor
  · rintro ⟨⟨c, hc⟩, ⟨d, hd⟩⟩
    exact ⟨u * c + v * d, by have := h.mu; grind⟩
  · exact fun z => ⟨Int.dvd_trans z h.da, Int.dvd_trans z h.db⟩
abbrev P4 := Int × Int × Int × Int
def alongA (u v x y : Int) : P4 := (u * x, v * x, v * y, u * y)
def moreP (a b e s : Int) : Int × Int := if b % 2 = 0 then (s, e) else if a % 2 = 0 then (e, s) else (e, 0)
def evenP (a b : Int) (t : P4) : P4 :=
  let m := moreP a b ((t.1 - t.2.2.1) % 2) ((t.2.1 - t.2.2.2) % 2)
  (t.1 + m.1 * b, t.2.1 - m.1 * a, t.2.2.1 + m.2 * a, t.2.2.2 - m.2 * b)
def mx0 (n : Int) : Int := if n > 0 then n else 0
def ctTo (t : P4) : List Int :=
  let p := (t.1 + t.2.2.1) / 2
  let q := (t.1 - t.2.2.1) / 2
  let r := (t.2.1 + t.2.2.2) / 2
  let s := (t.2.1 - t.2.2.2) / 2
  [mx0 p, mx0 q, mx0 (-q), mx0 (-p), mx0 r, mx0 s, mx0 (-s), mx0 (-r)]
theorem mx0_sub (n : Int) : mx0 n = mx0 (-n) + n := by unfold mx0; split <;> split <;> omega
theorem led_ct {a b : Int} {t : P4} (h1 : (t.1 - t.2.2.1) % 2 = 0) (h2 : (t.2.1 - t.2.2.2) % 2 = 0) : led a b (ctTo t) = (t.1 * a + t.2.1 * b, t.2.2.1 * b + t.2.2.2 * a) := by
  obtain ⟨al, bl, bc, ac⟩ := t
  have e1 : (al + bc) / 2 + (al - bc) / 2 = al := by simp only at h1; omega
  have e2 : (al + bc) / 2 - (al - bc) / 2 = bc := by simp only at h1; omega
  have e3 : (bl + ac) / 2 + (bl - ac) / 2 = bl := by simp only at h2; omega
  have e4 : (bl + ac) / 2 - (bl - ac) / 2 = ac := by simp only at h2; omega
  show ledL [mx0 ((al + bc) / 2), mx0 ((al - bc) / 2), mx0 (-((al - bc) / 2)), mx0 (-((al + bc) / 2)), mx0 ((bl + ac) / 2), mx0 ((bl - ac) / 2), mx0 (-((bl - ac) / 2)), mx0 (-((bl + ac) / 2))] (eightL a b) = (al * a + bl * b, bc * b + ac * a)
  generalize (al + bc) / 2 = p at *
  generalize (al - bc) / 2 = q at *
  generalize (bl + ac) / 2 = r at *
  generalize (bl - ac) / 2 = s at *
  have m1 := mx0_sub p
  have m2 := mx0_sub q
  have m3 := mx0_sub r
  have m4 := mx0_sub s
  generalize mx0 p = p1 at *
  generalize mx0 q = q1 at *
  generalize mx0 r = r1 at *
  generalize mx0 s = s1 at *
  generalize mx0 (-p) = p2 at *
  generalize mx0 (-q) = q2 at *
  generalize mx0 (-r) = r2 at *
  generalize mx0 (-s) = s2 at *
  subst m1 m2 m3 m4
  simp only [ledL, eightL]
  rw [← e1, ← e2, ← e3, ← e4]
  refine Prod.ext ?_ ?_
  · show _ = (p + q) * a + (r + s) * b
    grind
  · show _ = (p - q) * b + (r - s) * a
    grind
theorem even_led {a b : Int} (t : P4) : (evenP a b t).1 * a + (evenP a b t).2.1 * b = t.1 * a + t.2.1 * b ∧ (evenP a b t).2.2.1 * b + (evenP a b t).2.2.2 * a = t.2.2.1 * b + t.2.2.2 * a := by
  obtain ⟨al, bl, bc, ac⟩ := t
  unfold evenP
  generalize moreP a b _ _ = m
  obtain ⟨m1, m2⟩ := m
  constructor
  · show (al + m1 * b) * a + (bl - m1 * a) * b = al * a + bl * b
    grind
  · show (bc + m2 * a) * b + (ac - m2 * b) * a = bc * b + ac * a
    grind
theorem even_ok {a b al bl bc ac : Int} (hab : ¬ (a % 2 = 0 ∧ b % 2 = 0)) (h : a % 2 = 1 → b % 2 = 1 → (al + bc + bl + ac) % 2 = 0) :
    ((evenP a b (al, bl, bc, ac)).1 - (evenP a b (al, bl, bc, ac)).2.2.1) % 2 = 0 ∧ ((evenP a b (al, bl, bc, ac)).2.1 - (evenP a b (al, bl, bc, ac)).2.2.2) % 2 = 0 := by
  unfold evenP moreP
  simp only
  have c1 : (al - bc) % 2 = 0 ∨ (al - bc) % 2 = 1 := by omega
  have c2 : (bl - ac) % 2 = 0 ∨ (bl - ac) % 2 = 1 := by omega
  split
  · rcases c1 with c1 | c1 <;> rcases c2 with c2 | c2 <;> simp only [c1, c2, Int.zero_mul, Int.one_mul] <;> omega
  · split
    · rcases c1 with c1 | c1 <;> rcases c2 with c2 | c2 <;> simp only [c1, c2, Int.zero_mul, Int.one_mul] <;> omega
    · have z := h (by omega) (by omega)
      rcases c1 with c1 | c1 <;> rcases c2 with c2 | c2 <;> simp only [c1, c2, Int.zero_mul, Int.one_mul] <;> omega
/-- which number bars, or none -/
def barBy (a b x y : Int) : Option Int :=
  let g := (gcdE a b).1
  if x % g ≠ 0 ∨ y % g ≠ 0 then some g else if (a / g + b / g) % 2 = 0 ∧ (x / g + y / g) % 2 ≠ 0 then some (2 * g) else none
def tellCt (a b x y : Int) : List Int :=
  let g := (gcdE a b).1
  ctTo (evenP (a / g) (b / g) (alongA (gcdE a b).2.1 (gcdE a b).2.2 (x / g) (y / g)))
theorem led_scale {a b g : Int} : ∀ cs : List Int, led (g * a) (g * b) cs = (g * (led a b cs).1, g * (led a b cs).2) := by
  intro cs
  have gen : ∀ (cs : List Int) (ps : List (Int × Int)), ledL cs (ps.map fun p => (g * p.1, g * p.2)) = (g * (ledL cs ps).1, g * (ledL cs ps).2) := by
    intro cs
    induction cs with
    | nil => intro ps; simp [ledL]
    | cons c cs ih =>
      intro ps
      cases ps with
      | nil => simp [ledL]
      | cons p ps =>
        simp only [List.map_cons, ledL, ih ps]
        refine Prod.ext ?_ ?_
        · show c * (g * p.1) + g * (ledL cs ps).1 = g * (c * p.1 + (ledL cs ps).1)
          grind
        · show c * (g * p.2) + g * (ledL cs ps).2 = g * (c * p.2 + (ledL cs ps).2)
          grind
  have e : eightL (g * a) (g * b) = (eightL a b).map fun p => (g * p.1, g * p.2) := by
    simp only [eightL, List.map_cons, List.map_nil, Int.mul_neg]
  unfold led
  rw [e]
  exact gen cs _
theorem tell_led {a b x y : Int} (ha : 0 ≤ a) (hb : 0 ≤ b) (h : 0 < a ∨ 0 < b) (hn : barBy a b x y = none) : led a b (tellCt a b x y) = (x, y) := by
  have G := gcdE_ok ha hb h
  unfold barBy at hn
  simp only at hn
  unfold tellCt
  simp only
  generalize (gcdE a b).1 = g at *
  generalize (gcdE a b).2.1 = u at *
  generalize (gcdE a b).2.2 = v at *
  have gp := G.pos
  split at hn
  · cases hn
  · rename_i h1
    split at hn
    · cases hn
    · rename_i h2
      have h1x : x % g = 0 := by omega
      have h1y : y % g = 0 := by omega
      obtain ⟨a', rfl⟩ := G.da
      obtain ⟨b', rfl⟩ := G.db
      obtain ⟨x', rfl⟩ := Int.dvd_of_emod_eq_zero h1x
      obtain ⟨y', rfl⟩ := Int.dvd_of_emod_eq_zero h1y
      rw [Int.mul_ediv_cancel_left _ (by omega), Int.mul_ediv_cancel_left _ (by omega)] at h2
      rw [Int.mul_ediv_cancel_left _ (by omega), Int.mul_ediv_cancel_left _ (by omega)] at h2
      rw [Int.mul_ediv_cancel_left _ (by omega), Int.mul_ediv_cancel_left _ (by omega), Int.mul_ediv_cancel_left _ (by omega), Int.mul_ediv_cancel_left _ (by omega)]
      have one : u * a' + v * b' = 1 := by
        have z := G.mu
        have z2 : g * (u * a' + v * b') = g * 1 := by grind
        exact Int.eq_of_mul_eq_mul_left (by omega) z2
      have E := even_ok (a := a') (b := b') (al := u * x') (bl := v * x') (bc := v * y') (ac := u * y') (fun ⟨z1, z2⟩ => by
        obtain ⟨c, rfl⟩ := Int.dvd_of_emod_eq_zero z1
        obtain ⟨d, rfl⟩ := Int.dvd_of_emod_eq_zero z2
        have z3 : 2 * (u * c + v * d) = 1 := by grind
        omega) (fun z1 z2 => by
        have z3 : (x' + y') % 2 = 0 := by
          by_cases z : (x' + y') % 2 = 0
          · exact z
          · exact absurd ⟨by omega, z⟩ h2
        obtain ⟨c, hc⟩ := Int.dvd_of_emod_eq_zero z3
        have z4 : u * x' + v * y' + v * x' + u * y' = 2 * ((u + v) * c) := by grind
        rw [z4]
        omega)
      rw [led_scale]
      show (g * (led a' b' (ctTo (evenP a' b' (alongA u v x' y')))).1, g * (led a' b' (ctTo (evenP a' b' (alongA u v x' y')))).2) = _
      unfold alongA
      rw [led_ct E.1 E.2, (even_led _).1, (even_led _).2]
      refine Prod.ext ?_ ?_
      · show g * (u * x' * a' + v * x' * b') = g * x'
        have z : u * x' * a' + v * x' * b' = (u * a' + v * b') * x' := by grind
        rw [z, one, Int.one_mul]
      · show g * (v * y' * b' + u * y' * a') = g * y'
        have z : v * y' * b' + u * y' * a' = (u * a' + v * b') * y' := by grind
        rw [z, one, Int.one_mul]
/-- what bars, by the law's own look -/
def barsP (a b x y q : Int) : Bool := decide (0 < q) && (into q a b && !into q x y || into q (a + b) (a - b) && !decide ((x + y) % q = 0))
theorem bar_ok {a b x y q : Int} (ha : 0 ≤ a) (hb : 0 ≤ b) (h : 0 < a ∨ 0 < b) (hq : barBy a b x y = some q) : 0 < q ∧ barsP a b x y q = true := by
  have G := gcdE_ok ha hb h
  unfold barBy at hq
  simp only at hq
  generalize (gcdE a b).1 = g at *
  generalize (gcdE a b).2.1 = u at *
  generalize (gcdE a b).2.2 = v at *
  have gp := G.pos
  have da := Int.emod_eq_zero_of_dvd G.da
  have db := Int.emod_eq_zero_of_dvd G.db
  split at hq
  · rename_i h1
    have e := Option.some.inj hq
    subst e
    refine ⟨gp, ?_⟩
    unfold barsP into
    rw [decide_eq_true gp, decide_eq_true da, decide_eq_true db]
    rcases h1 with h1 | h1 <;> simp [h1]
  · rename_i h1
    split at hq
    · rename_i h2
      have e := Option.some.inj hq
      subst e
      have h1x : x % g = 0 := by omega
      have h1y : y % g = 0 := by omega
      obtain ⟨a', rfl⟩ := G.da
      obtain ⟨b', rfl⟩ := G.db
      obtain ⟨x', rfl⟩ := Int.dvd_of_emod_eq_zero h1x
      obtain ⟨y', rfl⟩ := Int.dvd_of_emod_eq_zero h1y
      rw [Int.mul_ediv_cancel_left _ (by omega), Int.mul_ediv_cancel_left _ (by omega)] at h2
      rw [Int.mul_ediv_cancel_left _ (by omega), Int.mul_ediv_cancel_left _ (by omega)] at h2
      refine ⟨by omega, ?_⟩
      obtain ⟨c, hc⟩ := Int.dvd_of_emod_eq_zero h2.1
      have p2 : (0 : Int) < 2 * g := by omega
      have e1 : (g * a' + g * b') % (2 * g) = 0 := Int.emod_eq_zero_of_dvd ⟨c, by grind⟩
      have e2 : (g * a' - g * b') % (2 * g) = 0 := Int.emod_eq_zero_of_dvd ⟨c - b', by grind⟩
      have e3 : ¬ (g * x' + g * y') % (2 * g) = 0 := fun z => by
        obtain ⟨d, hd⟩ := Int.dvd_of_emod_eq_zero z
        have z2 : g * (x' + y') = g * (2 * d) := by grind
        have z3 := Int.eq_of_mul_eq_mul_left (by omega) z2
        exact h2.2 (by omega)
      unfold barsP into
      rw [decide_eq_true p2, decide_eq_true e1, decide_eq_true e2, decide_eq_false e3]
      simp
    · cases hq
end Lw
namespace Lw
open PySem PySem.Spec PyProof.Rows L2 Evl
theorem Bd.nat {n : Nat} {i j : Int} (hi : Bd n i) (h : j.natAbs ≤ i.natAbs) : Bd n j := Nat.lt_of_le_of_lt h hi
theorem Bd.small {n : Nat} {i : Int} (h : i.natAbs ≤ 1) (hn : 0 < n) : Bd n i := Nat.lt_of_le_of_lt h (Nat.one_lt_pow (by omega) (by decide))
theorem EI.bd {a b o n oa na ob nb : Int} {k : Nat} (h : EI a b o n oa na ob nb) (ha : Bd k a) (hb : Bd k b) : Bd (k + 2) o ∧ Bd (k + 2) n ∧ Bd (k + 2) oa ∧ Bd (k + 2) na ∧ Bd (k + 2) ob ∧ Bd (k + 2) nb := by
  obtain ⟨p, q, r, t, hp, hq, hr, ht, e1, e2, bp, bq, br, bt, sg⟩ := h.sg
  have s1 : Bd (k + 1) (a + b) := ha.add hb
  have s2 : Bd (k + 2) (a + b + 1) := s1.add (Bd.small (by decide) (by omega))
  have o0 := h.o0
  have n0 := h.n0
  have om := h.om
  have nm := h.nm
  refine ⟨s2.nat (by omega), s2.nat (by omega), s2.nat ?_, s2.nat ?_, s2.nat ?_, s2.nat ?_⟩
  all_goals rcases sg with ⟨z1, z2, z3, z4⟩ | ⟨z1, z2, z3, z4⟩ <;> omega
end Lw
namespace Lw
open PySem PySem.Spec PyProof.Rows L2 Evl
theorem cSs_nx {X : Cx} {sts : List Stmt} {D : Ends} {σ : L2.St} {H : Hp} {M N : L2.St → Hp → Prop} (k : ∀ σ' H', M σ' H' → N σ' H') (h : cSs X sts { D with nx := M } σ H) : cSs X sts { D with nx := N } σ H := fun pins s I => wpAny_mono (h pins s I) (fun f s' q => by
  cases f with
  | next => obtain ⟨σ3, H3, I3, q2⟩ := q; exact ⟨σ3, H3, I3, k σ3 H3 q2⟩
  | cont => exact q
  | brk => exact q
  | ret _ => exact q) fun _ _ q => q
/-- an if both whose ways end in M -/
theorem g_ifC {X : Cx} {c : Expr} {body orelse rest : List Stmt} {pos : Pos} {D : Ends} {σ : L2.St} {H : Hp} {t : Bool} (M : L2.St → Hp → Prop) (hc : Gt X c σ H t) (h1 : t = true → ∀ H1, Ex H H1 → cSs X body { D with nx := M } σ H1)
    (h2 : t = false → ∀ H1, Ex H H1 → cSs X orelse { D with nx := M } σ H1) (k : ∀ σ' H', M σ' H' → cSs X rest D σ' H') : cSs X (.If c body orelse pos :: rest) D σ H :=
  g_if hc (fun z H1 x => cSs_nx k (h1 z H1 x)) fun z H1 x => cSs_nx k (h2 z H1 x)
end Lw

namespace Lw
open PySem PySem.Spec PyProof.Rows L2 Evl
/-- a class of the top with one field, made by its __init__ -/
structure Tc (K : PySem.W.Frag) (mg : Str → Option Value) (cn fn : Str) (C : Addr) (qi qs : Str) (si ss : Stmt) (pi ps : List Str) : Prop where
  gl : mg cn = some (.ref C)
  cl : Cls K C
  na : NoAttr K C fn
  mi : ∃ f fd, Mk K C f ∧ Fun K "__init__" qi si f fd ∧ Binds K fd pi []
  ms : ∃ f fd, Meth K C "shows" f ∧ Fun K "shows" qs ss f fd ∧ Binds K fd ps []
/-- its __init__ keeps a promise; its shows -/
structure Mi (P : Program) (w : World) (K : PySem.W.Frag) (mg : Str → Option Value) (base : Heap) (cn : Str) (C : Addr) (k : Nat) (ps : List Str) (sp : Sp) : Prop where
  gl : mg cn = some (.ref C)
  ex : ∃ f fd, Mk K C f ∧ Binds K fd ps [] ∧ FnOk P w K mg base CX0 k f fd ps sp
structure Ms (P : Program) (w : World) (K : PySem.W.Frag) (mg : Str → Option Value) (base : Heap) (C : Addr) (m : Str) (k : Nat) (ps : List Str) (sp : Sp) : Prop where
  cl : Cls K C
  ex : ∃ f fd, Meth K C m f ∧ Binds K fd ps [] ∧ FnOk P w K mg base CX0 k f fd ps sp
section
variable {P : Program} {w : World} {K : PySem.W.Frag} {mg : Str → Option Value} {base : Heap}
theorem fn_go {nm qn : Str} {st : Stmt} {N ps : List Str} {sp : Sp} {f : Addr} {fd : FuncData} (k : Nat) (Fu : Fun K nm qn st f fd) (S : FnScope N ps (defScope st)) (len : ∀ vs H Q E, sp vs H Q E → vs.length = ps.length)
    (body : ∀ cdv A outer s H0 E, Room k (cxB P w K mg base N qn (defScope st) f cdv A outer s H0 E).A → Names (cxB P w K mg base N qn (defScope st) f cdv A outer s H0 E) N 0 → (cxB P w K mg base N qn (defScope st) f cdv A outer s H0 E).N.Nodup → ∀ vs H (Q : VK), sp vs H Q E →
      cSs (cxB P w K mg base N qn (defScope st) f cdv A outer s H0 E) (defBody st) { nx := fun _ H' => Q .non H', rt := Q } (start N vs) H) : FnOk P w K mg base CX0 (k + 1) f fd ps sp :=
  Fu.ok S len fun cdv A outer s H vs Q E hr h => ⟨_, cSs_ps, body cdv A outer s H E hr (names_of N [] rfl) S.nd vs H Q h⟩
end
section
variable {X : Cx} {e o : Expr} {es : List Expr} {σ : L2.St} {H : Hp} {d : PyData} {ds : List PyData} {pos apos p' kp : Pos} {R : V → Hp → Prop}
theorem x_fldV {p C dx : Addr} {fs : List (Str × V)} {f : Str} {v : V} (ho : Gv X e σ H fun v' _ => v' = .ref p) (hp : H p = some (.ins C dx fs)) (c : Cls X.K C) (n : NoAttr X.K C f) (hl : fs.lookup f = some v) (hb : attributeBase e f X.env (eval e X.env) = eval e X.env := by rfl) :
    Gv X (.Attribute e f pos) σ H fun v' _ => v' = v := gv_of (pe_fld cE_pe hb) fun H1 x Q q => ho.go H1 x _ fun v' H2 y r => ⟨p, C, dx, fs, v, r, y _ _ (x _ _ hp), c, n, hl, q v H2 y rfl⟩
theorem x_fld {p C dx : Addr} {fs : List (Str × V)} {f : Str} {v : V} (ho : Gv X e σ H fun v' _ => v' = .ref p) (hp : H p = some (.ins C dx fs)) (c : Cls X.K C) (n : NoAttr X.K C f) (hl : fs.lookup f = some v) (hd : Dq X.K H v d) (hb : attributeBase e f X.env (eval e X.env) = eval e X.env := by rfl) :
    Gd X (.Attribute e f pos) σ H d := gv_of (pe_fld cE_pe hb) fun H1 x Q q => ho.go H1 x _ fun v' H2 y r => ⟨p, C, dx, fs, v, r, y _ _ (x _ _ hp), c, n, hl, q v H2 y (dp_mono (x.trans y) hd)⟩
/-- o.m(e, ..) -/
theorem x_meth {sp : Sp} {C p dx : Addr} {fs : List (Str × V)} {m : Str} {k n : Nat} {ps : List Str} {RA : List V → Hp → Prop} {pl : Sem Bool} (M : Ms X.prog X.w X.K X.mg X.base C m k ps sp) (hr : Room n X.A) (hk : k ≤ n) (ho : Gv X o σ H fun v' _ => v' = .ref p) (hp : H p = some (.ins C dx fs)) (hl : fs.lookup m = none)
    (ha : Gl X (e :: es) σ H RA) (hs : ∀ vs H1, Ex H H1 → RA vs H1 → ∀ Q : VK, (∀ v H2, Ex H1 H2 → R v H2 → Q v H2) → sp (.ref p :: vs) H1 Q E0)
    (hst : starEach (e :: es) X.env = (false, eval e X.env) :: starEach es X.env := by rfl) (hpl : (backTo pos (starEach es X.env)).any (·.1) = false := by rfl)
    (ht : eval (.Call (.Attribute o m apos) (e :: es) [] pos) X.env = (do let u ← eval o X.env; standAt apos.atName; let (g, one) ← holding [u] (getMethod u m pl); callWith pos g one (backTo pos (starEach (e :: es) X.env)) (backToKw pos (keywordEach [] X.env))) := by rfl) : Gv X (.Call (.Attribute o m apos) (e :: es) [] pos) σ H R := by
  obtain ⟨f, fd, hm, hb, F⟩ := M.ex
  refine gv_of (pe_meth cE_pe M.cl hm F (hr.mono hk) hb .nil pass0 cA_pa hst hpl ht) fun H1 x Q q => ho.go H1 x _ fun v' H2 y r => ⟨p, dx, fs, r, y _ _ (x _ _ hp), hl, ha.go H2 (x.trans y) _ fun vs H3 z rv => ?_⟩
  rw [List.append_nil, r]
  exact hs vs H3 ((x.trans y).trans z) rv Q fun v H4 u rw => q v H4 ((y.trans z).trans u) rw
/-- C(e, ..) -/
theorem x_make {sp : Sp} {C : Addr} {cn : Str} {k n : Nat} {ps : List Str} {RA : List V → Hp → Prop} (M : Mi X.prog X.w X.K X.mg X.base cn C k ps sp) (hr : Room n X.A) (hk : k + 1 ≤ n) (ha : Gl X (e :: es) σ H RA)
    (hs : ∀ vs H1 x dx, Ex H H1 → RA vs H1 → H1 x = none → H1 dx = none → dx ≠ x → ∀ Q : VK, (∀ H2, Ex H1 H2 → R (.ref x) H2 → Q .non H2) → sp (.ref x :: vs) (upd (upd H1 dx (.own x)) x (.ins C dx [])) Q E0) (hg : L2.Gl X cn := by rfl) (hdb : (cn == ("__debug__" : Str)) = false := by decide)
    (he : starEach (e :: es) X.env = (false, eval e X.env) :: starEach es X.env := by rfl) (hpl : (backTo pos (starEach es X.env)).any (·.1) = false := by rfl) : Gv X (.Call (.Name cn kp) (e :: es) [] pos) σ H R := by
  obtain ⟨f, fd, hm, hb, F⟩ := M.ex
  refine gv_of (pe_make hm F (hr.mono hk) hg M.gl hb .nil pass0 cA_pa hdb he hpl) fun H1 x Q q => ha.go H1 x _ fun vs H2 y r z dz n1 n2 n3 => ?_
  rw [List.append_nil]
  exact hs vs H2 z dz (x.trans y) r n1 n2 n3 _ fun H3 u rw => ⟨rfl, q _ H3 (y.trans u) rw⟩
end
theorem eqv_pr (a b x y : Int) : PyData.eqv (pr a b) (pr x y) = decide ((a, b) = (x, y)) := by
  show ((a == x) && ((b == y) && true)) = _
  rw [Bool.and_true]
  by_cases h : a = x
  · by_cases h2 : b = y
    · subst h h2
      simp
    · simp [h, h2]
  · simp [h]
/-- a Way at p: its counts at l -/
def WayAt (C : Addr) (H : Hp) (p l : Addr) : Prop := ∃ dx, H p = some (.ins C dx [("counts", .ref l)])
def NevAt (C : Addr) (H : Hp) (p : Addr) (q : Int) : Prop := ∃ dx, H p = some (.ins C dx [("by", .int q)])
def wayOk (a b x y : Int) (cs : List Int) : Bool := isCt (lsI cs) && decide (led a b cs = (x, y))
/-- __init__ of Way -/
def spWi (K : PySem.W.Frag) (C : Addr) : Sp := fun vs H Q _ => ∃ p dx v ds, vs = [.ref p, v] ∧ H p = some (.ins C dx []) ∧ Dq K H v (.list ds) ∧
  ∀ (l : Addr) (xs : List V) (H' : Hp), H l = none → (∀ b o, H b = some o → b ≠ p → H' b = some o) → H' p = some (.ins C dx [("counts", .ref l)]) → H' l = some (.lst xs) → DqAll K H xs ds → Q .non H'
def spNi (C : Addr) : Sp := fun vs H Q _ => ∃ p dx n, vs = [.ref p, .int n] ∧ H p = some (.ins C dx []) ∧ ∀ (H' : Hp), (∀ b o, H b = some o → b ≠ p → H' b = some o) → H' p = some (.ins C dx [("by", .int n)]) → Q .non H'
def spWs (K : PySem.W.Frag) (C : Addr) : Sp := fun vs H Q _ => ∃ p l lv pv a b x y cs, vs = [.ref p, lv, pv] ∧ WayAt C H p l ∧ Dq K H (.ref l) (lsI cs) ∧ Dq K H lv (pr a b) ∧ Dq K H pv (pr x y) ∧
  (isLp (pr a b) = true ∧ Bd 60000 a ∧ Bd 60000 b ∧ cs.length ≤ 1000 ∧ ∀ c ∈ cs, Bd 60000 c) ∧ ∀ H2, Ex H H2 → Q (.bl (wayOk a b x y cs)) H2
def spNs (K : PySem.W.Frag) (C : Addr) : Sp := fun vs H Q _ => ∃ p q lv pv a b x y, vs = [.ref p, lv, pv] ∧ NevAt C H p q ∧ Dq K H lv (pr a b) ∧ Dq K H pv (pr x y) ∧ ∀ H2, Ex H H2 → Q (.bl (barsP a b x y q)) H2
theorem ct_of {n : Nat} {cs : List Int} (h : isCt (lsI cs) = true) (hb : ∀ c ∈ cs, Bd n c) : CtOk n cs := by
  have h' : (decide ((cs.map PyData.int).length = 8) && ((cs.map PyData.int).map isAmt).all id) = true := h
  rw [List.length_map, List.map_map, List.all_map, Bool.and_eq_true] at h'
  refine ⟨of_decide_eq_true h'.1, fun c hc => ⟨?_, hb c hc⟩⟩
  exact of_decide_eq_true (List.all_eq_true.mp h'.2 c hc)
/-- told: a Never by q, or a Way by counts, new -/
def spTold (K : PySem.W.Frag) (CW CN : Addr) : Sp := fun vs H Q _ => ∃ lv pv a b x y, vs = [lv, pv] ∧ Dq K H lv (pr a b) ∧ Dq K H pv (pr x y) ∧ (0 ≤ a ∧ 0 ≤ b ∧ (0 < a ∨ 0 < b) ∧ Bd 2000 a ∧ Bd 2000 b ∧ Bd 2000 x ∧ Bd 2000 y) ∧
  (∀ q p H2, barBy a b x y = some q → H p = none → Ex H H2 → NevAt CN H2 p q → Q (.ref p) H2) ∧
  (∀ p l H2, barBy a b x y = none → H p = none → H l = none → Ex H H2 → WayAt CW H2 p l → H2 l = some (.lst ((tellCt a b x y).map V.int)) → Q (.ref p) H2)
end Lw
namespace Lw
open PySem PySem.Spec PyProof.Rows L2 Evl
section
variable {X : Cx} {e : Expr} {σ : L2.St} {H : Hp} {pos kp : Pos} {C : Addr}
theorem made_ex {H1 : Hp} {x dx C : Addr} (n1 : H1 x = none) (n2 : H1 dx = none) (n3 : dx ≠ x) : Ex H1 (upd (upd H1 dx (.own x)) x (.ins C dx [])) := fun b o q => by
  rw [upd_ne (ne_of_none q n1), upd_ne (ne_of_none q n2)]
  exact q
theorem x_never {cn : Str} {n : Int} {k m : Nat} {ps : List Str} (M : Mi X.prog X.w X.K X.mg X.base cn C k ps (spNi C)) (hr : Room m X.A) (hk : k + 1 ≤ m) (ha : Gd X e σ H (.int n)) (hg : L2.Gl X cn := by rfl) (hdb : (cn == ("__debug__" : Str)) = false := by decide)
    (he : starEach [e] X.env = (false, eval e X.env) :: starEach [] X.env := by rfl) (hpl : (backTo pos (starEach [] X.env)).any (·.1) = false := by rfl) : Gv X (.Call (.Name cn kp) [e] [] pos) σ H fun v H' => ∃ p, v = .ref p ∧ H p = none ∧ NevAt C H' p n :=
  x_make M hr hk (RA := fun vs _ => vs = [.int n]) (l_cons ha (fun _ _ _ z r => dp_mono z r) (l_nil (R := fun vs _ => vs = []) fun _ => rfl) (fun v vs _ r1 r2 => by rw [dp_int r1, r2]) he)
    (fun vs H1 x dx x1 r n1 n2 n3 Q q => ⟨x, dx, n, by rw [r], upd_same, fun H' h1 h2 => q H' (Same.made n1 n2 h1) ⟨x, rfl, fresh_back x1 n1, dx, h2⟩⟩) hg hdb he hpl
theorem x_way {cn : Str} {cs : List Int} {k m : Nat} {ps : List Str} (M : Mi X.prog X.w X.K X.mg X.base cn C k ps (spWi X.K C)) (hr : Room m X.A) (hk : k + 1 ≤ m) (ha : Gd X e σ H (lsI cs)) (hg : L2.Gl X cn := by rfl) (hdb : (cn == ("__debug__" : Str)) = false := by decide)
    (he : starEach [e] X.env = (false, eval e X.env) :: starEach [] X.env := by rfl) (hpl : (backTo pos (starEach [] X.env)).any (·.1) = false := by rfl) : Gv X (.Call (.Name cn kp) [e] [] pos) σ H fun v H' => ∃ p l, v = .ref p ∧ H p = none ∧ H l = none ∧ WayAt C H' p l ∧ H' l = some (.lst (cs.map V.int)) :=
  x_make M hr hk (RA := fun vs H' => ∃ v, vs = [v] ∧ Dq X.K H' v (lsI cs)) (l_cons ha (fun _ _ _ z r => dp_mono z r) (l_nil (R := fun vs _ => vs = []) fun _ => rfl) (fun v vs _ r1 r2 => ⟨v, by rw [r2], r1⟩) he)
    (fun vs H1 x dx x1 ⟨v, r, rv⟩ n1 n2 n3 Q q => ⟨x, dx, v, cs.map .int, by rw [r], upd_same, dp_mono (made_ex n1 n2 n3) rv, fun l xs H' hl h1 h2 h3 h4 => q H' (Same.made n1 n2 h1) ⟨x, l, rfl, fresh_back x1 n1, fresh_back x1 (fresh_back (made_ex n1 n2 n3) hl), ⟨dx, h2⟩, by rw [h3, dpa_ints cs h4]⟩⟩) hg hdb he hpl
end
theorem GE.bd {a b g u v : Int} {k : Nat} (h : GE a b g u v) (ha : Bd k a) (hb : Bd k b) : Bd (k + 1) g ∧ Bd (k + 2) u ∧ Bd (k + 2) v := by
  have s1 : Bd (k + 1) (a + b) := ha.add hb
  have s2 : Bd (k + 2) (a + b + 1) := s1.add (Bd.small (by decide) (by omega))
  have p := h.pos
  have m := h.gm
  exact ⟨s1.nat (by omega), s2.nat h.um, s2.nat h.vm⟩
end Lw

namespace Lw
open PySem PySem.Spec PyProof.Rows L2 Evl
/-! ### changed at l alone -/
def Mu (l : Addr) (A B : Hp) : Prop := ∀ b o, b ≠ l → A b = some o → B b = some o
theorem Mu.refl {l : Addr} (A : Hp) : Mu l A A := fun _ _ _ h => h
theorem Mu.trans {l : Addr} {A B C : Hp} (x : Mu l A B) (y : Mu l B C) : Mu l A C := fun b o n h => y b o n (x b o n h)
theorem Mu.of {l : Addr} {A B : Hp} (x : Ex A B) : Mu l A B := fun b o _ h => x b o h
theorem Mu.upd {l : Addr} {A : Hp} {o : HO} : Mu l A (upd A l o) := fun b _ n h => by rw [upd_ne n]; exact h
/-- what was made ahead of l -/
theorem Mu.old {l : Addr} {A B C : Hp} (x : Ex C A) (h : C l = none) (y : Mu l A B) : Ex C B := fun b o q => y b o (ne_of_none q h) (x b o q)
section
variable {K : PySem.W.Frag} {H H' : Hp} {l : Addr} {xs : List V}
theorem sqt_mu (m : Mu l H H') (hl : H l = some (.lst xs)) {p : Addr} {vs : List V} (h : SqT K H p vs) : SqT K H' p vs := by
  rcases h with (h | ⟨o, h⟩) | h
  · exact .inl (.inl (m _ _ (ne_of h hl (by intro z; cases z)) h))
  · exact .inl (.inr ⟨o, m _ _ (ne_of h hl (by intro z; cases z)) h⟩)
  · exact .inr h
mutual
theorem dp_mu' (m : Mu l H H') (hl : H l = some (.lst xs)) : ∀ (d : PyData) (v : V), nl d = true → Dq K H v d → Dq K H' v d
  | .none, _, _, h => by cases h; exact .non
  | .bool b, _, _, h => by cases h; exact .bl b
  | .int i, _, _, h => by cases h; exact .int i
  | .str x, _, _, h => by cases h; exact .str x
  | .list _, _, n, _ => by cases n
  | .tuple ds, _, n, h => by
    cases h with
    | tup hs ha => exact .tup (sqt_mu m hl hs) (dpa_mu' m hl ds _ n ha)
  | .dict _, _, _, h => by
    cases h with
    | dct h => exact .dct (m _ _ (ne_of h hl (by intro z; cases z)) h)
theorem dpa_mu' (m : Mu l H H') (hl : H l = some (.lst xs)) : ∀ (ds : List PyData) (vs : List V), nls ds = true → DqAll K H vs ds → DqAll K H' vs ds
  | [], _, _, h => by cases h; exact .nil
  | d :: ds, _, n, h => by
    have n' : (nl d && nls ds) = true := n
    rw [Bool.and_eq_true] at n'
    cases h with
    | cons h1 h2 => exact .cons (dp_mu' m hl d _ n'.1 h1) (dpa_mu' m hl ds _ n'.2 h2)
end
theorem dp_mu {v : V} {d : PyData} (m : Mu l H H') (hl : H l = some (.lst xs)) (h : Dq K H v d) (n : nl d = true := by rfl) : Dq K H' v d := dp_mu' m hl d v n h
theorem dpa_mu {vs : List V} {ds : List PyData} (m : Mu l H H') (hl : H l = some (.lst xs)) (h : DqAll K H vs ds) (n : nls ds = true) : DqAll K H' vs ds := dpa_mu' m hl ds vs n h
/-- a list of one's own -/
def Tq (K : PySem.W.Frag) (H : Hp) (v : V) (ds : List PyData) : Prop := ∃ p vs, v = .ref p ∧ H p = some (.lst vs) ∧ DqAll K H vs ds
theorem Tq.dq {v : V} {ds : List PyData} (h : Tq K H v ds) : Dq K H v (.list ds) := by
  obtain ⟨p, vs, rfl, h1, h2⟩ := h
  exact .lst (SqL.of h1) h2
theorem Tq.ex {v : V} {ds : List PyData} (x : Ex H H') (h : Tq K H v ds) : Tq K H' v ds := by
  obtain ⟨p, vs, rfl, h1, h2⟩ := h
  exact ⟨p, vs, rfl, x _ _ h1, dpa_mono x h2⟩
/-- .. new since H0 -/
def Fq (K : PySem.W.Frag) (H0 H : Hp) (v : V) (ds : List PyData) : Prop := ∃ p vs, v = .ref p ∧ H0 p = none ∧ H p = some (.lst vs) ∧ DqAll K H vs ds
theorem Fq.tq {H0 : Hp} {v : V} {ds : List PyData} (h : Fq K H0 H v ds) : Tq K H v ds := by
  obtain ⟨p, vs, rfl, _, h1, h2⟩ := h
  exact ⟨p, vs, rfl, h1, h2⟩
theorem shaped_all : ∀ (l : List PyData), (∀ d ∈ l, d.canLay0 = true ∧ d.depth ≤ 2) → PyData.canLayAll0 l = true ∧ PyData.depthAll l ≤ 2
  | [], _ => ⟨rfl, by show (0 : Nat) ≤ 2; decide⟩
  | d :: l, h => by
    obtain ⟨h1, h2⟩ := shaped_all l fun z hz => h z (List.mem_cons_of_mem _ hz)
    obtain ⟨h3, h4⟩ := h d List.mem_cons_self
    refine ⟨?_, ?_⟩
    · show (d.canLay0 && PyData.canLayAll0 l) = true
      rw [h3, h1] <;> rfl
    · simp only [PyData.depthAll]
      omega
theorem shaped_list {l : List PyData} (h : ∀ d ∈ l, d.canLay0 = true ∧ d.depth ≤ 2) : SeqAt.shaped (.list l) = true := by
  obtain ⟨h1, h2⟩ := shaped_all l h
  unfold SeqAt.shaped
  have z : (PyData.list l).canLay0 = true := h1
  rw [z, Bool.true_and]
  refine decide_eq_true ?_
  simp only [PyData.depth]
  omega
theorem shaped_ints (l : List Int) : SeqAt.shaped (lsI l) = true := shaped_list fun d hd => by
  obtain ⟨n, _, rfl⟩ := List.mem_map.mp hd
  exact ⟨rfl, by simp [PyData.depth]⟩
theorem shaped_prs (l : List (Int × Int)) : SeqAt.shaped (prs l) = true := shaped_list fun d hd => by
  obtain ⟨n, _, rfl⟩ := List.mem_map.mp hd
  exact ⟨rfl, by simp [pr, PyData.depth, PyData.depthAll]⟩
theorem eqv_lsI : ∀ (l m : List Int), PyData.eqv (lsI l) (lsI m) = decide (l = m) := by
  have gen : ∀ (l m : List Int), PyData.eqvAll (l.map .int) (m.map .int) = decide (l = m) := by
    intro l
    induction l with
    | nil => intro m; cases m <;> simp [PyData.eqvAll]
    | cons a l ih =>
      intro m
      cases m with
      | nil => simp [PyData.eqvAll]
      | cons b m =>
        show ((a == b) && PyData.eqvAll (l.map .int) (m.map .int)) = _
        rw [ih m]
        by_cases h : a = b <;> by_cases h2 : l = m <;> simp [h, h2]
  exact gen
end

section
variable {X : Cx} {e a b o iter tg : Expr} {es : List Expr} {rest body : List Stmt} {σ : L2.St} {H : Hp} {d : PyData} {ds ds1 ds2 : List PyData} {pos p' apos kp px : Pos} {D : Ends} {g : TG}
abbrev Gf (X : Cx) (e : Expr) (σ : L2.St) (H : Hp) (ds : List PyData) : Prop := Gv X e σ H fun v H' => Fq X.K H H' v ds
abbrev Gk (X : Cx) (e : Expr) (σ : L2.St) (H : Hp) (ds : List PyData) : Prop := Gv X e σ H fun v H' => Tq X.K H' v ds
theorem Gv.fk (h : Gv X e σ H fun v H' => Fq X.K H H' v ds) : Gk X e σ H ds := h.imp fun _ _ _ r => r.tq
theorem Gv.kd (h : Gv X e σ H fun v H' => Tq X.K H' v ds) : Gd X e σ H (.list ds) := h.imp fun _ _ _ r => r.dq
theorem f_new {H1 H2 : Hp} {vs : List V} (x : Ex H H1) (y : Ex H1 H2) (r : DqAll X.K H2 vs ds) : ∀ p, H2 p = none → Ex H1 (upd H2 p (.lst vs)) ∧ Fq X.K H (upd H2 p (.lst vs)) (.ref p) ds := fun p hp =>
  ⟨y.trans (Ex.new hp), p, vs, rfl, fresh_back (x.trans y) hp, upd_same, dpa_mono (Ex.new hp) r⟩
theorem f_lst (h : Gs X es σ H ds) (hl : ds.length ≤ 100000) : Gf X (.List es pos) σ H ds := gv_of (pe_lst cA_pa) fun H1 x Q q => h.go H1 x _ fun vs H2 y r =>
  ⟨sz_of (by rw [dpa_len r]; exact hl), fun p hp => let z := f_new x y r p hp; q _ _ z.1 z.2⟩
theorem f_cat (ha : Gk X a σ H ds1) (hb : Gk X b σ H ds2) (hl : ds1.length + ds2.length ≤ 100000) : Gf X (.BinOp a .Add b pos) σ H (ds1 ++ ds2) := gv_of (pe_op op_cat cE_pe cE_pe) fun H1 x Q q => ha.go H1 x _ fun v H2 y ⟨p, vs, e1, h1, h2⟩ => hb.go H2 (x.trans y) _ fun u H3 z ⟨p2, us, e2, h3, h4⟩ =>
  ⟨p, p2, vs, us, e1, e2, z _ _ h1, h3, sz_of (by rw [dpa_len h2, dpa_len h4]; exact hl), fun p3 hp => let w := f_new x (y.trans z) (dpa_app (dpa_mono z h2) h4) p3 hp; q _ _ w.1 w.2⟩
theorem dpa_rep {K : PySem.W.Frag} {vs : List V} {n : Nat} (h : DqAll K H vs ds) : DqAll K H (List.replicate n vs).flatten (List.replicate n ds).flatten := by
  induction n with
  | zero => exact .nil
  | succ n ih =>
    rw [List.replicate_succ, List.replicate_succ, List.flatten_cons, List.flatten_cons]
    exact dpa_app h ih
theorem f_rep {n : Int} (ha : Gk X a σ H ds) (hb : Gd X b σ H (.int n)) (hn : 0 ≤ n ∧ n ≤ 1000 ∧ ds.length ≤ 100) : Gf X (.BinOp a .Mult b pos) σ H (List.replicate n.toNat ds).flatten := gv_of (pe_op op_rep cE_pe cE_pe) fun H1 x Q q => ha.go H1 x _ fun v H2 y ⟨p, vs, e1, h1, h2⟩ => hb.go H2 (x.trans y) _ fun u H3 z r =>
  ⟨p, n, vs, e1, dp_int r, z _ _ h1, by omega, by omega, by
    rw [dpa_len h2]
    have a1 : n.toNat ≤ 1000 := by omega
    exact Nat.le_trans (Nat.mul_le_mul hn.2.2 a1) (by decide), fun p3 hp => let w := f_new x (y.trans z) (dpa_rep (n := n.toNat) (dpa_mono z h2)) p3 hp; q _ _ w.1 w.2⟩
theorem f_list (ha : Gd X a σ H (.list ds)) (hm : X.mg "list" = none) (hg : L2.Gl X "list" := by rfl) (hs : starEach [a] X.env = (false, eval a X.env) :: starEach [] X.env := by rfl) (hpl : (backTo pos (starEach [] X.env)).any (·.1) = false := by rfl) : Gf X (.Call (.Name "list" kp) [a] [] pos) σ H ds :=
  gv_of (pe_callTy call_list_of hg hm (by decide +kernel) cA_pa (by decide) (by decide) hs hpl) fun H1 x Q q => (s_cons ha s_nil hs).go H1 x _ fun vs H2 y r => by
    obtain ⟨v, rfl, r1⟩ := dp1 r
    obtain ⟨l, xs, rfl, h1, h2⟩ := dp_lst r1
    exact ⟨l, xs, rfl, .inl h1, fun p hp => let w := f_new x y h2 p hp; q _ _ w.1 w.2⟩
/-- a slice's ends -/
structure Go (X : Cx) (e : Option Expr) (σ : L2.St) (H : Hp) (n : Option Int) : Prop where
  go : ∃ t, PO X e t ∧ ∀ H1, Ex H H1 → ∀ Q : Option Int → Hp → Prop, (∀ H2, Ex H1 H2 → Q n H2) → t σ H1 Q
theorem o_none : Go X none σ H none := ⟨tNoPart, po_none, fun H1 _ _ q => q H1 (Ex.refl H1)⟩
theorem o_some {n : Int} (h : Gd X e σ H (.int n)) : Go X (some e) σ H (some n) := ⟨tPart (cE X e), po_some cE_pe, fun H1 x Q q => h.go H1 x _ fun v H2 y r => ⟨n, dp_int r, q H2 y⟩⟩
def cutD {α : Type} (xs : List α) (lo hi : Option Int) : List α := (xs.drop (HT.sIx xs.length 0 lo)).take (HT.sIx xs.length xs.length hi - HT.sIx xs.length 0 lo)
theorem dpa_cut {K : PySem.W.Frag} {vs : List V} {lo hi : Option Int} (h : DqAll K H vs ds) : DqAll K H (cutV vs lo hi) (cutD ds lo hi) := by
  unfold cutV cutD
  rw [dpa_len h]
  exact dpa_take _ (dpa_drop _ h)
theorem f_sl {lo hi : Option Expr} {i j : Option Int} {p2 : Pos} (ha : Gd X a σ H (.list ds)) (hl : Go X lo σ H i) (hh : Go X hi σ H j) : Gf X (.Subscript a (.Slice lo hi none p2) pos) σ H (cutD ds i j) := by
  obtain ⟨t1, g1, k1⟩ := hl.go
  obtain ⟨t2, g2, k2⟩ := hh.go
  refine gv_of (pe_slice sl_list cE_pe g1 g2) fun H1 x Q q => ha.go H1 x _ fun v H2 y r => k1 H2 (x.trans y) _ fun H3 z => k2 H3 ((x.trans y).trans z) _ fun H4 w => ?_
  obtain ⟨l, xs, rfl, h1, h2⟩ := dp_lst r
  refine ⟨l, xs, rfl, ex_l (z.trans w) h1, fun p hp => ?_⟩
  have u := f_new x ((y.trans z).trans w) (dpa_cut (lo := i) (hi := j) (dpa_mono (z.trans w) h2)) p hp
  exact q _ _ u.1 u.2
theorem f_rev {k : Nat} {p1 p2 p3 : Pos} (ha : Gd X a σ H (.list ds)) : Gf X (.Subscript a (.Slice none none (some (.UnaryOp .USub (.Constant (.int 1) k p1) p2)) p3) pos) σ H ds.reverse := gv_of (pe_revL cE_pe) fun H1 x Q q => ha.go H1 x _ fun v H2 y r => by
  obtain ⟨l, xs, rfl, h1, h2⟩ := dp_lst r
  exact ⟨l, xs, rfl, h1, fun p hp => let w := f_new x y (dpa_rev h2) p hp; q _ _ w.1 w.2⟩
theorem k_var (i : Nat) {x : Str} {v : V} (hN : X.N[i]? = some x) (hs : σ[i]? = some (some v)) (hd : Tq X.K H v ds)
    (hv : Vis X.env.scope x := by first | exact Or.inl rfl | exact Or.inr (Or.inl rfl) | exact Or.inr (Or.inr rfl)) (h1 : (x == ("__debug__" : Str)) = false := by decide) (h2 : (x == ("__classdict__" : Str)) = false := by decide) : Gk X (.Name x pos) σ H ds :=
  (x_varV i hN hs hv h1 h2).imp fun v' H2 x r => by rw [r]; exact hd.ex x

/-! statements that change a list of one's own -/
theorem g_append {l : Addr} {xs : List V} {R : V → Hp → Prop} (ho : Gv X o σ H fun v _ => v = .ref l) (ha : Gv X a σ H R) (hl : H l = some (.lst xs)) (hz : xs.length < 100000) (k : ∀ v H1, Ex H H1 → R v H1 → cSs X rest D σ (upd H1 l (.lst (xs ++ [v]))))
    (hbase : attributeBase o "append" X.env (eval o X.env) = eval o X.env := by rfl)
    (hfew : ((backTo pos (starEach [a] X.env)).all (fun x => !x.1) && (backToKw pos (keywordEach [] X.env)).all (fun x => x.1.isSome) && decide (([a] : List Expr).length + ([] : List Keyword).length + (if ([] : List Keyword).isEmpty then 0 else 1) < 30)) = true := by rfl)
    (hline : (apos.endLine == pos.line) = true := by rfl) (hs : starEach [a] X.env = (false, eval a X.env) :: starEach [] X.env := by rfl) (hplain : (backTo pos (starEach [] X.env)).any (·.1) = false := by rfl)
    (hsw : swapsWith (.Call (.Attribute o "append" apos) [a] [] pos) none p'.line X.env = pure false := by rfl) : cSs X (.Expr (.Call (.Attribute o "append" apos) [a] [] pos) p' :: rest) D σ H :=
  g_st (ps_expr (pe_bm PySem.F.plainAttrs_list PySem.F.slot_list_append PySem.F.type_list_append mt_append cE_pe cA_pa hbase hfew hline hs hplain) hsw) (ho.go H (Ex.refl H) _ fun v H1 x r => ⟨by
    rw [r]
    exact .inl ⟨rfl, _, SqL.of (x _ _ hl)⟩, cA_of (pa_cons cE_pe pa_nil hs) (ha.go H1 x _ fun u H2 y ru => ⟨l, xs, u, r, rfl, y _ _ (x _ _ hl), sz_lt hz, k u H2 (x.trans y) ru⟩)⟩)
theorem g_extend {l : Addr} {xs : List V} (ho : Gv X o σ H fun v _ => v = .ref l) (ha : Gk X a σ H ds) (hl : H l = some (.lst xs)) (hz : xs.length + ds.length ≤ 100000) (k : ∀ vs H1, Ex H H1 → DqAll X.K H1 vs ds → cSs X rest D σ (upd H1 l (.lst (xs ++ vs))))
    (hbase : attributeBase o "extend" X.env (eval o X.env) = eval o X.env := by rfl)
    (hfew : ((backTo pos (starEach [a] X.env)).all (fun x => !x.1) && (backToKw pos (keywordEach [] X.env)).all (fun x => x.1.isSome) && decide (([a] : List Expr).length + ([] : List Keyword).length + (if ([] : List Keyword).isEmpty then 0 else 1) < 30)) = true := by rfl)
    (hline : (apos.endLine == pos.line) = true := by rfl) (hs : starEach [a] X.env = (false, eval a X.env) :: starEach [] X.env := by rfl) (hplain : (backTo pos (starEach [] X.env)).any (·.1) = false := by rfl)
    (hsw : swapsWith (.Call (.Attribute o "extend" apos) [a] [] pos) none p'.line X.env = pure false := by rfl) : cSs X (.Expr (.Call (.Attribute o "extend" apos) [a] [] pos) p' :: rest) D σ H :=
  g_st (ps_expr (pe_bm PySem.F.plainAttrs_list PySem.F.slot_list_extend PySem.F.type_list_extend mt_extend cE_pe cA_pa hbase hfew hline hs hplain) hsw) (ho.go H (Ex.refl H) _ fun v H1 x r => ⟨by
    rw [r]
    exact .inl ⟨rfl, _, SqL.of (x _ _ hl)⟩, cA_of (pa_cons cE_pe pa_nil hs) (ha.go H1 x _ fun u H2 y ⟨p, vs, e1, h1, h2⟩ => ⟨l, p, xs, vs, r, by rw [e1], y _ _ (x _ _ hl), h1, sz_of (by rw [dpa_len h2]; exact hz), k vs H2 (x.trans y) h2⟩)⟩)
/-- xs[i] = e -/
theorem g_setItem {l : Addr} {xs : List V} {n : Int} {j : Nat} {R : V → Hp → Prop} (he : Gv X e σ H R) (ho : Gv X o σ H fun v _ => v = .ref l) (hi : Gd X a σ H (.int n)) (hl : H l = some (.lst xs)) (hj : ixN xs.length n = some j) (m : ∀ v H1 H2, Ex H1 H2 → R v H1 → R v H2) (k : ∀ v H1, Ex H H1 → R v H1 → cSs X rest D σ (upd H1 l (.lst (xs.set j v))))
    (hA : ∀ v, assign (.Subscript o a pos) X.env v = (do let ov ← holding [v] (eval o X.env); let iv ← holding [v, ov] (eval a X.env); standAt pos; holding [v, ov, iv] (setItem ov iv v); release [v, ov, iv] []) := by intro _; rfl)
    (hs : swapsWithSole [.Subscript o a pos] e p'.line X.env = pure false := by rfl) (hw : swappedStores [.Subscript o a pos] e X.env = pure none := by rfl) (h1 : (assignEach [.Subscript o a pos] X.env).map (·.2) = [assign (.Subscript o a pos) X.env] := by rfl) : cSs X (.Assign [.Subscript o a pos] e p' :: rest) D σ H :=
  g_asg (pg_sub cE_pe cE_pe set_list hA) he (fun v H1 x r => ho.go H1 x _ fun u H2 y ru => hi.go H2 (x.trans y) _ fun w H3 z rw => ⟨l, xs, n, j, ru, dp_int rw, z _ _ (y _ _ (x _ _ hl)), hj, k v H3 ((x.trans y).trans z) (m _ _ _ (y.trans z) r)⟩) hs hw h1
/-- a loop over a new list whose body changes the list at l -/
abbrev Tm (l : Addr) (D : Ends) (out : L2.St → Hp → Prop) (H' : Hp) (P : L2.St → Hp → Prop) : Ends := { D with nx := fun σ3 H3 => Mu l H' H3 ∧ P σ3 H3, ct := fun σ3 H3 => Mu l H' H3 ∧ P σ3 H3, bk := out }
theorem g_forM {l : Addr} {xs0 : List V} (hg : PG X tg g) (hi : Gf X iter σ H ds) (hl : H l = some (.lst xs0)) (hn : nls ds = true) (P : Nat → L2.St → Hp → Prop) (h0 : ∀ H1, Ex H H1 → P 0 σ H1) (hp : PassesOwn (model X.prog X.w) X.A X.env X.xe)
    (hs : ∀ (i : Nat) (d : PyData) (v : V) (σ' : L2.St) (H' : Hp), ds[i]? = some d → Mu l H H' → Dq X.K H' v d → P i σ' H' → g v σ' H' fun σ2 H2 => cSs X body (Tm l D (cSs X rest D) H' (P (i + 1))) σ2 H2)
    (hm : ∀ (Q Q' : L2.St → Hp → Prop) v σ' H', (∀ s h, Q s h → Q' s h) → g v σ' H' Q → g v σ' H' Q')
    (hd : ∀ σ' H', Mu l H H' → P ds.length σ' H' → cSs X rest D σ' H') (hc : X.calm = true := by rfl) (hf : ∀ x, foldedSetIterable iter X.env x = pure x := by intro _; rfl) : cSs X (.For tg iter body [] pos :: rest) D σ H :=
  g_forE (pi_list cE_pe) hg hp hc hf (hi.go H (Ex.refl H) _ fun v H1 x1 ⟨p, xs, e1, hp0, h1, h2⟩ => by
    subst e1
    have npl : p ≠ l := fun z => by rw [z, hl] at hp0; cases hp0
    refine ⟨p, rfl, ⟨xs, SqL.of h1⟩, for_list (xs := xs) (fun i σ' H' => Mu l H1 H' ∧ P i σ' H') ⟨Mu.refl H1, h0 H1 x1⟩ (fun i σ' H' _ q => SqL.of (q.1 _ _ npl h1)) (fun i w σ' H' hi q => ?_) fun σ' H' q => ?_⟩
    · obtain ⟨d, hd', rd⟩ := dpa_get' h2 hi
      refine hm _ _ _ _ _ (fun s h q2 => ?_) (hs i d w σ' H' hd' ((Mu.of x1).trans q.1) (dp_mu q.1 (x1 _ _ hl) rd (nls_at hn hd')) q.2)
      refine fun pins st I => wpAny_mono (q2 pins st I) (fun f s' z => ?_) fun _ _ z => z
      cases f with
      | next => obtain ⟨σ3, H3, I3, z1, z2⟩ := z; exact ⟨σ3, H3, I3, q.1.trans z1, z2⟩
      | cont => obtain ⟨σ3, H3, I3, z1, z2⟩ := z; exact ⟨σ3, H3, I3, q.1.trans z1, z2⟩
      | brk => exact z
      | ret _ => exact z
    · refine hd σ' H' ((Mu.of x1).trans q.1) ?_
      rw [← dpa_len h2]
      exact q.2)
/-- for x in range(0, hi, step) -/
theorem g_range3 {x : Str} {e1 e2 e3 : Expr} {hi c : Int} (j : Nat) (hN : X.N.Nodup) (hj : X.N[j]? = some x) (h1 : Gd X e1 σ H (.int 0)) (h2 : Gd X e2 σ H (.int hi)) (h3 : Gd X e3 σ H (.int c)) (hc : 0 < c ∧ c < 1000000) (hh : 0 ≤ hi ∧ hi < 1000000) (hz : X.mg "range" = none) (P : Nat → L2.St → Hp → Prop) (h0 : ∀ H1, Ex H H1 → P 0 σ H1) (hp : PassesOwn (model X.prog X.w) X.A X.env X.xe)
    (hs : ∀ (i : Nat) (n : Int) (σ' : L2.St) (H' : Hp), 0 ≤ n → n < hi → Ex H H' → P i σ' H' → cSs X body (Tn D (cSs X rest D) H' (P (i + 1))) (σ'.set j (some (.int n))) H')
    (hd : ∀ m σ' H', Ex H H' → P m σ' H' → cSs X rest D σ' H') (l1 : Ld X x := by first | exact Or.inl rfl | exact Or.inr rfl) (f1 : Lf X x := by first | exact .inl rfl | exact .inr rfl) (hca : X.calm = true := by rfl) (hgz : L2.Gl X "range" := by rfl)
    (s1 : starEach [e1, e2, e3] X.env = (false, eval e1 X.env) :: starEach [e2, e3] X.env := by rfl) (s2 : starEach [e2, e3] X.env = (false, eval e2 X.env) :: starEach [e3] X.env := by rfl) (s3 : starEach [e3] X.env = (false, eval e3 X.env) :: starEach [] X.env := by rfl) (hpl : (backTo p' (starEach [e2, e3] X.env)).any (·.1) = false := by rfl)
    (hf : ∀ x, foldedSetIterable (.Call (.Name "range" kp) [e1, e2, e3] [] p') X.env x = pure x := by intro _; rfl) : cSs X (.For (.Name x px) (.Call (.Name "range" kp) [e1, e2, e3] [] p') body [] pos :: rest) D σ H :=
  g_forE (pi_range3 hgz hz cA_pa s1 hpl) (pg_name hN hj l1 f1) hp hca hf ((s_cons h1 (s_cons h2 (s_cons h3 s_nil s3) s2) s1).go H (Ex.refl H) _ fun vs H1 x1 r => by
    have ev : vs = [.int 0, .int hi, .int c] := dpa_ints [0, hi, c] r
    have sz : Builtin.Range.rangeSize 0 hi c = ((if 0 < hi then ((hi - 1) / c + 1).toNat else 0 : Nat) : Int) := by
      unfold Builtin.Range.rangeSize
      rw [if_pos hc.1]
      have q : 0 ≤ (hi - 1) / c ∨ hi ≤ 0 := by
        by_cases z : 0 < hi
        · exact .inl (Int.ediv_nonneg (by omega) (by omega))
        · exact .inr (by omega)
      split
      · have e0 : hi - 0 - 1 = hi - 1 := by omega
        rw [e0]
        omega
      · rfl
    refine ⟨0, hi, c, if 0 < hi then ((hi - 1) / c + 1).toNat else 0, ev, ⟨by omega, by omega, ?_, sz⟩, for_rangeC (fun i σ' H' => Ex H1 H' ∧ P i σ' H') ⟨Ex.refl H1, h0 H1 x1⟩ (fun i σ' H' hlt q => ?_) fun σ' H' q => hd _ σ' H' (x1.trans q.1) q.2⟩
    · have fit : ∀ z : Int, -1000000000000 < z → z < 1000000000000 → Builtin.Range.rangeFitsLong z = true := fun z a1 a2 => by
        unfold Builtin.Range.rangeFitsLong
        simp
        omega
      have q2 : (hi - 1) / c ≤ hi ∨ hi ≤ 0 := by
        by_cases z : 0 < hi
        · exact .inl (by
            have := Int.ediv_le_self c (show 0 ≤ hi - 1 by omega)
            omega)
        · exact .inr (by omega)
      unfold Builtin.Range.small
      rw [sz, fit 0 (by omega) (by omega), fit hi (by omega) (by omega), fit c (by omega) (by omega), fit _ (by omega) (by split <;> omega), if_pos hc.1, fit (hi + (c - 1)) (by omega) (by omega), Bool.or_true] <;> rfl
    · have bound : 0 + (i : Int) * c < hi ∧ 0 ≤ 0 + (i : Int) * c := by
        split at hlt
        · have z : (i : Int) ≤ (hi - 1) / c := by omega
          have z2 : (i : Int) * c ≤ (hi - 1) / c * c := Int.mul_le_mul_of_nonneg_right z (by omega)
          have z3 : (hi - 1) / c * c ≤ hi - 1 := Int.ediv_mul_le _ (by omega)
          have z4 : 0 ≤ (i : Int) * c := Int.mul_nonneg (by omega) (by omega)
          omega
        · omega
      refine fun pins st I => wpAny_mono (hs i _ σ' H' bound.2 bound.1 (x1.trans q.1) q.2 pins st I) (fun f s' z => ?_) fun _ _ z => z
      cases f with
      | next => obtain ⟨σ3, H3, I3, z1, z2⟩ := z; exact ⟨σ3, H3, I3, q.1.trans z1, z2⟩
      | cont => obtain ⟨σ3, H3, I3, z1, z2⟩ := z; exact ⟨σ3, H3, I3, q.1.trans z1, z2⟩
      | brk => exact z
      | ret _ => exact z)
end
end Lw

namespace Lw
open PySem PySem.Spec PyProof.Rows L2 Evl
/-! ### a law's own draws -/
def numL (cell at_ whole : Int) : Int :=
  if 10 ^ 18 ≤ cell then cell / (1 + at_ % 7) else
    let mixed := ((cell + 977 * at_) * 48271 + whole) % 2147483647
    let more := mixed * (cell + 31 * at_ + 7)
    more * (mixed + cell + 5) * (mixed * mixed + 11) / (1009 + at_)
def mostL : List Int := [3, 12, 100, 10 ^ 30]
def cellsL (ns : List Int) : List Int := if ns = [] then [3] else ns.take 63
def valL (ns : List Int) (at_ wide : Int) : Int :=
  let cs := cellsL ns
  let m := mostL.getD wide.toNat 0
  numL (cs.getD (at_ % (cs.length : Int)).toNat 0) at_ cs.length / 3 % (2 * m + 1) - m
theorem valL_bd (ns : List Int) (at_ wide : Int) : Bd 100 (valL ns at_ wide) := by
  unfold valL
  simp only
  generalize numL _ _ _ = z
  have hm : 0 ≤ mostL.getD wide.toNat 0 ∧ mostL.getD wide.toNat 0 ≤ 10 ^ 30 := by
    unfold mostL
    rcases wide.toNat with _ | _ | _ | _ | n
    · exact ⟨by decide, by decide⟩
    · exact ⟨by decide, by decide⟩
    · exact ⟨by decide, by decide⟩
    · exact ⟨by decide, by decide⟩
    · exact ⟨by simp, by simp⟩
  generalize mostL.getD wide.toNat 0 = m at *
  have h1 := Int.emod_nonneg (z / 3) (show 2 * m + 1 ≠ 0 by omega)
  have h2 := Int.emod_lt_of_pos (z / 3) (show 0 < 2 * m + 1 by omega)
  refine Bd.of ?_ ?_
  · have : (10 : Int) ^ 30 < 2 ^ 100 := by decide
    omega
  · have : (10 : Int) ^ 30 < 2 ^ 100 := by decide
    omega
theorem take63_ne {ns : List Int} (h : ns ≠ []) : 0 < (ns.take 63).length := by
  rw [List.length_take]
  have : 0 < ns.length := by cases ns with | nil => exact absurd rfl h | cons a l => simp
  omega
theorem cells_len (ns : List Int) : 0 < (cellsL ns).length ∧ (cellsL ns).length ≤ 63 := by
  unfold cellsL
  split
  · exact ⟨by decide, by decide⟩
  · rename_i h
    exact ⟨take63_ne h, by rw [List.length_take]; omega⟩
theorem cells_bd {n : Nat} {ns : List Int} (hn : 2 ≤ n) (h : ∀ c ∈ ns, Bd n c) : ∀ c ∈ cellsL ns, Bd n c := by
  unfold cellsL
  split
  · intro c hc
    have e : c = 3 := by simpa using hc
    subst e
    exact Bd.mono (n := 2) (show (3 : Nat) < 4 by decide) hn
  · exact fun c hc => h c (List.mem_of_mem_take hc)
theorem cut_to (l : List Int) (k : Nat) : cutD (l.map PyData.int) none (some (k : Int)) = (l.take k).map .int := by
  unfold cutD
  rw [HT.sIx_none, HT.sIx_nat, List.drop_zero, Nat.sub_zero, List.length_map, ← List.map_take]
  by_cases h : k ≤ l.length
  · rw [Nat.min_eq_left h]
  · rw [Nat.min_eq_right (by omega), List.take_of_length_le (Nat.le_refl _), List.take_of_length_le (by omega)]
theorem cut_from (l : List Int) (k : Nat) : cutD (l.map PyData.int) (some (k : Int)) none = (l.drop k).map .int := by
  unfold cutD
  rw [HT.sIx_none, HT.sIx_nat, List.length_map, ← List.map_drop, ← List.map_take]
  by_cases h : k ≤ l.length
  · rw [Nat.min_eq_left h, List.take_of_length_le (by rw [List.length_drop]; omega)]
  · rw [Nat.min_eq_right (by omega), Nat.sub_self, List.drop_eq_nil_of_le (show l.length ≤ k by omega)] <;> rfl
theorem atI_ints {l : List Int} {n : Int} (h0 : 0 ≤ n) (h : n < l.length) : atI (l.map PyData.int) n = some (.int (l.getD n.toNat 0)) := by
  have e : n = ((n.toNat : Nat) : Int) := by omega
  have q : n.toNat < l.length := by omega
  have z : (l.map PyData.int)[n.toNat]? = some (.int (l.getD n.toNat 0)) := by
    rw [List.getElem?_map, List.getElem?_eq_getElem q, List.getD_eq_getElem?_getD, List.getElem?_eq_getElem q]
    rfl
  rw [e]
  exact atI_nat z
/-- the leap's order in the law -/
theorem eight_law (a b : Int) : [(1 * a, b), (1 * a, -b), (-1 * a, b), (-1 * a, -b), (1 * b, a), (1 * b, -a), (-1 * b, a), (-1 * b, -a)] = eightL a b := by
  simp [eightL]
def bitsL : Nat := 1048577
theorem bd_bits {z : Int} (h : Builtin.Int.intBits z ≤ 1048576) : Bd bitsL z := by
  unfold Builtin.Int.intBits at h
  show z.natAbs < 2 ^ 1048577
  split at h
  · rename_i h0
    have : z.natAbs = 0 := by simpa using h0
    rw [this]
    exact Nat.two_pow_pos _
  · have q : z.natAbs < 2 ^ (z.natAbs.log2 + 1) := Nat.lt_log2_self
    exact Nat.lt_of_lt_of_le q (Nat.pow_le_pow_right (by decide) (by omega))
end Lw
namespace Lw
open PySem PySem.Spec PyProof.Rows L2 Evl
section
variable {H : Hp} {K : PySem.W.Frag}
theorem rd_eqD {d f : PyData} (hd : SeqAt.shaped d = true) (hf : SeqAt.shaped f = true) : RD K H (rEqD K) d f (.bool (PyData.eqv d f)) := fun H1 _ x y rx ry Q q =>
  ⟨d, f, to_dp d _ (SeqAt.canLay_of_shaped hd) rx, to_dp f _ (SeqAt.canLay_of_shaped hf) ry, hd, hf, q _ H1 (Ex.refl H1) (.bl _)⟩
theorem rd_neD {d f : PyData} (hd : SeqAt.shaped d = true) (hf : SeqAt.shaped f = true) : RD K H (rNeD K) d f (.bool (!PyData.eqv d f)) := fun H1 _ x y rx ry Q q =>
  ⟨d, f, to_dp d _ (SeqAt.canLay_of_shaped hd) rx, to_dp f _ (SeqAt.canLay_of_shaped hf) ry, hd, hf, q _ H1 (Ex.refl H1) (.bl _)⟩
end
/-- the eight leaps as the law makes them -/
def bigL (a b : Int) : List (Int × Int) := [(1 * a, b), (1 * a, -b), (-1 * a, b), (-1 * a, -b), (1 * b, a), (1 * b, -a), (-1 * b, a), (-1 * b, -a)]
def prL (l : List (Int × Int)) : List PyData := l.map fun p => pr p.1 p.2
theorem nls_prL : ∀ l : List (Int × Int), nls (prL l) = true := fun l => nls_map (fun p : Int × Int => pr p.1 p.2) (fun _ => rfl) l
theorem barsP_of {a b x y q : Int} (hq : 0 < q) : barsP a b x y q = ((decide (a % q = 0) && (decide (b % q = 0) && (decide (0 < x % q) || decide (0 < y % q)))) || ((decide ((a + b) % q = 0) && decide ((a - b) % q = 0)) && decide (0 < (x + y) % q))) := by
  have one : ∀ z : Int, decide (0 < z % q) = !decide (z % q = 0) := fun z => by
    have h := Int.emod_nonneg z (show q ≠ 0 by omega)
    by_cases c : z % q = 0
    · simp [c]
    · have : 0 < z % q := by omega
      simp [c, this]
  unfold barsP into
  rw [one, one, one, decide_eq_true hq]
  cases decide (a % q = 0) <;> cases decide (b % q = 0) <;> cases decide (x % q = 0) <;> cases decide (y % q = 0) <;> rfl
end Lw
namespace Lw
open PySem
theorem lkno {f g : Str} {v : L2.V} (h : (f == g) = false) : List.lookup f [(g, v)] = none := by simp [List.lookup, h]
end Lw

namespace Lw
open PySem PySem.Spec PyProof.Rows L2 Evl
section
variable {X : Cx} {iter elt a e : Expr} {scope : Scope} {x y : Str} {px py pos spos p' kp : Pos} {σ : L2.St} {H : Hp} {ds fs : List PyData} {rest : List Stmt} {D : Ends}
theorem lcL_read {Q : VK} (jj : Nat) (hi : Gd X iter σ H (.list ds)) (hl : fs.length = ds.length) (hz : fs.length ≤ 100000) (hn : nls fs = true)
    (he : ∀ (i : Nat) (d f : PyData) (v : V) (H1 : Hp), ds[i]? = some d → fs[i]? = some f → Ex H H1 → Dq X.K H1 v d → ∀ s H0 C cl fp, Gd (X.blk s H0 scope (compEnvC scope cl C X.env) fp) elt ((wipe σ [jj]).set jj (some v)) H1 f)
    (q : ∀ v H1, Ex H H1 → Fq X.K H H1 v fs → Q v H1) : tLc (iList X.K (cE X iter)) (gName jj) tYes (cB X scope elt) [jj] σ H Q := hi.go H (Ex.refl H) _ fun v H2 x1 r => by
  obtain ⟨a, xs, rfl, h1, h2⟩ := dp_lst r
  refine ⟨a, rfl, ⟨xs, h1⟩, fun D hD => lc_list (xs := xs) (Lcw X.K H2 D fs) ⟨hD, Ex.new hD, [], upd_same, .nil⟩ (fun i H' _ p => ex_l p.2.1 h1) (fun i u H' hu p => ?_) fun H' p => ?_⟩
  · obtain ⟨d, hd, rd⟩ := dpa_get' h2 hu
    have li : i < fs.length := by rw [hl]; exact (List.getElem?_eq_some_iff.mp hd).1
    refine ⟨wipe1 σ jj _, ?_⟩
    refine lcw_turn (te := cB X scope elt) p (List.getElem?_eq_getElem li) hz hn fun Q' q' s H0 C cl fp => ?_
    exact (he i d _ u H' hd (List.getElem?_eq_getElem li) (x1.trans p.2.1) (dp_mono p.2.1 rd) s H0 C cl fp).go H' (Ex.refl H') Q' q'
  · obtain ⟨p1, p2, vs, p3, p4⟩ := p
    rw [dpa_len h2, ← hl, List.take_length] at p4
    exact q _ H' (x1.trans p2) ⟨D, vs, rfl, fresh_back x1 p1, p3, p4⟩
/-- y = [elt for x in iter] -/
theorem g_setLcL (i jj : Nat) (hN : X.N.Nodup) (hy : X.N[i]? = some y) (hi : Gd X iter σ H (.list ds)) (ok : BlkOk X.N X.env.scope scope [(x, jj)]) (hl : fs.length = ds.length) (hz : fs.length ≤ 100000) (hn : nls fs = true)
    (he : ∀ (i : Nat) (d f : PyData) (v : V) (H1 : Hp), ds[i]? = some d → fs[i]? = some f → Ex H H1 → Dq X.K H1 v d → ∀ s H0 C cl fp, Gd (X.blk s H0 scope (compEnvC scope cl C X.env) fp) elt ((wipe σ [jj]).set jj (some v)) H1 f)
    (k : ∀ v H1, Ex H H1 → Fq X.K H H1 v fs → cSs X rest D (σ.set i (some v)) H1)
    (hg : ∀ (s : Shared) (H0 : Hp) (C : Addr) (cl : List (Str × Addr)) (fp : List Addr), PG (X.blk s H0 scope (compEnvC scope cl C X.env) fp) (.Name x px) (gName jj))
    (hsw : swapsWith (.ListComp elt [⟨.Name x px, iter, [], 0⟩] scope pos) (some (.Name y py)) spos.line X.env = pure true) (hyl : X.env.scope.names.lookup y = some .local := by rfl) (hc : X.calm = true := by rfl) (hs : ∀ x, foldedSetIterable iter X.env x = pure x := by intro _; rfl) :
    cSs X (.Assign [.Name y py] (.ListComp elt [⟨.Name x px, iter, [], 0⟩] scope pos) spos :: rest) D σ H :=
  g_st (ps_setLc (own := [(x, jj)]) (tt := tYes) hc hN hy hyl hsw (pi_list cE_pe) ok hg (fun _ _ _ _ _ => pts_nil) (fun s H0 C cl fp => cB_pe s H0 C cl fp) hs) (lcL_read jj hi hl hz hn he k)
end
/-- what isinstance asks of a class of one's own -/
structure Isi (K : PySem.W.Frag) (C : Addr) : Prop where
  cl : Cls K C
  ha : PySem.W.findIn K (.ref C) "__class__" = some (some (.builtin "object.__class__"))
  hn : PySem.W.specialIn K (.builtin "object.__class__") "__get__" = some (some (.builtin "getset_descriptor.__get__"))
  ht : PySem.W.takesIn K (.builtin "object.__class__") = some true
  hm : PySem.W.mroIn K C (.type "object") = some true
section
variable {X : Cx} {a e : Expr} {pos p kp q : Pos} {σ : L2.St} {H : Hp}
theorem x_cls {T : Str} {C : Addr} (hm : X.mg T = some (.ref C)) (hg : L2.Gl X T := by rfl) (h2 : (T == ("__debug__" : Str)) = false := by decide) : Gv X (.Name T p) σ H fun v _ => v = .ref C :=
  gv_v (pe_glob hg hm (show RelV (.ref C) (.ref C) from rfl) h2) ev_c
theorem x_isiO {T : Str} {r C C' dx : Addr} {fs : List (Str × V)} {c : Bool} (ho : Gv X a σ H fun v _ => v = .ref r) (hp : H r = some (.ins C dx fs)) (I : Isi X.K C) (hT : X.mg T = some (.ref C')) (hk : PySem.W.kitOne X.K (.ref C) (.ref C') = some c) (hm : X.mg "isinstance" = none)
    (hgT : L2.Gl X T := by rfl) (h2 : (T == ("__debug__" : Str)) = false := by decide) (hg : L2.Gl X "isinstance" := by rfl)
    (hs : starEach [a, .Name T q] X.env = (false, eval a X.env) :: starEach [.Name T q] X.env := by rfl) (hs2 : starEach [.Name T q] X.env = (false, eval (.Name T q) X.env) :: starEach [] X.env := by rfl) (hpl : (backTo pos (starEach [.Name T q] X.env)).any (·.1) = false := by rfl) :
    Gd X (.Call (.Name "isinstance" p) [a, .Name T q] [] pos) σ H (.bool c) :=
  gv_of (pe_callB call_isi hg hm (by decide +kernel) cA_pa (by decide) (by decide) hs hpl) fun H1 x Q k =>
    (l_cons (R := fun vs _ => vs = [.ref r, .ref C']) ho (fun _ _ _ _ z => z) (l_cons (R := fun vs _ => vs = [.ref C']) (x_cls hT hgT h2) (fun _ _ _ _ z => z) (l_nil (R := fun vs _ => vs = []) fun _ => rfl) (fun v vs _ r1 r2 => by rw [r1, r2]) hs2)
      (fun v vs _ r1 r2 => by rw [r1, r2]) hs).go H1 x _ fun vs H2 y z => ⟨.ref r, .ref C', _, _, c, z, .own C', .base (.ins (y _ _ (x _ _ hp)) I.cl I.ha I.hn I.ht I.hm), hk, k _ H2 y (.bl c)⟩
/-- told, its two ends -/
def ToldR (K : PySem.W.Frag) (CW CN : Addr) (a b x y : Int) (H : Hp) (v : V) (H' : Hp) : Prop :=
  (∃ q p, barBy a b x y = some q ∧ v = .ref p ∧ H p = none ∧ NevAt CN H' p q) ∨
  (∃ p l, barBy a b x y = none ∧ v = .ref p ∧ H p = none ∧ H l = none ∧ WayAt CW H' p l ∧ H' l = some (.lst ((tellCt a b x y).map V.int)))
theorem x_told {e1 e2 : Expr} {CW CN : Addr} {k n : Nat} {ps : List Str} {aa b x y : Int} (Df_ : Df X.prog X.w X.K X.mg X.base CX0 "told" k ps (spTold X.K CW CN)) (hr : Room n X.A) (hk : k ≤ n) (h1 : Gd X e1 σ H (pr aa b)) (h2 : Gd X e2 σ H (pr x y))
    (hb : 0 ≤ aa ∧ 0 ≤ b ∧ (0 < aa ∨ 0 < b) ∧ Bd 2000 aa ∧ Bd 2000 b ∧ Bd 2000 x ∧ Bd 2000 y) (hg : L2.Gl X "told" := by rfl)
    (hs : starEach [e1, e2] X.env = (false, eval e1 X.env) :: starEach [e2] X.env := by rfl) (hs2 : starEach [e2] X.env = (false, eval e2 X.env) :: starEach [] X.env := by rfl) (hpl : (backTo pos (starEach [e2] X.env)).any (·.1) = false := by rfl) :
    Gv X (.Call (.Name "told" kp) [e1, e2] [] pos) σ H (ToldR X.K CW CN aa b x y H) :=
  x_callR Df_ hr hk pass0 (s_cons h1 (s_cons h2 s_nil hs2) hs) (fun vs H1 x1 r Q q => by
    obtain ⟨v, u, rfl, r1, r2⟩ := dp2 r
    exact ⟨v, u, aa, b, x, y, rfl, r1, r2, hb, fun q' p H2 z1 z2 z3 z4 => q _ H2 z3 (.inl ⟨q', p, z1, rfl, fresh_back x1 z2, z4⟩), fun p l H2 z1 z2 z3 z4 z5 z6 => q _ H2 z4 (.inr ⟨p, l, z1, rfl, fresh_back x1 z2, fresh_back x1 z3, z5, z6⟩)⟩) hg (by decide) hs hpl
end
theorem moreP_le (a b e s : Int) (he : e.natAbs ≤ 1) (hs : s.natAbs ≤ 1) : (moreP a b e s).1.natAbs ≤ 1 ∧ (moreP a b e s).2.natAbs ≤ 1 := by
  unfold moreP
  split
  · exact ⟨hs, he⟩
  · split
    · exact ⟨he, hs⟩
    · exact ⟨he, by show (0 : Int).natAbs ≤ 1; decide⟩
theorem mx0_bd {n : Nat} {i : Int} (h : Bd n i) : Bd n (mx0 i) ∧ 0 ≤ mx0 i := by
  unfold mx0
  split
  · exact ⟨h, by omega⟩
  · exact ⟨h.nat (by simp), by decide⟩
/-- the told counts are counts of few bits -/
theorem tell_ok {a b x y : Int} (ha : 0 ≤ a) (hb : 0 ≤ b) (h : 0 < a ∨ 0 < b) (ba : Bd 2000 a) (bb : Bd 2000 b) (bx : Bd 2000 x) (by' : Bd 2000 y) : CtOk 5000 (tellCt a b x y) := by
  have G := gcdE_ok ha hb h
  obtain ⟨bg, bu, bv⟩ := G.bd ba bb
  unfold tellCt
  simp only
  generalize (gcdE a b).1 = g at *
  generalize (gcdE a b).2.1 = u at *
  generalize (gcdE a b).2.2 = v at *
  have q3 : Bd 2000 (x / g) := bx.div
  have q4 : Bd 2000 (y / g) := by'.div
  have q5 : Bd 2000 (a / g) := ba.div
  have q6 : Bd 2000 (b / g) := bb.div
  generalize a / g = a' at *
  generalize b / g = b' at *
  generalize x / g = x' at *
  generalize y / g = y' at *
  have t1 : Bd 4004 (u * x') := (bu.mul q3).mono (by decide)
  have t2 : Bd 4004 (v * x') := (bv.mul q3).mono (by decide)
  have t3 : Bd 4004 (v * y') := (bv.mul q4).mono (by decide)
  have t4 : Bd 4004 (u * y') := (bu.mul q4).mono (by decide)
  unfold alongA evenP
  simp only
  have m := moreP_le a' b' ((u * x' - v * y') % 2) ((v * x' - u * y') % 2) (by omega) (by omega)
  generalize moreP a' b' _ _ = mm at *
  obtain ⟨m1, m2⟩ := mm
  have w1 : Bd 1 m1 := Bd.small m.1 (by decide)
  have w2 : Bd 1 m2 := Bd.small m.2 (by decide)
  have s1 : Bd 4005 (u * x' + m1 * b') := t1.add ((w1.mul q6).mono (by decide))
  have s2 : Bd 4005 (v * x' - m1 * a') := t2.sub ((w1.mul q5).mono (by decide))
  have s3 : Bd 4005 (v * y' + m2 * a') := t3.add ((w2.mul q5).mono (by decide))
  have s4 : Bd 4005 (u * y' - m2 * b') := t4.sub ((w2.mul q6).mono (by decide))
  generalize u * x' + m1 * b' = al at *
  generalize v * x' - m1 * a' = bl at *
  generalize v * y' + m2 * a' = bc at *
  generalize u * y' - m2 * b' = ac at *
  have p : Bd 5000 ((al + bc) / 2) := ((s1.add s3).div).mono (by decide)
  have q : Bd 5000 ((al - bc) / 2) := ((s1.sub s3).div).mono (by decide)
  have r : Bd 5000 ((bl + ac) / 2) := ((s2.add s4).div).mono (by decide)
  have s : Bd 5000 ((bl - ac) / 2) := ((s2.sub s4).div).mono (by decide)
  refine ⟨rfl, fun c hc => ?_⟩
  simp only [ctTo, List.mem_cons, List.not_mem_nil, or_false] at hc
  rcases hc with rfl | rfl | rfl | rfl | rfl | rfl | rfl | rfl
  · exact (mx0_bd p).symm
  · exact (mx0_bd q).symm
  · exact (mx0_bd q.neg).symm
  · exact (mx0_bd p.neg).symm
  · exact (mx0_bd r).symm
  · exact (mx0_bd s).symm
  · exact (mx0_bd s.neg).symm
  · exact (mx0_bd r.neg).symm
theorem bar_bd {a b x y q : Int} (ha : 0 ≤ a) (hb : 0 ≤ b) (h : 0 < a ∨ 0 < b) (ba : Bd 2000 a) (bb : Bd 2000 b) (hq : barBy a b x y = some q) : Bd 2010 q := by
  have G := gcdE_ok ha hb h
  obtain ⟨bg, bu, bv⟩ := G.bd ba bb
  unfold barBy at hq
  simp only at hq
  generalize (gcdE a b).1 = g at *
  split at hq
  · rw [← Option.some.inj hq]
    exact bg.mono (by decide)
  · split at hq
    · rw [← Option.some.inj hq]
      exact ((Bd.of (n := 2) (i := 2) (by decide) (by decide)).mul bg).mono (by decide)
    · cases hq
end Lw

namespace Lw
open PySem PySem.Spec PyProof.Rows L2 Evl
def moreL (cs : List Int) (k : Nat) : List Int := cs.take k ++ [cs.getD k 0 + 1] ++ cs.drop (k + 1)
section
variable {X : Cx} {A I : Expr} {σ : L2.St} {H : Hp} {p1 p2 p3 p4 p5 p6 p7 p8 p9 p10 p11 pos : Pos} {j1 j2 : Nat} {cs : List Int} {k : Nat} {n : Int}
theorem f_more {A2 A3 I2 I3 : Expr} (hA : Gd X A σ H (lsI cs)) (hA2 : Gd X A2 σ H (lsI cs)) (hA3 : Gd X A3 σ H (lsI cs)) (hI : Gd X I σ H (.int (k : Int))) (hI2 : Gd X I2 σ H (.int (k : Int))) (hI3 : Gd X I3 σ H (.int (k : Int))) (hk : k < cs.length) (hl : cs.length ≤ 1000) (hs : PlainIx I2 := by exact fun _ _ => rfl)
    (h1 : starEach [(.BinOp (.Subscript A2 I2 p3) .Add (.Constant (.int 1) j1 p4) p5 : Expr)] X.env = (false, eval (.BinOp (.Subscript A2 I2 p3) .Add (.Constant (.int 1) j1 p4) p5) X.env) :: starEach [] X.env := by rfl) :
    Gf X (.BinOp (.BinOp (.Subscript A (.Slice none (some I) none p1) p2) .Add (.List [.BinOp (.Subscript A2 I2 p3) .Add (.Constant (.int 1) j1 p4) p5] p6) p7) .Add (.Subscript A3 (.Slice (some (.BinOp I3 .Add (.Constant (.int 1) j2 p8) p9)) none none p10) p11) pos) σ H ((moreL cs k).map .int) := by
  refine Gv.imp (f_cat (f_cat (f_sl (i := none) (j := some (k : Int)) hA o_none (o_some hI)).fk (f_lst (ds := [.int (cs.getD k 0 + 1)]) (s_cons (x_add (x_ixL hA2 hI2 (atI_ints (n := (k : Int)) (by omega) (by omega)) hs) x_int) s_nil h1) (by simp)).fk (by
    show (cutD (cs.map PyData.int) none (some ((k : Nat) : Int))).length + 1 ≤ _
    rw [cut_to, List.length_map, List.length_take]
    omega)).fk (f_sl (i := some ((k : Int) + 1)) (j := none) hA3 (o_some (x_add hI3 x_int)) o_none).fk (by
    show (cutD (cs.map PyData.int) none (some ((k : Nat) : Int)) ++ _).length + (cutD (cs.map PyData.int) (some (((k + 1 : Nat) : Nat) : Int)) none).length ≤ _
    rw [cut_to, cut_from, List.length_append, List.length_map, List.length_map, List.length_take, List.length_drop]
    show min k cs.length + 1 + _ ≤ _
    omega)) fun v H' _ r => ?_
  have e : cutD (cs.map PyData.int) none (some (k : Int)) ++ [PyData.int (cs.getD k 0 + 1)] ++ cutD (cs.map PyData.int) (some ((k : Int) + 1)) none = (moreL cs k).map .int := by
    show cutD (cs.map PyData.int) none (some ((k : Nat) : Int)) ++ [PyData.int (cs.getD k 0 + 1)] ++ cutD (cs.map PyData.int) (some (((k + 1 : Nat) : Nat) : Int)) none = _
    rw [cut_to, cut_from]
    unfold moreL
    rw [List.map_append, List.map_append]
    rfl
  rw [← e]
  exact r
end
theorem moreL_len {cs : List Int} {k : Nat} (hk : k < cs.length) : (moreL cs k).length = cs.length := by
  unfold moreL
  simp only [List.length_append, List.length_take, List.length_drop, List.length_cons, List.length_nil]
  omega
theorem moreL_bd {m : Nat} {cs : List Int} {k : Nat} (hk : k < cs.length) (h : ∀ n ∈ cs, Bd m n) (hm : 1 ≤ m) : ∀ n ∈ moreL cs k, Bd (m + 1) n := fun n hn => by
  unfold moreL at hn
  rw [List.mem_append, List.mem_append] at hn
  rcases hn with (hn | hn) | hn
  · exact (h n (List.mem_of_mem_take hn)).mono (by omega)
  · have e : n = cs.getD k 0 + 1 := by simpa using hn
    rw [e, List.getD_eq_getElem?_getD, List.getElem?_eq_getElem hk]
    exact (h _ (List.getElem_mem hk)).add (Bd.small (by decide) (by omega))
  · exact (h n (List.mem_of_mem_drop hn)).mono (by omega)
theorem set_bd {m : Nat} {cs : List Int} {j : Nat} {z : Int} (h : ∀ n ∈ cs, Bd m n) (hz : Bd m z) : ∀ n ∈ cs.set j z, Bd m n := fun n hn => by
  rcases List.mem_or_eq_of_mem_set hn with q | q
  · exact h n q
  · rw [q]; exact hz
theorem map_set_int (cs : List Int) (j : Nat) (z : Int) : (cs.map V.int).set j (.int z) = (cs.set j z).map V.int := by rw [List.map_set]
end Lw

namespace Lw
open PySem PySem.Spec PyProof.Rows L2 Evl
section
variable {X : Cx} {o e : Expr} {es : List Expr} {σ : L2.St} {H : Hp} {pos apos kp p1 : Pos} {R : V → Hp → Prop}
/-- o.m(e, ..), o made just now -/
theorem x_methR {sp : Sp} {C : Addr} {m : Str} {k n : Nat} {ps : List Str} {RO : V → Hp → Prop} {RA : List V → Hp → Prop} {pl : Sem Bool} (M : Ms X.prog X.w X.K X.mg X.base C m k ps sp) (hr : Room n X.A) (hk : k ≤ n) (ho : Gv X o σ H RO)
    (hp : ∀ v H1, RO v H1 → ∃ p dx fs, v = .ref p ∧ H1 p = some (.ins C dx fs) ∧ fs.lookup m = none)
    (ha : Gl X (e :: es) σ H RA) (hs : ∀ v H1 vs H2, RO v H1 → Ex H1 H2 → RA vs H2 → ∀ Q : VK, (∀ v H3, Ex H2 H3 → R v H3 → Q v H3) → sp (v :: vs) H2 Q E0)
    (hst : starEach (e :: es) X.env = (false, eval e X.env) :: starEach es X.env := by rfl) (hpl : (backTo pos (starEach es X.env)).any (·.1) = false := by rfl)
    (ht : eval (.Call (.Attribute o m apos) (e :: es) [] pos) X.env = (do let u ← eval o X.env; standAt apos.atName; let (g, one) ← holding [u] (getMethod u m pl); callWith pos g one (backTo pos (starEach (e :: es) X.env)) (backToKw pos (keywordEach [] X.env))) := by rfl) : Gv X (.Call (.Attribute o m apos) (e :: es) [] pos) σ H R := by
  obtain ⟨f, fd, hm, hb, F⟩ := M.ex
  refine gv_of (pe_meth cE_pe M.cl hm F (hr.mono hk) hb .nil pass0 cA_pa hst hpl ht) fun H1 x Q q => ho.go H1 x _ fun v' H2 y r => ?_
  obtain ⟨p, dx, fs, e1, e2, e3⟩ := hp v' H2 r
  refine ⟨p, dx, fs, e1, e2, e3, ha.go H2 (x.trans y) _ fun vs H3 z rv => ?_⟩
  rw [List.append_nil]
  exact hs v' H2 vs H3 r z rv Q fun v H4 u rw => q v H4 ((y.trans z).trans u) rw
theorem x_waySays {l pl e0 : Expr} {C : Addr} {cn : Str} {a b x y : Int} {cs : List Int} {k k2 n : Nat} {ps ps2 : List Str} {pl2 : Sem Bool} (M : Mi X.prog X.w X.K X.mg X.base cn C k ps (spWi X.K C)) (S : Ms X.prog X.w X.K X.mg X.base C "shows" k2 ps2 (spWs X.K C)) (hr : Room n X.A) (hk : k + 1 ≤ n ∧ k2 ≤ n)
    (he : Gd X e0 σ H (lsI cs)) (hl : Gd X l σ H (pr a b)) (hp : Gd X pl σ H (pr x y)) (hh : isLp (pr a b) = true ∧ Bd 60000 a ∧ Bd 60000 b ∧ cs.length ≤ 1000 ∧ ∀ c ∈ cs, Bd 60000 c) (hg : L2.Gl X cn := by rfl) (hdb : (cn == ("__debug__" : Str)) = false := by decide)
    (h1 : starEach [e0] X.env = (false, eval e0 X.env) :: starEach [] X.env := by rfl) (h2 : (backTo p1 (starEach [] X.env)).any (·.1) = false := by rfl)
    (hst : starEach [l, pl] X.env = (false, eval l X.env) :: starEach [pl] X.env := by rfl) (hst2 : starEach [pl] X.env = (false, eval pl X.env) :: starEach [] X.env := by rfl) (hpl : (backTo pos (starEach [pl] X.env)).any (·.1) = false := by rfl)
    (ht : eval (.Call (.Attribute (.Call (.Name cn kp) [e0] [] p1) "shows" apos) [l, pl] [] pos) X.env = (do let u ← eval (.Call (.Name cn kp) [e0] [] p1) X.env; standAt apos.atName; let (g, one) ← holding [u] (getMethod u "shows" pl2); callWith pos g one (backTo pos (starEach [l, pl] X.env)) (backToKw pos (keywordEach [] X.env))) := by rfl) :
    Gd X (.Call (.Attribute (.Call (.Name cn kp) [e0] [] p1) "shows" apos) [l, pl] [] pos) σ H (.bool (wayOk a b x y cs)) :=
  x_methR S hr hk.2 (x_way (cs := cs) M hr hk.1 he hg hdb h1 h2) (fun v H1 ⟨p, l, e1, _, _, ⟨dx, e2⟩, _⟩ => ⟨p, dx, _, e1, e2, lkno (by decide)⟩) (s_cons hl (s_cons hp s_nil hst2) hst)
    (fun v H1 vs H2 ⟨p, l, e1, _, _, ⟨dx, e2⟩, e3⟩ x1 r Q q => by
      obtain ⟨w1, w2, rfl, r1, r2⟩ := dp2 r
      exact ⟨p, l, w1, w2, a, b, x, y, cs, by rw [e1], ⟨dx, x1 _ _ e2⟩, .lst (SqL.of (x1 _ _ e3)) (dpa_of_ints cs), r1, r2, hh, fun H3 x3 => q _ H3 x3 (.bl _)⟩) hst hpl ht
theorem x_nevSays {l pl e0 : Expr} {C : Addr} {cn : Str} {a b x y c : Int} {k k2 n : Nat} {ps ps2 : List Str} {pl2 : Sem Bool} (M : Mi X.prog X.w X.K X.mg X.base cn C k ps (spNi C)) (S : Ms X.prog X.w X.K X.mg X.base C "shows" k2 ps2 (spNs X.K C)) (hr : Room n X.A) (hk : k + 1 ≤ n ∧ k2 ≤ n)
    (he : Gd X e0 σ H (.int c)) (hl : Gd X l σ H (pr a b)) (hp : Gd X pl σ H (pr x y)) (hg : L2.Gl X cn := by rfl) (hdb : (cn == ("__debug__" : Str)) = false := by decide)
    (h1 : starEach [e0] X.env = (false, eval e0 X.env) :: starEach [] X.env := by rfl) (h2 : (backTo p1 (starEach [] X.env)).any (·.1) = false := by rfl)
    (hst : starEach [l, pl] X.env = (false, eval l X.env) :: starEach [pl] X.env := by rfl) (hst2 : starEach [pl] X.env = (false, eval pl X.env) :: starEach [] X.env := by rfl) (hpl : (backTo pos (starEach [pl] X.env)).any (·.1) = false := by rfl)
    (ht : eval (.Call (.Attribute (.Call (.Name cn kp) [e0] [] p1) "shows" apos) [l, pl] [] pos) X.env = (do let u ← eval (.Call (.Name cn kp) [e0] [] p1) X.env; standAt apos.atName; let (g, one) ← holding [u] (getMethod u "shows" pl2); callWith pos g one (backTo pos (starEach [l, pl] X.env)) (backToKw pos (keywordEach [] X.env))) := by rfl) :
    Gd X (.Call (.Attribute (.Call (.Name cn kp) [e0] [] p1) "shows" apos) [l, pl] [] pos) σ H (.bool (barsP a b x y c)) :=
  x_methR S hr hk.2 (x_never (n := c) M hr hk.1 he hg hdb h1 h2) (fun v H1 ⟨p, e1, _, dx, e2⟩ => ⟨p, dx, _, e1, e2, lkno (by decide)⟩) (s_cons hl (s_cons hp s_nil hst2) hst)
    (fun v H1 vs H2 ⟨p, e1, _, dx, e2⟩ x1 r Q q => by
      obtain ⟨w1, w2, rfl, r1, r2⟩ := dp2 r
      exact ⟨p, c, w1, w2, a, b, x, y, by rw [e1], ⟨dx, x1 _ _ e2⟩, r1, r2, fun H3 x3 => q _ H3 x3 (.bl _)⟩) hst hpl ht
end
theorem Bd.ab {n : Nat} {i : Int} (h : Bd n i) : Bd n (if i < 0 then -i else i) ∧ 0 ≤ (if i < 0 then -i else i) := by
  split
  · exact ⟨h.neg, by omega⟩
  · exact ⟨h, by omega⟩
/-- the leap that a law draws -/
def leapL (a b : Int) : Int × Int := if 0 < a + b then (a, b) else (2, 0)
theorem leapL_ok {n : Nat} {a b : Int} (ha : 0 ≤ a) (hb : 0 ≤ b) (ba : Bd n a) (bb : Bd n b) (hn : 2 ≤ n) : 0 ≤ (leapL a b).1 ∧ 0 ≤ (leapL a b).2 ∧ (0 < (leapL a b).1 ∨ 0 < (leapL a b).2) ∧ Bd n (leapL a b).1 ∧ Bd n (leapL a b).2 := by
  unfold leapL
  split
  · exact ⟨ha, hb, by show 0 < a ∨ 0 < b; omega, ba, bb⟩
  · exact ⟨by decide, by decide, .inl (by decide), (Bd.of (n := 2) (i := 2) (by decide) (by decide)).mono hn, (Bd.of (n := 2) (i := 0) (by decide) (by decide)).mono hn⟩
theorem min63 (n : Nat) : 0 ≤ (if ((n : Nat) : Int) < 63 then ((n : Nat) : Int) else 63) ∧ (if ((n : Nat) : Int) < 63 then ((n : Nat) : Int) else 63) ≤ 63 ∧ (if ((n : Nat) : Int) < 63 then ((n : Nat) : Int) else 63) ≤ n := by
  split <;> omega
section
variable {P : Program} {w : World} {K : PySem.W.Frag} {mg : Str → Option Value} {base : Heap}
theorem fn_goD {nm qn : Str} {st : Stmt} {N ps : List Str} {f : Addr} {fd : FuncData} {F : List PyData → PyData → Prop} (k : Nat) (Fu : Fun K nm qn st f fd) (S : FnScope N ps (defScope st)) (len : ∀ ds d, F ds d → ds.length = ps.length)
    (body : ∀ cdv A outer s H0 E, Room k (cxB P w K mg base N qn (defScope st) f cdv A outer s H0 E).A → Names (cxB P w K mg base N qn (defScope st) f cdv A outer s H0 E) N 0 → (cxB P w K mg base N qn (defScope st) f cdv A outer s H0 E).N.Nodup → ∀ ds d vs H (Q : VK), F ds d → DqAll K H vs ds → (∀ v H2, Ex H H2 → Dq K H2 v d → Q v H2) →
      cSs (cxB P w K mg base N qn (defScope st) f cdv A outer s H0 E) (defBody st) { nx := fun _ H' => Q .non H', rt := Q } (start N vs) H) : FnOk P w K mg base CX0 (k + 1) f fd ps (spD K F) :=
  fn_go k Fu S (fun vs H Q E ⟨ds, d, h1, h2, _⟩ => (dpa_len h1).trans (len ds d h2)) fun cdv A outer s H0 E hr hn nd vs H Q ⟨ds, d, h1, h2, h3⟩ => body cdv A outer s H0 E hr hn nd ds d vs H Q h2 h1 h3
end
end Lw

namespace Lw
open PySem PySem.Spec PyProof.Rows L2 Evl
section
variable {X : Cx} {o e a elt iter : Expr} {es : List Expr} {rest body : List Stmt} {σ : L2.St} {H : Hp} {d : PyData} {ds fs : List PyData} {pos apos p kp kq q p' px py spos pos1 : Pos} {R : V → Hp → Prop} {D : Ends} {x y : Str} {scope : Scope}
/-- the field of what was made just now -/
theorem x_fldR {f : Str} {C : Addr} {RO : V → Hp → Prop} (ho : Gv X o σ H RO) (hp : ∀ v H1, RO v H1 → ∃ p dx fs w, v = .ref p ∧ H1 p = some (.ins C dx fs) ∧ fs.lookup f = some w ∧ Dq X.K H1 w d) (c : Cls X.K C) (n : NoAttr X.K C f) (hb : attributeBase o f X.env (eval o X.env) = eval o X.env := by rfl) :
    Gd X (.Attribute o f pos) σ H d := gv_of (pe_fld cE_pe hb) fun H1 x Q q => ho.go H1 x _ fun v' H2 y r => by
  obtain ⟨p, dx, fs, w, e1, e2, e3, e4⟩ := hp v' H2 r
  exact ⟨p, C, dx, fs, w, e1, e2, c, n, e3, q w H2 y e4⟩
/-- isinstance of what was made just now -/
theorem x_isiR {T : Str} {C C' : Addr} {RO : V → Hp → Prop} {c : Bool} (ho : Gv X a σ H RO) (hp : ∀ v H1, RO v H1 → ∃ p dx fs, v = .ref p ∧ H1 p = some (.ins C dx fs)) (I : Isi X.K C) (hT : X.mg T = some (.ref C')) (hk : PySem.W.kitOne X.K (.ref C) (.ref C') = some c) (hm : X.mg "isinstance" = none)
    (hgT : L2.Gl X T := by rfl) (h2 : (T == ("__debug__" : Str)) = false := by decide) (hg : L2.Gl X "isinstance" := by rfl)
    (hs : starEach [a, .Name T q] X.env = (false, eval a X.env) :: starEach [.Name T q] X.env := by rfl) (hs2 : starEach [.Name T q] X.env = (false, eval (.Name T q) X.env) :: starEach [] X.env := by rfl) (hpl : (backTo pos (starEach [.Name T q] X.env)).any (·.1) = false := by rfl) :
    Gd X (.Call (.Name "isinstance" p) [a, .Name T q] [] pos) σ H (.bool c) :=
  gv_of (pe_callB call_isi hg hm (by decide +kernel) cA_pa (by decide) (by decide) hs hpl) fun H1 x Q k =>
    (l_cons (R := fun vs H' => ∃ r dx fs, vs = [.ref r, .ref C'] ∧ H' r = some (.ins C dx fs)) (R1 := fun v H' => ∃ r dx fs, v = .ref r ∧ H' r = some (.ins C dx fs)) (ho.imp fun v H2 _ r => hp v H2 r) (fun _ _ _ x1 ⟨r, dx, fs, z1, z2⟩ => ⟨r, dx, fs, z1, x1 _ _ z2⟩) (l_cons (R := fun vs _ => vs = [.ref C']) (x_cls hT hgT h2) (fun _ _ _ _ z => z) (l_nil (R := fun vs _ => vs = []) fun _ => rfl) (fun v vs _ r1 r2 => by rw [r1, r2]) hs2)
      (fun v vs _ ⟨r, dx, fs, z1, z2⟩ r2 => ⟨r, dx, fs, by rw [z1, r2], z2⟩) hs).go H1 x _ fun vs H2 y ⟨r, dx, fs, z, z2⟩ => ⟨.ref r, .ref C', _, _, c, z, .own C', .base (.ins z2 I.cl I.ha I.hn I.ht I.hm), hk, k _ H2 y (.bl c)⟩
/-- for x in range(e) -/
theorem g_range1 {e1 : Expr} {hi : Nat} (j : Nat) (hN : X.N.Nodup) (hj : X.N[j]? = some x) (h1 : Gd X e1 σ H (.int (hi : Int))) (hh : hi < 1000000) (hz : X.mg "range" = none) (P : Nat → L2.St → Hp → Prop) (h0 : ∀ H1, Ex H H1 → P 0 σ H1) (hp : PassesOwn (model X.prog X.w) X.A X.env X.xe)
    (hs : ∀ (i : Nat) (σ' : L2.St) (H' : Hp), i < hi → Ex H H' → P i σ' H' → cSs X body (Tn D (cSs X rest D) H' (P (i + 1))) (σ'.set j (some (.int (i : Int)))) H')
    (hd : ∀ σ' H', Ex H H' → P hi σ' H' → cSs X rest D σ' H') (l1 : Ld X x := by first | exact Or.inl rfl | exact Or.inr rfl) (f1 : Lf X x := by first | exact .inl rfl | exact .inr rfl) (hca : X.calm = true := by rfl) (hgz : L2.Gl X "range" := by rfl)
    (s1 : starEach [e1] X.env = [(false, eval e1 X.env)] := by rfl)
    (hf : ∀ x, foldedSetIterable (.Call (.Name "range" kp) [e1] [] p') X.env x = pure x := by intro _; rfl) : cSs X (.For (.Name x px) (.Call (.Name "range" kp) [e1] [] p') body [] pos :: rest) D σ H :=
  g_forE (pi_range1 hgz hz cA_pa s1) (pg_name hN hj l1 f1) hp hca hf ((s_cons h1 s_nil s1).go H (Ex.refl H) _ fun vs H1 x1 r => by
    have ev : vs = [.int (hi : Int)] := dpa_ints [(hi : Int)] r
    refine ⟨(hi : Int), ev, by omega, by omega, ?_⟩
    rw [Int.toNat_natCast]
    refine for_range (fun i σ' H' => Ex H1 H' ∧ P i σ' H') ⟨Ex.refl H1, h0 H1 x1⟩ (fun i σ' H' hlt q => ?_) fun σ' H' q => hd _ _ (x1.trans q.1) q.2
    rw [Int.zero_add]
    have z := hs i σ' H' hlt (x1.trans q.1) q.2
    refine fun pins st I => wpAny_mono (z pins st I) (fun f s' z => ?_) fun _ _ z => z
    cases f with
    | next => obtain ⟨σ3, H3, I3, z1, z2⟩ := z; exact ⟨σ3, H3, I3, q.1.trans z1, z2⟩
    | cont => obtain ⟨σ3, H3, I3, z1, z2⟩ := z; exact ⟨σ3, H3, I3, q.1.trans z1, z2⟩
    | brk => exact z
    | ret _ => exact z)
theorem lcR_read {Q : VK} {e1 : Expr} {n : Nat} (jj : Nat) (hi : Gd X e1 σ H (.int (n : Int))) (s1 : starEach [e1] X.env = [(false, eval e1 X.env)]) (hn1 : n < 1000000) (hl : fs.length = n) (hz : fs.length ≤ 100000) (hn : nls fs = true)
    (he : ∀ (i : Nat) (f : PyData) (H1 : Hp), fs[i]? = some f → Ex H H1 → ∀ s H0 C cl fp, Gd (X.blk s H0 scope (compEnvC scope cl C X.env) fp) elt ((wipe σ [jj]).set jj (some (.int (i : Int)))) H1 f)
    (q : ∀ v H1, Ex H H1 → Fq X.K H H1 v fs → Q v H1) : tLc (iRng1 (cA X [e1])) (gName jj) tYes (cB X scope elt) [jj] σ H Q := (s_cons hi s_nil s1).go H (Ex.refl H) _ fun vs H2 x1 r => by
  have ev : vs = [.int (n : Int)] := dpa_ints [(n : Int)] r
  refine ⟨(n : Int), ev, by omega, by omega, fun D hD => ?_⟩
  rw [Int.toNat_natCast]
  refine lc_range (Lcw X.K H2 D fs) ⟨hD, Ex.new hD, [], upd_same, .nil⟩ (fun i H' hlt p => ?_) fun H' p => ?_
  · rw [Int.zero_add]
    have li : i < fs.length := by omega
    refine ⟨wipe1 σ jj _, ?_⟩
    refine lcw_turn (te := cB X scope elt) p (List.getElem?_eq_getElem li) hz hn fun Q' q' s H0 C cl fp => ?_
    exact (he i _ H' (List.getElem?_eq_getElem li) (x1.trans p.2.1) s H0 C cl fp).go H' (Ex.refl H') Q' q'
  · obtain ⟨p1, p2, vs, p3, p4⟩ := p
    rw [← hl, List.take_length] at p4
    exact q _ H' (x1.trans p2) ⟨D, vs, rfl, fresh_back x1 p1, p3, p4⟩
/-- y = [elt for x in range(e)] -/
theorem g_setLcR {e1 : Expr} {n : Nat} (i jj : Nat) (hN : X.N.Nodup) (hy : X.N[i]? = some y) (hi : Gd X e1 σ H (.int (n : Int))) (hn1 : n < 1000000) (hzr : X.mg "range" = none) (ok : BlkOk X.N X.env.scope scope [(x, jj)]) (hl : fs.length = n) (hz : fs.length ≤ 100000) (hn : nls fs = true)
    (he : ∀ (i : Nat) (f : PyData) (H1 : Hp), fs[i]? = some f → Ex H H1 → ∀ s H0 C cl fp, Gd (X.blk s H0 scope (compEnvC scope cl C X.env) fp) elt ((wipe σ [jj]).set jj (some (.int (i : Int)))) H1 f)
    (k : ∀ v H1, Ex H H1 → Fq X.K H H1 v fs → cSs X rest D (σ.set i (some v)) H1)
    (hg : ∀ (s : Shared) (H0 : Hp) (C : Addr) (cl : List (Str × Addr)) (fp : List Addr), PG (X.blk s H0 scope (compEnvC scope cl C X.env) fp) (.Name x px) (gName jj))
    (hsw : swapsWith (.ListComp elt [⟨.Name x px, .Call (.Name "range" kp) [e1] [] p', [], 0⟩] scope pos) (some (.Name y py)) spos.line X.env = pure true) (hyl : X.env.scope.names.lookup y = some .local := by rfl) (hc : X.calm = true := by rfl) (hgz : L2.Gl X "range" := by rfl)
    (s1 : starEach [e1] X.env = [(false, eval e1 X.env)] := by rfl) (hs : ∀ x, foldedSetIterable (.Call (.Name "range" kp) [e1] [] p') X.env x = pure x := by intro _; rfl) :
    cSs X (.Assign [.Name y py] (.ListComp elt [⟨.Name x px, .Call (.Name "range" kp) [e1] [] p', [], 0⟩] scope pos) spos :: rest) D σ H :=
  g_st (ps_setLc (own := [(x, jj)]) (tt := tYes) hc hN hy hyl hsw (pi_range1 hgz hzr cA_pa s1) ok hg (fun _ _ _ _ _ => pts_nil) (fun s H0 C cl fp => cB_pe s H0 C cl fp) hs) (lcR_read jj hi s1 hn1 hl hz hn he k)
/-- o.pop() -/
theorem g_pop {l : Addr} {xs : List V} {u : V} (ho : Gv X o σ H fun v _ => v = .ref l) (hl : H l = some (.lst xs)) (hu : xs[xs.length - 1]? = some u) (k : ∀ H1, Ex H H1 → cSs X rest D σ (upd H1 l (.lst xs.dropLast)))
    (hbase : attributeBase o "pop" X.env (eval o X.env) = eval o X.env := by rfl) (hline : (apos.endLine == pos.line) = true := by rfl)
    (hsw : swapsWith (.Call (.Attribute o "pop" apos) [] [] pos) none p'.line X.env = pure false := by rfl) : cSs X (.Expr (.Call (.Attribute o "pop" apos) [] [] pos) p' :: rest) D σ H :=
  g_st (ps_expr (pe_bm0 PySem.F.plainAttrs_list PySem.F.slot_list_pop PySem.F.type_list_pop mt_pop cE_pe hbase hline) hsw) (ho.go H (Ex.refl H) _ fun v H1 x r => ⟨by
    rw [r]
    exact .inl ⟨rfl, _, SqL.of (x _ _ hl)⟩, l, xs, u, r, rfl, x _ _ hl, hu, k H1 x⟩)
end
/-! ### what a law asks of a place -/
theorem gcd_step {a b : Int} (hb : 0 < b) : Int.gcd b (a % b) = Int.gcd a b := by
  rw [Int.gcd_comm a b]
  apply Nat.dvd_antisymm
  · refine Int.dvd_gcd (Int.gcd_dvd_left ..) ?_
    have h1 : ((Int.gcd b (a % b) : Nat) : Int) ∣ b := Int.gcd_dvd_left ..
    have h2 : ((Int.gcd b (a % b) : Nat) : Int) ∣ a % b := Int.gcd_dvd_right ..
    have e := Int.emod_add_mul_ediv a b
    have z : ((Int.gcd b (a % b) : Nat) : Int) ∣ a % b + b * (a / b) := Int.dvd_add h2 (Int.dvd_mul_of_dvd_left h1)
    rwa [e] at z
  · refine Int.dvd_gcd (Int.gcd_dvd_left ..) ?_
    have h1 : ((Int.gcd b a : Nat) : Int) ∣ b := Int.gcd_dvd_left ..
    have h2 : ((Int.gcd b a : Nat) : Int) ∣ a := Int.gcd_dvd_right ..
    have e := Int.emod_def a b
    rw [e]
    exact Int.dvd_sub h2 (Int.dvd_mul_of_dvd_left h1)
theorem gcdE_gcd {a b : Int} (ha : 0 ≤ a) (hb : 0 ≤ b) (h : 0 < a ∨ 0 < b) : (gcdE a b).1 = (Int.gcd a b : Int) := by
  have G := gcdE_ok ha hb h
  generalize (gcdE a b).1 = g at *
  have gp := G.pos
  have d1 : g ∣ (Int.gcd a b : Int) := Int.dvd_coe_gcd G.da G.db
  have d2 : (Int.gcd a b : Int) ∣ g := (G.gcd _).mp ⟨Int.gcd_dvd_left .., Int.gcd_dvd_right ..⟩
  have p2 : 0 < (Int.gcd a b : Int) := by
    have : Int.gcd a b ≠ 0 := fun z => by
      rw [Int.gcd_eq_zero_iff] at z
      omega
    omega
  have l1 := Int.le_of_dvd p2 d1
  have l2 := Int.le_of_dvd gp d2
  omega
def barredP (a b x y : Int) : Bool :=
  let g : Int := (Int.gcd a b : Int)
  (decide (0 < x % g) || decide (0 < y % g)) || (decide ((a + b) / g % 2 = 0) && decide ((x + y) / g % 2 = 1))
theorem barred_is {a b x y : Int} (ha : 0 ≤ a) (hb : 0 ≤ b) (h : 0 < a ∨ 0 < b) : barredP a b x y = (barBy a b x y).isSome := by
  have G := gcdE_ok ha hb h
  have e := gcdE_gcd ha hb h
  unfold barredP barBy
  simp only
  rw [← e]
  clear e
  generalize (gcdE a b).1 = g at *
  have gp := G.pos
  have ax : ∀ z : Int, decide (0 < z % g) = decide (z % g ≠ 0) := fun z => by
    have := Int.emod_nonneg z (show g ≠ 0 by omega)
    by_cases c : z % g = 0
    · simp [c]
    · have : 0 < z % g := by omega
      simp [c, this]
  rw [ax, ax]
  by_cases cx : x % g = 0
  · by_cases cy : y % g = 0
    · have ea : (a + b) / g = a / g + b / g := Int.add_ediv_of_dvd_left G.da
      have exy : (x + y) / g = x / g + y / g := Int.add_ediv_of_dvd_left (Int.dvd_of_emod_eq_zero cx)
      rw [ea, exy]
      have m := Int.emod_nonneg (x / g + y / g) (show (2 : Int) ≠ 0 by decide)
      have m2 := Int.emod_lt_of_pos (x / g + y / g) (show (0 : Int) < 2 by decide)
      by_cases p : (a / g + b / g) % 2 = 0
      · by_cases r : (x / g + y / g) % 2 = 1
        · simp [cx, cy, p, r]
        · have r' : (x / g + y / g) % 2 = 0 := by omega
          simp [cx, cy, p, r']
      · simp [cx, cy, p]
    · simp [cx, cy]
  · simp [cx]
end Lw

namespace Lw
open PySem PySem.Spec PyProof.Rows L2 Evl
/-- a dict of the module: tuples of numbers are its keys -/
structure KTD (K : PySem.W.Frag) (d : Addr) (xs : List (List Int × Addr × Addr)) : Prop where
  ex : ∃ o es ep, K.lookup d = some o ∧ o.ExactDict ∧ o.data = .dict es ep ∧ ∀ (prog : Program) (w : World), es.toList = (xs.map fun x => (x.1, x.2.1, Value.ref x.2.2)).map (entryOfKey (tupleKind (intKind prog w)))
  ks : ∀ x ∈ xs, ∃ o items n, K.lookup x.2.1 = some o ∧ o.cls = .type "tuple" ∧ o.data = .seq items n ∧ ∀ (prog : Program) (w : World), ItemsAre (intKind prog w) x.1 items.toList
  nd : (xs.map (·.1)).Nodup
  low : (d == sysModules) = false
/-- what it holds at a key -/
def ktAt (xs : List (List Int × Addr × Addr)) (k : List Int) : Option Addr := (xs.find? fun x => x.1 = k).map (·.2.2)
theorem KTD.at' {K : PySem.W.Frag} {d : Addr} {xs : List (List Int × Addr × Addr)} (D : KTD K d xs) {prog : Program} {w : World} {h : Heap} (kin : K.In h) : h.DictKeyed (tupleKind (intKind prog w)) d (xs.map fun x => (x.1, Value.ref x.2.2)) := by
  obtain ⟨o, es, ep, e1, e2, e3, e4⟩ := D.ex
  have z := Heap.DictKeyed.ofEntries (knd := tupleKind (intKind prog w)) (xs.map fun x => (x.1, x.2.1, Value.ref x.2.2)) (kin _ _ e1) e2 e3 (e4 prog w) (fun x hx => by
    obtain ⟨y, hy, rfl⟩ := List.mem_map.mp hx
    obtain ⟨o, items, n, k1, k2, k3, k4⟩ := D.ks y hy
    exact ⟨o, items, n, kin _ _ k1, k2, k3, k4 prog w⟩) (by
    rw [List.map_map]
    exact D.nd)
  have e : pairsH (xs.map fun x => (x.1, x.2.1, Value.ref x.2.2)) = xs.map fun x => (x.1, Value.ref x.2.2) := by
    unfold pairsH
    rw [List.map_map]
    rfl
  rw [e] at z
  exact z
theorem ktAt_is (xs : List (List Int × Addr × Addr)) (k : List Int) : valueAt (xs.map fun x => (x.1, Value.ref x.2.2)) k = (ktAt xs k).map Value.ref := by
  unfold valueAt ktAt
  induction xs with
  | nil => rfl
  | cons x xs ih =>
    by_cases h : x.1 = k
    · simp [List.find?, h]
    · simpa [List.find?, h] using ih
theorem items_are {prog : Program} {w : World} : ∀ {ks : List Int} {vs : List Value}, Vals (ks.map V.int) vs → ItemsAre (intKind prog w) ks vs
  | [], _, .nil => .nil
  | k :: ks, _, .cons r rr => by
    obtain ⟨t, rfl⟩ := r
    exact .cons (by show (k == k) = true; exact beq_self_eq_true k) (items_are rr)
section
variable {X : Cx} {d : Addr} {xs : List (List Int × Addr × Addr)}
theorem key_is {pins : List (Addr × Obj)} {σ : L2.St} {H : Hp} {s : Shared} (I : Inv X pins σ H s) {b : Addr} {ks : List Int} (h : SqT X.K H b (ks.map V.int)) : (tupleKind (intKind X.prog X.w)).is s.heap ks b := by
  obtain ⟨its, r, ⟨o, e1, e2, n, e3⟩, _⟩ := I.tuple h
  exact ⟨o, its.toArray, n, e1, e2, e3, by simpa using items_are r⟩
theorem op_inKT (D : KTD X.K d xs) (hu : X.A.units + 64 < cLine) : OpR X (compareOp .In) (fun x y H Q => ∃ b ks, x = .ref b ∧ y = .ref d ∧ SqT X.K H b (ks.map V.int) ∧ Q (.bl (ktAt xs ks).isSome) H) := by
  intro pins s σ H x y v u Q I rx ry h
  obtain ⟨b, ks, rfl, rfl, hb, q⟩ := h
  cases rx
  cases ry
  refine in_keyed (knd := tupleKind (intKind X.prog X.w)) (by show X.A.units + 1 < cLine; omega) (key_is I hb) D.low (D.at' I.kIn) ?_
  rw [ktAt_is, Option.isSome_map]
  exact ⟨.bl (ktAt xs ks).isSome, H, I.tok _, rfl, q⟩
theorem op_itemKT (D : KTD X.K d xs) (hu : X.A.units + 64 < cLine) : OpR X getItem (fun x y H Q => ∃ b ks c, x = .ref d ∧ y = .ref b ∧ SqT X.K H b (ks.map V.int) ∧ ktAt xs ks = some c ∧ Q (.ref c) H) := by
  intro pins s σ H x y v u Q I rx ry h
  obtain ⟨b, ks, c, rfl, rfl, hb, hc, q⟩ := h
  cases rx
  cases ry
  refine getItem_keyed (knd := tupleKind (intKind X.prog X.w)) (v := .ref c) (by show X.A.units + 1 < cLine; omega) (key_is I hb) (D.at' I.kIn) (by rw [ktAt_is, hc]; rfl) ?_
  exact ⟨.ref c, H, I.tok _, rfl, q⟩
theorem ix_KT (D : KTD X.K d xs) (hu : X.A.units + 64 < cLine) : IxR X (fun x y H Q => ∃ b ks c, x = .ref d ∧ y = .ref b ∧ SqT X.K H b (ks.map V.int) ∧ ktAt xs ks = some c ∧ Q (.ref c) H) := by
  intro value slice pins s σ H x y v u Q I rx ry h hs
  have hm := D.at' (prog := X.prog) (w := X.w) I.kIn
  have ty := hm.typeIs (s := s)
  have z := op_itemKT D hu pins s σ H x y v u Q I rx ry h
  obtain ⟨b, ks, c, rfl, rfl, hb, hc, q⟩ := h
  cases rx
  cases ry
  exact tail_any ty slot_dict_getitem.lookup z hs
variable {a b : Expr} {σ : L2.St} {H : Hp} {pos : Pos} {ks : List Int} {c : Addr} {f : PyData}
theorem tup_ints {K : PySem.W.Frag} {H : Hp} {v : V} (r : Dq K H v (.tuple (ks.map .int))) : ∃ p, v = .ref p ∧ SqT K H p (ks.map V.int) := by
  obtain ⟨p, vs, e, h1, h2⟩ := dp_tup r
  have z := dpa_ints ks h2
  subst z
  exact ⟨p, e, h1⟩
theorem x_inKT (D : KTD X.K d xs) (hu : X.A.units + 64 < cLine) (ha : Gd X a σ H (.tuple (ks.map .int))) (hb : Gv X b σ H fun v _ => v = .ref d) (hm : behindInMarks .In b = false := by rfl) : Gd X (.Compare a [.In] [b] pos) σ H (.bool (ktAt xs ks).isSome) :=
  gv_of (pe_cmpR (op_inKT D hu) cE_pe cE_pe hm) fun H1 x Q q => ha.go H1 x _ fun v H2 y rv => hb.go H2 (x.trans y) _ fun u H3 z ru => by
    obtain ⟨p, e, hs⟩ := tup_ints (dp_mono z rv)
    exact ⟨p, ks, e, ru, hs, q _ H3 (y.trans z) (.bl _)⟩
theorem t_inKT (D : KTD X.K d xs) (hu : X.A.units + 64 < cLine) (ha : Gd X a σ H (.tuple (ks.map .int))) (hb : Gv X b σ H fun v _ => v = .ref d) (hm : behindInMarks .In b = false := by rfl) : Gt X (.Compare a [.In] [b] pos) σ H (ktAt xs ks).isSome := .mk fun H1 x Q q =>
  cT_of (pt_cmpR (op_inKT D hu) cE_pe cE_pe hm) (ha.go H1 x _ fun v H2 y rv => hb.go H2 (x.trans y) _ fun u H3 z ru => by
    obtain ⟨p, e, hs⟩ := tup_ints (dp_mono z rv)
    exact ⟨p, ks, e, ru, hs, _, rfl, q H3 (y.trans z)⟩)
theorem x_ixKT (D : KTD X.K d xs) (hu : X.A.units + 64 < cLine) (ha : Gv X a σ H fun v _ => v = .ref d) (hb : Gd X b σ H (.tuple (ks.map .int))) (hc : ktAt xs ks = some c) (hd : ∀ H, Dq X.K H (.ref c) f) (hs : PlainIx b := by exact fun _ _ => rfl) : Gd X (.Subscript a b pos) σ H f :=
  gv_of (pe_ix (ix_KT D hu) cE_pe cE_pe hs) fun H1 x Q q => ha.go H1 x _ fun v H2 y rv => hb.go H2 (x.trans y) _ fun u H3 z ru => by
    obtain ⟨p, e, hs⟩ := tup_ints ru
    exact ⟨p, ks, c, rv, e, hs, hc, q _ H3 (y.trans z) (hd H3)⟩
end
/-! ### the knight -/
def nearL (far near : Int) : Option (List (Int × Int)) :=
  if far = 1 ∧ near = 0 then some [(2, 1), (-2, 1), (1, -2)] else if far = 1 ∧ near = 1 then some [(2, -1), (-1, 2)] else
  if far = 2 ∧ near = 2 then some [(2, -1), (2, -1), (-1, 2), (-1, 2)] else if far = 3 ∧ near = 0 then some [(2, 1), (2, 1), (-1, -2)] else none
/-- the table of the near places -/
structure NearOk (K : PySem.W.Frag) (d : Addr) : Prop where
  ex : ∃ xs, KTD K d xs ∧ ∀ far near, (nearL far near = none → ktAt xs [far, near] = none) ∧ ∀ l, nearL far near = some l → ∃ c, ktAt xs [far, near] = some c ∧ ∀ H, Dq K H (.ref c) (.tuple (prL l))
def mxI (i j : Int) : Int := if j > i then j else i
def mnI (i j : Int) : Int := if j < i then j else i
def farN (far near : Int) : Int := mxI ((far + 1) / 2) ((far + near + 2) / 3)
def leastN (far near : Int) : Int := match nearL far near with
  | some l => (l.length : Int)
  | none => farN far near + (farN far near + far + near) % 2
end Lw

namespace Lw
open PySem PySem.Spec PyProof.Rows L2 Evl
/-- a promise: a new list -/
def spF (K : PySem.W.Frag) (F : List PyData → List PyData → Prop) : Sp := fun vs H Q _ => ∃ ds fs, DqAll K H vs ds ∧ F ds fs ∧ ∀ v H2, Ex H H2 → Fq K H H2 v fs → Q v H2
section
variable {X : Cx} {e iter elt : Expr} {es : List Expr} {rest body : List Stmt} {σ : L2.St} {H : Hp} {d : PyData} {ds fs : List PyData} {pos kp p' px : Pos} {D : Ends} {x : Str} {scope : Scope} {tg : Expr} {g : TG}
theorem f_call {nm : Str} {k n : Nat} {ps : List Str} {F : List PyData → List PyData → Prop} (Df_ : Df X.prog X.w X.K X.mg X.base CX0 nm k ps (spF X.K F)) (hr : Room n X.A) (hk : k ≤ n) (ha : Gs X (e :: es) σ H ds)
    (hF : F ds fs) (hg : L2.Gl X nm := by rfl) (hdb : (nm == ("__debug__" : Str)) = false := by decide)
    (he : starEach (e :: es) X.env = (false, eval e X.env) :: starEach es X.env := by rfl) (hpl : (backTo pos (starEach es X.env)).any (·.1) = false := by rfl) : Gf X (.Call (.Name nm kp) (e :: es) [] pos) σ H fs :=
  x_callR Df_ hr hk pass0 ha (fun vs H1 x1 r Q q => ⟨ds, fs, r, hF, fun v H2 x2 ⟨p, ws, z1, z2, z3, z4⟩ => q v H2 x2 ⟨p, ws, z1, fresh_back x1 z2, z3, z4⟩⟩) hg hdb he hpl
theorem f_lcT (jj : Nat) (hN : X.N.Nodup) (hi : Gd X iter σ H (.tuple ds)) (ok : BlkOk X.N X.env.scope scope [(x, jj)]) (hl : fs.length = ds.length) (hz : fs.length ≤ 100000) (hn : nls fs = true)
    (he : ∀ (i : Nat) (d f : PyData) (v : V) (H1 : Hp), ds[i]? = some d → fs[i]? = some f → Ex H H1 → Dq X.K H1 v d → ∀ s H0 C cl fp, Gd (X.blk s H0 scope (compEnvC scope cl C X.env) fp) elt ((wipe σ [jj]).set jj (some v)) H1 f)
    (hg : ∀ (s : Shared) (H0 : Hp) (C : Addr) (cl : List (Str × Addr)) (fp : List Addr), PG (X.blk s H0 scope (compEnvC scope cl C X.env) fp) (.Name x px) (gName jj))
    (hc : X.calm = true := by rfl) (hs : ∀ x, foldedSetIterable iter X.env x = pure x := by intro _; rfl) : Gf X (.ListComp elt [⟨.Name x px, iter, [], 0⟩] scope pos) σ H fs :=
  gv_of (pe_lc (own := [(x, jj)]) (tt := tYes) hc hN (pi_tup cE_pe) ok hg (fun _ _ _ _ _ => pts_nil) (fun s H0 C cl fp => cB_pe s H0 C cl fp) hs) fun H1 x1 Q q => (hi).go H1 x1 _ fun v H2 y r => by
    obtain ⟨a, xs, rfl, h1, h2⟩ := dp_tup r
    refine ⟨a, rfl, ⟨xs, h1⟩, fun D hD => lc_tup (xs := xs) (Lcw X.K H2 D fs) ⟨hD, Ex.new hD, [], upd_same, .nil⟩ (fun i H' _ p => ex_t p.2.1 h1) (fun i u H' hu p => ?_) fun H' p => ?_⟩
    · obtain ⟨d, hd, rd⟩ := dpa_get' h2 hu
      have li : i < fs.length := by rw [hl]; exact (List.getElem?_eq_some_iff.mp hd).1
      refine ⟨wipe1 σ jj _, ?_⟩
      refine lcw_turn (te := cB X scope elt) p (List.getElem?_eq_getElem li) hz hn fun Q' q' s H0 C cl fp => ?_
      exact (he i d _ u H' hd (List.getElem?_eq_getElem li) (x1.trans (y.trans p.2.1)) (dp_mono p.2.1 rd) s H0 C cl fp).go H' (Ex.refl H') Q' q'
    · obtain ⟨p1, p2, vs, p3, p4⟩ := p
      rw [dpa_len h2, ← hl, List.take_length] at p4
      exact q _ H' (y.trans p2) ⟨D, vs, rfl, fresh_back (x1.trans y) p1, p3, p4⟩
/-- a loop over a list that stood at an earlier heap Hs; P keeps that heap -/
theorem g_forB {Hs : Hp} {v : V} (hg : PG X tg g) (hi : Gv X iter σ H fun v' _ => v' = v) (hd0 : Dq X.K Hs v (.list ds)) (P : Nat → L2.St → Hp → Prop) (hP : ∀ i σ' H', P i σ' H' → Ex Hs H') (h0 : ∀ H1, Ex H H1 → P 0 σ H1) (hp : PassesOwn (model X.prog X.w) X.A X.env X.xe)
    (hs : ∀ (i : Nat) (d : PyData) (w : V) (σ' : L2.St) (H' : Hp), ds[i]? = some d → Dq X.K Hs w d → P i σ' H' → g w σ' H' fun σ2 H2 => cSs X body { D with nx := P (i + 1), ct := P (i + 1), bk := cSs X rest D } σ2 H2)
    (hm : ∀ (Q Q' : L2.St → Hp → Prop) v σ' H', (∀ s h, Q s h → Q' s h) → g v σ' H' Q → g v σ' H' Q')
    (hd : ∀ σ' H', P ds.length σ' H' → cSs X rest D σ' H') (hc : X.calm = true := by rfl) (hf : ∀ x, foldedSetIterable iter X.env x = pure x := by intro _; rfl) : cSs X (.For tg iter body [] pos :: rest) D σ H :=
  g_forE (pi_list cE_pe) hg hp hc hf (hi.go H (Ex.refl H) _ fun v' H1 x1 r => by
    obtain ⟨p, xs, e, h1, h2⟩ := dp_lst hd0
    subst e
    refine ⟨p, r, ⟨xs, ex_l (hP _ _ _ (h0 H1 x1)) h1⟩, for_list (xs := xs) P (h0 H1 x1) (fun i σ' H' _ q => ex_l (hP _ _ _ q) h1) (fun i w σ' H' hi q => ?_) fun σ' H' q => ?_⟩
    · obtain ⟨d, hd', rd⟩ := dpa_get' h2 hi
      exact hs i d w σ' H' hd' rd q
    · refine hd σ' H' ?_
      rw [← dpa_len h2]
      exact q)
end
section
variable {P : Program} {w : World} {K : PySem.W.Frag} {mg : Str → Option Value} {base : Heap}
theorem Df.goF {nm : Str} {st : Stmt} {N ps : List Str} {F : List PyData → List PyData → Prop} (k : Nat) (T : Th K mg nm st ps) (S : FnScope N ps (defScope st)) (len : ∀ ds fs, F ds fs → ds.length = ps.length)
    (body : ∀ f cdv A outer s H0 E, Room k (cxB P w K mg base N nm (defScope st) f cdv A outer s H0 E).A → Names (cxB P w K mg base N nm (defScope st) f cdv A outer s H0 E) N 0 → (cxB P w K mg base N nm (defScope st) f cdv A outer s H0 E).N.Nodup → ∀ ds fs vs H (Q : VK), F ds fs → DqAll K H vs ds → (∀ v H2, Ex H H2 → Fq K H H2 v fs → Q v H2) →
      cSs (cxB P w K mg base N nm (defScope st) f cdv A outer s H0 E) (defBody st) { nx := fun _ H' => Q .non H', rt := Q } (start N vs) H) : Df P w K mg base CX0 nm (k + 1) ps (spF K F) :=
  Df.goR k T S (fun vs H Q E ⟨ds, d, h1, h2, _⟩ => (dpa_len h1).trans (len ds d h2)) fun f cdv A outer s H0 E hr hn nd vs H Q ⟨ds, d, h1, h2, h3⟩ _ => body f cdv A outer s H0 E hr hn nd ds d vs H Q h2 h1 h3
end
/-- the first leaps of counts -/
def firstL : List Int → Int → List Int
  | [], _ => []
  | c :: cs, m => mnI c m :: firstL cs (m - mnI c m)
def leftL : List Int → Int → Int
  | [], m => m
  | c :: cs, m => leftL cs (m - mnI c m)
theorem firstL_snoc : ∀ (cs : List Int) (m : Int) (i : Nat) (c : Int), cs[i]? = some c → firstL (cs.take (i + 1)) m = firstL (cs.take i) m ++ [mnI c (leftL (cs.take i) m)] ∧ leftL (cs.take (i + 1)) m = leftL (cs.take i) m - mnI c (leftL (cs.take i) m)
  | [], _, _, _, h => by simp at h
  | d :: cs, m, 0, c, h => by
    have e := Option.some.inj h
    subst e
    exact ⟨rfl, rfl⟩
  | d :: cs, m, i + 1, c, h => by
    obtain ⟨h1, h2⟩ := firstL_snoc cs (m - mnI d m) i c h
    constructor
    · show mnI d m :: firstL (cs.take (i + 1)) (m - mnI d m) = mnI d m :: (firstL (cs.take i) (m - mnI d m) ++ _)
      rw [h1]
      rfl
    · exact h2
theorem firstL_len : ∀ (cs : List Int) (m : Int), (firstL cs m).length = cs.length
  | [], _ => rfl
  | c :: cs, m => by show (firstL cs _).length + 1 = cs.length + 1; rw [firstL_len]
theorem mnI_is (i j : Int) : mnI i j = min i j := by unfold mnI; omega
theorem mxI_is (i j : Int) : mxI i j = max i j := by unfold mxI; omega
theorem firstL_ok {n : Nat} : ∀ (cs : List Int) (m : Int), 0 ≤ m → (∀ c ∈ cs, 0 ≤ c ∧ Bd n c) → ∀ c ∈ firstL cs m, 0 ≤ c ∧ Bd n c
  | [], _, _, _, c, h => by cases h
  | d :: cs, m, hm, hc, c, h => by
    obtain ⟨d0, db⟩ := hc d List.mem_cons_self
    have z : 0 ≤ mnI d m ∧ mnI d m ≤ d ∧ mnI d m ≤ m := by rw [mnI_is]; omega
    rcases List.mem_cons.mp h with h | h
    · rw [h]
      exact ⟨z.1, db.nat (by omega)⟩
    · exact firstL_ok cs (m - mnI d m) (by omega) (fun c hc' => hc c (List.mem_cons_of_mem _ hc')) c h
end Lw

namespace Lw
open PySem PySem.Spec PyProof.Rows L2 Evl
section
variable {X : Cx}
theorem get_list : PGet X (fun o i H Q => ∃ (p : Addr) (xs : List V) (n : Nat) (v : V), o = .ref p ∧ i = .int (n : Int) ∧ H p = some (.lst xs) ∧ xs[n]? = some v ∧ Q v H) := by
  intro pins s σ H o i ov iv Q I ro ri h
  obtain ⟨p, xs, n, v, rfl, rfl, hp, hv, q⟩ := h
  cases ro
  obtain ⟨t, rfl⟩ := ri
  obtain ⟨its, r, pl, hz⟩ := I.list (SqL.of hp)
  obtain ⟨w, ew, rw'⟩ := r.get hv
  have hl := (List.getElem?_eq_some_iff.mp hv).1
  have hn := line63
  exact wpAny_getItem_list pl.isList (by omega) (by omega) (by rw [Int.toNat_natCast]; simpa using ew) ⟨v, H, I, rw', q⟩
variable {o i e a : Expr} {rest : List Stmt} {σ : L2.St} {H : Hp} {pos tpos apos : Pos} {D : Ends}
theorem g_augItem {l : Addr} {cs : List Int} {j : Nat} {m : Int} (ho : Gv X o σ H fun v _ => v = .ref l) (hi : Gd X i σ H (.int (j : Int))) (he : Gd X e σ H (.int m)) (hl : H l = some (.lst (cs.map V.int))) (hj : j < cs.length) (hz : cs.length ≤ 1000)
    (k : ∀ H1, Ex H H1 → cSs X rest D σ (upd H1 l (.lst ((cs.set j (cs.getD j 0 + m)).map V.int))))
    (ha : ∀ ov iv new, augStore i ov iv new = (do holding [new, ov, iv] (setItem ov iv new); release [new, ov, iv] []; pure .next) := by intros; rfl) : cSs X (.AugAssign (.Subscript o i tpos) .Add e pos :: rest) D σ H :=
  g_st (ps_augS cE_pe cE_pe get_list cE_pe ip_add set_list ha) (ho.go H (Ex.refl H) _ fun v H1 x1 r1 => hi.go H1 x1 _ fun u H2 x2 r2 =>
    ⟨l, cs.map V.int, j, .int (cs.getD j 0), r1, dp_int r2, x2 _ _ (x1 _ _ hl), by rw [List.getElem?_map, List.getElem?_eq_getElem hj, List.getD_eq_getElem?_getD, List.getElem?_eq_getElem hj]; rfl, he.go H2 (x1.trans x2) _ fun y H3 x3 r3 =>
      ⟨cs.getD j 0, m, rfl, dp_int r3, l, cs.map V.int, (j : Int), j, r1, dp_int r2, x3 _ _ (x2 _ _ (x1 _ _ hl)), ixN_nat (by rw [List.length_map]; exact hj), by rw [map_set_int]; exact k H3 ((x1.trans x2).trans x3)⟩⟩)
/-- xs.index(p), pairs -/
theorem x_indexP {ps : List (Int × Int)} {p : Int × Int} {j : Nat} (hu : X.A.units + 65 < cLine) (ho : Gd X o σ H (.list (ps.map fun p => pr p.1 p.2))) (ha : Gd X a σ H (pr p.1 p.2)) (hj : ps[j]? = some p) (hn : ∀ m, m < j → ps[m]? ≠ some p)
    (hbase : attributeBase o "index" X.env (eval o X.env) = eval o X.env := by rfl)
    (hfew : ((backTo pos (starEach [a] X.env)).all (fun x => !x.1) && (backToKw pos (keywordEach [] X.env)).all (fun x => x.1.isSome) && decide (([a] : List Expr).length + ([] : List Keyword).length + (if ([] : List Keyword).isEmpty then 0 else 1) < 30)) = true := by rfl)
    (hline : (apos.endLine == pos.line) = true := by rfl) (hs : starEach [a] X.env = (false, eval a X.env) :: starEach [] X.env := by rfl) (hplain : (backTo pos (starEach [] X.env)).any (·.1) = false := by rfl) :
    Gd X (.Call (.Attribute o "index" apos) [a] [] pos) σ H (.int (j : Int)) :=
  gv_of (pe_bm PySem.F.plainAttrs_list PySem.F.slot_list_index PySem.F.type_list_index (mt_indexD hu) cE_pe cA_pa hbase hfew hline hs hplain) fun H1 x Q q => ho.go H1 x _ fun v H2 y r => by
    obtain ⟨l, xs, e, h1, h2⟩ := dp_lst r
    have sh : SeqAt.shaped (.list (ps.map fun p => pr p.1 p.2)) = true := shaped_prs ps
    refine ⟨by rw [e]; exact .inl ⟨rfl, _, h1⟩, cA_of (pa_cons cE_pe pa_nil hs) (ha.go H2 (x.trans y) _ fun u H3 z ru => ?_)⟩
    refine ⟨l, u, pr p.1 p.2, ps.map fun p => pr p.1 p.2, j, pr p.1 p.2, e, rfl, to_dp _ _ (SeqAt.canLay_of_shaped sh) (e ▸ dp_mono z r), to_dp _ _ (SeqAt.canLay_of_shaped rfl) ru, sh, rfl, by rw [List.getElem?_map, hj]; rfl, by rw [eqv_pr]; simp, fun m z' hm hz' => ?_, q _ H3 (y.trans z) (.int _)⟩
    rw [List.getElem?_map] at hz'
    obtain ⟨p', hp', rfl⟩ := Option.map_eq_some_iff.mp hz'
    rw [eqv_pr]
    refine decide_eq_false fun c => hn m hm ?_
    rw [hp']
    exact congrArg some c
end
/-- a tuple of numbers of the module -/
structure TupOk (K : PySem.W.Frag) (d : Addr) (ns : List Int) : Prop where
  ex : ∀ H, Dq K H (.ref d) (.tuple (ns.map .int))
def placesN (m : Int) : Int := if m < 5 then ([1, 8, 32, 68, 96] : List Int).getD m.toNat 0 else 28 * m - 20
def withinN (m : Int) : Int := if m < 4 then ([1, 9, 41, 109] : List Int).getD m.toNat 0 else 14 * m * m - 6 * m + 5
abbrev ML := Int × (Int × Int)
def mlD (t : ML) : PyData := .tuple [.int t.1, pr t.2.1 t.2.2]
def straightL (far near many : Int) : List ML :=
  let narrow := 2 * many - far
  let wide := many - narrow
  let over := (2 * narrow + wide - near) / 2
  let nd := mnI narrow (over / 2)
  let wd := over - 2 * nd
  [(narrow - nd, (1, 2)), (nd, (1, -2)), (wide - wd, (2, 1)), (wd, (2, -1))]
def leapsN (far near : Int) : List ML := match nearL far near with
  | some l => l.map fun p => (1, p)
  | none => straightL far near (leastN far near)
def absN (i : Int) : Int := if i < 0 then -i else i
def unfP (a b x y : Int) : Int × Int :=
  let p : Int × Int := if absN x < absN y then (b, a) else (a, b)
  (if x < 0 then -p.1 else p.1, if y < 0 then -p.2 else p.2)
def kIdx (p : Int × Int) : Nat := (eightL 1 2).idxOf p
def addL (cs : List Int) (j : Nat) (m : Int) : List Int := cs.set j (cs.getD j 0 + m)
def putL (x y : Int) : List ML → List Int → List Int
  | [], cs => cs
  | t :: r, cs => putL x y r (addL cs (kIdx (unfP t.2.1 t.2.2 x y)) t.1)
theorem putL_snoc (x y : Int) : ∀ (l : List ML) (cs : List Int) (i : Nat) (t : ML), l[i]? = some t → putL x y (l.take (i + 1)) cs = addL (putL x y (l.take i) cs) (kIdx (unfP t.2.1 t.2.2 x y)) t.1
  | [], _, _, _, h => by simp at h
  | u :: l, cs, 0, t, h => by
    have e := Option.some.inj h
    subst e
    rfl
  | u :: l, cs, i + 1, t, h => putL_snoc x y l (addL cs (kIdx (unfP u.2.1 u.2.2 x y)) u.1) i t h
theorem addL_len (cs : List Int) (j : Nat) (m : Int) : (addL cs j m).length = cs.length := List.length_set
theorem putL_len (x y : Int) : ∀ (l : List ML) (cs : List Int), (putL x y l cs).length = cs.length
  | [], _ => rfl
  | t :: l, cs => (putL_len x y l _).trans (addL_len ..)
def shortCt (x y : Int) : List Int := putL x y (leapsN (mxI (absN x) (absN y)) (mnI (absN x) (absN y))) [0, 0, 0, 0, 0, 0, 0, 0]
def Kn (p : Int × Int) : Prop := p ∈ eightL 1 2
theorem kIdx_ok {p : Int × Int} (h : Kn p) : (eightL 1 2)[kIdx p]? = some p ∧ (∀ m, m < kIdx p → (eightL 1 2)[m]? ≠ some p) ∧ kIdx p < 8 := by
  have e : eightL 1 2 = [(1, 2), (1, -2), (-1, 2), (-1, -2), (2, 1), (2, -1), (-2, 1), (-2, -1)] := by decide +kernel
  unfold Kn at h
  unfold kIdx
  rw [e] at h ⊢
  simp only [List.mem_cons, List.not_mem_nil, or_false] at h
  rcases h with rfl | rfl | rfl | rfl | rfl | rfl | rfl | rfl <;> exact ⟨by decide, by decide, by decide⟩
theorem Kn_is (a b : Int) : Kn (a, b) ↔ (a = 1 ∨ a = -1) ∧ (b = 2 ∨ b = -2) ∨ (a = 2 ∨ a = -2) ∧ (b = 1 ∨ b = -1) := by
  have e : eightL 1 2 = [(1, 2), (1, -2), (-1, 2), (-1, -2), (2, 1), (2, -1), (-2, 1), (-2, -1)] := by decide +kernel
  unfold Kn
  rw [e]
  simp only [List.mem_cons, List.not_mem_nil, or_false, Prod.mk.injEq]
  omega
theorem unfP_kn {a b : Int} (x y : Int) (h : Kn (a, b)) : Kn (unfP a b x y) := by
  rw [Kn_is] at h
  by_cases c : absN x < absN y <;> by_cases cx : x < 0 <;> by_cases cy : y < 0 <;> simp only [unfP, c, cx, cy, if_true, if_false] <;> rw [Kn_is] <;> omega
theorem nearL_kn {far near : Int} {l : List (Int × Int)} (h : nearL far near = some l) : (∀ p ∈ l, Kn p) ∧ l.length ≤ 4 := by
  unfold nearL at h
  have e : eightL 1 2 = [(1, 2), (1, -2), (-1, 2), (-1, -2), (2, 1), (2, -1), (-2, 1), (-2, -1)] := by decide +kernel
  unfold Kn
  rw [e]
  split at h
  · rw [← Option.some.inj h]; decide
  · split at h
    · rw [← Option.some.inj h]; decide
    · split at h
      · rw [← Option.some.inj h]; decide
      · split at h
        · rw [← Option.some.inj h]; decide
        · cases h
theorem leapsN_kn {far near : Int} : ∀ t ∈ leapsN far near, Kn t.2 := by
  unfold leapsN
  cases h : nearL far near with
  | some l =>
    intro t ht
    obtain ⟨p, hp, rfl⟩ := List.mem_map.mp ht
    exact (nearL_kn h).1 p hp
  | none =>
    intro t ht
    have ht' : t ∈ straightL far near (leastN far near) := ht
    unfold straightL at ht'
    simp only [List.mem_cons, List.not_mem_nil, or_false] at ht'
    rcases ht' with rfl | rfl | rfl | rfl
    · exact (Kn_is 1 2).mpr (by decide)
    · exact (Kn_is 1 (-2)).mpr (by decide)
    · exact (Kn_is 2 1).mpr (by decide)
    · exact (Kn_is 2 (-1)).mpr (by decide)
theorem leapsN_len {far near : Int} : (leapsN far near).length ≤ 4 := by
  unfold leapsN
  cases h : nearL far near with
  | some l =>
    show (l.map _).length ≤ 4
    rw [List.length_map]
    exact (nearL_kn h).2
  | none => exact Nat.le_refl 4
end Lw

namespace Lw
open PySem PySem.Spec PyProof.Rows L2 Evl
/-! ### what the top has written: tuples, the table -/
def intsOf : List Value → Option (List Int)
  | [] => some []
  | .int i _ :: r => (intsOf r).map (i :: ·)
  | _ :: _ => none
theorem vals_ints : ∀ {vs : List Value} {ns : List Int}, intsOf vs = some ns → Vals (ns.map V.int) vs
  | [], _, h => by rw [← Option.some.inj h]; exact .nil
  | .int i t :: r, _, h => by
    obtain ⟨l, hl, rfl⟩ := Option.map_eq_some_iff.mp (show (intsOf r).map (i :: ·) = some _ from h)
    exact .cons ⟨t, rfl⟩ (vals_ints hl)
/-- d is a tuple of numbers in the written part -/
def TupIn (K : PySem.W.Frag) (d : Addr) (ns : List Int) : Prop := ∃ o its n, K.lookup d = some o ∧ o.cls = .type "tuple" ∧ o.data = .seq its n ∧ intsOf its.toList = some ns
theorem TupIn.mk' {K : PySem.W.Frag} {d : Addr} {ns : List Int} {dd : Option Addr} {its : Array Value} {n : Nat} {sl : Array (Option Value)} (l : K.lookup d = some ⟨.type "tuple", dd, .seq its n, sl⟩) (h : intsOf its.toList = some ns) : TupIn K d ns := ⟨_, its, n, l, rfl, rfl, h⟩
theorem intsOf_len : ∀ {vs : List Value} {ns : List Int}, intsOf vs = some ns → vs.length = ns.length
  | vs, ns, h => by
    have z := (vals_ints h).length
    rw [List.length_map] at z
    exact z.symm
theorem TupIn.sq {K : PySem.W.Frag} {d : Addr} {ns : List Int} (T : TupIn K d ns) (hl : ns.length ≤ 1000) (H : Hp) : SqT K H d (ns.map V.int) := by
  obtain ⟨o, its, n, e1, e2, e3, e4⟩ := T
  have z := intsOf_len e4
  have q := sizeLine_eq
  exact .inr ⟨o, its, n, e1, e2, e3, by rw [← Array.length_toList]; omega, vals_ints e4⟩
theorem TupIn.ok {K : PySem.W.Frag} {d : Addr} {ns : List Int} (T : TupIn K d ns) (hl : ns.length ≤ 1000) : TupOk K d ns := ⟨fun H => .tup (T.sq hl H) (dpa_of_ints ns)⟩
def refsOf : List Value → Option (List Addr)
  | [] => some []
  | .ref a :: r => (refsOf r).map (a :: ·)
  | _ :: _ => none
theorem vals_refs : ∀ {vs : List Value} {ns : List Addr}, refsOf vs = some ns → Vals (ns.map V.ref) vs
  | [], _, h => by rw [← Option.some.inj h]; exact .nil
  | .ref a :: r, _, h => by
    obtain ⟨l, hl, rfl⟩ := Option.map_eq_some_iff.mp (show (refsOf r).map (a :: ·) = some _ from h)
    exact .cons rfl (vals_refs hl)
/-- d is a tuple of the tuples at as -/
def RefsIn (K : PySem.W.Frag) (d : Addr) (as : List Addr) : Prop := ∃ o its n, K.lookup d = some o ∧ o.cls = .type "tuple" ∧ o.data = .seq its n ∧ refsOf its.toList = some as
theorem RefsIn.mk' {K : PySem.W.Frag} {d : Addr} {as : List Addr} {dd : Option Addr} {its : Array Value} {n : Nat} {sl : Array (Option Value)} (l : K.lookup d = some ⟨.type "tuple", dd, .seq its n, sl⟩) (h : refsOf its.toList = some as) : RefsIn K d as := ⟨_, its, n, l, rfl, rfl, h⟩
theorem RefsIn.dq {K : PySem.W.Frag} {d : Addr} {as : List Addr} {ds : List PyData} (T : RefsIn K d as) (hl : as.length ≤ 1000) (H : Hp) (h : DqAll K H (as.map V.ref) ds) : Dq K H (.ref d) (.tuple ds) := by
  obtain ⟨o, its, n, e1, e2, e3, e4⟩ := T
  have z := (vals_refs e4).length
  rw [List.length_map] at z
  have q := sizeLine_eq
  exact .tup (.inr ⟨o, its, n, e1, e2, e3, by rw [← Array.length_toList]; omega, vals_refs e4⟩) h
def hashP (ks : List Int) : Int := reduceHash (Builtin.Tuple.tupleHashOf (ks.map hashInt))
theorem hash_is (prog : Program) (w : World) (ks : List Int) : (tupleKind (intKind prog w)).hash ks = hashP ks := rfl
theorem near_ok {K : PySem.W.Frag} {dN k1 k2 k3 k4 v1 v2 v3 v4 a1 a2 a3 b1 b2 c1 c2 c3 c4 e1 e2 e3 : Addr} {h1 h2 h3 h4 : Int} {n : Nat}
    (lN : K.lookup dN = some ⟨.type "dict", none, .dict #[⟨h1, .ref k1, .ref v1⟩, ⟨h2, .ref k2, .ref v2⟩, ⟨h3, .ref k3, .ref v3⟩, ⟨h4, .ref k4, .ref v4⟩] n, #[]⟩) (low : (dN == sysModules) = false)
    (g1 : h1 = hashP [1, 0]) (g2 : h2 = hashP [1, 1]) (g3 : h3 = hashP [2, 2]) (g4 : h4 = hashP [3, 0])
    (K1 : TupIn K k1 [1, 0]) (K2 : TupIn K k2 [1, 1]) (K3 : TupIn K k3 [2, 2]) (K4 : TupIn K k4 [3, 0])
    (V1 : RefsIn K v1 [a1, a2, a3]) (V2 : RefsIn K v2 [b1, b2]) (V3 : RefsIn K v3 [c1, c2, c3, c4]) (V4 : RefsIn K v4 [e1, e2, e3])
    (A1 : TupIn K a1 [2, 1]) (A2 : TupIn K a2 [-2, 1]) (A3 : TupIn K a3 [1, -2]) (B1 : TupIn K b1 [2, -1]) (B2 : TupIn K b2 [-1, 2])
    (C1 : TupIn K c1 [2, -1]) (C2 : TupIn K c2 [2, -1]) (C3 : TupIn K c3 [-1, 2]) (C4 : TupIn K c4 [-1, 2]) (E1 : TupIn K e1 [2, 1]) (E2 : TupIn K e2 [2, 1]) (E3 : TupIn K e3 [-1, -2]) : NearOk K dN := by
  have key : ∀ {k : Addr} {ns : List Int}, TupIn K k ns → ∃ o items n, K.lookup k = some o ∧ o.cls = .type "tuple" ∧ o.data = .seq items n ∧ ∀ (prog : Program) (w : World), ItemsAre (intKind prog w) ns items.toList := fun {k ns} ⟨o, its, n, z1, z2, z3, z4⟩ => ⟨o, its, n, z1, z2, z3, fun prog w => items_are (vals_ints z4)⟩
  have two : ∀ {k : Addr} {x y : Int}, TupIn K k [x, y] → ∀ H, Dq K H (.ref k) (pr x y) := fun T H => (T.ok (by simp)).ex H
  refine ⟨[([1, 0], k1, v1), ([1, 1], k2, v2), ([2, 2], k3, v3), ([3, 0], k4, v4)], ⟨⟨_, _, _, lN, ⟨rfl, rfl, rfl⟩, rfl, fun prog w => ?_⟩, fun x hx => ?_, by show ([[1, 0], [1, 1], [2, 2], [3, 0]] : List (List Int)).Nodup; decide, low⟩, fun far near => ?_⟩
  · subst g1 g2 g3 g4
    simp only [List.map, entryOfKey, hash_is]
  · simp only [List.mem_cons, List.not_mem_nil, or_false] at hx
    rcases hx with rfl | rfl | rfl | rfl
    · exact key K1
    · exact key K2
    · exact key K3
    · exact key K4
  · have at_ : ktAt [([1, 0], k1, v1), ([1, 1], k2, v2), ([2, 2], k3, v3), ([3, 0], k4, v4)] [far, near] = if far = 1 ∧ near = 0 then some v1 else if far = 1 ∧ near = 1 then some v2 else if far = 2 ∧ near = 2 then some v3 else if far = 3 ∧ near = 0 then some v4 else none := by
      unfold ktAt
      simp only [List.find?, List.cons.injEq, and_true]
      by_cases q1 : far = 1 ∧ near = 0
      · obtain ⟨rfl, rfl⟩ := q1
        simp
      · rw [if_neg q1, decide_eq_false (show ¬ ((1 : Int) = far ∧ (0 : Int) = near) from fun z => q1 ⟨z.1.symm, z.2.symm⟩)]
        by_cases q2 : far = 1 ∧ near = 1
        · obtain ⟨rfl, rfl⟩ := q2
          simp
        · rw [if_neg q2, decide_eq_false (show ¬ ((1 : Int) = far ∧ (1 : Int) = near) from fun z => q2 ⟨z.1.symm, z.2.symm⟩)]
          by_cases q3 : far = 2 ∧ near = 2
          · obtain ⟨rfl, rfl⟩ := q3
            simp
          · rw [if_neg q3, decide_eq_false (show ¬ ((2 : Int) = far ∧ (2 : Int) = near) from fun z => q3 ⟨z.1.symm, z.2.symm⟩)]
            by_cases q4 : far = 3 ∧ near = 0
            · obtain ⟨rfl, rfl⟩ := q4
              simp
            · rw [if_neg q4, decide_eq_false (show ¬ ((3 : Int) = far ∧ (0 : Int) = near) from fun z => q4 ⟨z.1.symm, z.2.symm⟩)]
              rfl
    rw [at_]
    unfold nearL
    split
    · exact ⟨fun z => (by cases z), fun l hl => ⟨v1, rfl, fun H => by rw [← Option.some.inj hl]; exact V1.dq (by simp) H (.cons (two A1 H) (.cons (two A2 H) (.cons (two A3 H) .nil)))⟩⟩
    · split
      · exact ⟨fun z => (by cases z), fun l hl => ⟨v2, rfl, fun H => by rw [← Option.some.inj hl]; exact V2.dq (by simp) H (.cons (two B1 H) (.cons (two B2 H) .nil))⟩⟩
      · split
        · exact ⟨fun z => (by cases z), fun l hl => ⟨v3, rfl, fun H => by rw [← Option.some.inj hl]; exact V3.dq (by simp) H (.cons (two C1 H) (.cons (two C2 H) (.cons (two C3 H) (.cons (two C4 H) .nil))))⟩⟩
        · split
          · exact ⟨fun z => (by cases z), fun l hl => ⟨v4, rfl, fun H => by rw [← Option.some.inj hl]; exact V4.dq (by simp) H (.cons (two E1 H) (.cons (two E2 H) (.cons (two E3 H) .nil)))⟩⟩
          · exact ⟨fun _ => rfl, fun l hl => by cases hl⟩
end Lw

namespace Lw
open PySem PySem.Spec PyProof.Rows L2 Evl
/-! ### how far a knight's place is -/
/-- the least number that can be, but for two places -/
def gN (far near : Int) : Int := farN far near + (farN far near + far + near) % 2
theorem farN_is (far near : Int) : farN far near = max ((far + 1) / 2) ((far + near + 2) / 3) := mxI_is _ _
/-- the knight's distance -/
def kN (far near : Int) : Int := if far = 1 ∧ near = 0 then 3 else if far = 2 ∧ near = 2 then 4 else gN far near
theorem leastN_is (far near : Int) : leastN far near = kN far near := by
  unfold leastN nearL kN gN
  rw [farN_is]
  by_cases q1 : far = 1 ∧ near = 0
  · rw [if_pos q1, if_pos q1]; rfl
  · rw [if_neg q1, if_neg q1]
    by_cases q2 : far = 1 ∧ near = 1
    · obtain ⟨rfl, rfl⟩ := q2
      rfl
    · rw [if_neg q2]
      by_cases q3 : far = 2 ∧ near = 2
      · rw [if_pos q3, if_pos q3]; rfl
      · rw [if_neg q3, if_neg q3]
        by_cases q4 : far = 3 ∧ near = 0
        · obtain ⟨rfl, rfl⟩ := q4
          rfl
        · rw [if_neg q4]
theorem absN_is (i : Int) : absN i = (i.natAbs : Int) := by unfold absN; split <;> omega
def fN (x y : Int) : Int := kN (mxI (absN x) (absN y)) (mnI (absN x) (absN y))
/-- N leaps are enough by the two bounds, and the parity is right -/
def En (x y n : Int) : Prop := (x.natAbs : Int) ≤ 2 * n ∧ (y.natAbs : Int) ≤ 2 * n ∧ (x.natAbs : Int) + (y.natAbs : Int) ≤ 3 * n ∧ (n + x + y) % 2 = 0
def gxy (x y : Int) : Int := gN (mxI (absN x) (absN y)) (mnI (absN x) (absN y))
theorem gxy_en (x y : Int) : En x y (gxy x y) := by
  unfold En gxy gN
  rw [farN_is, mxI_is, mnI_is, absN_is, absN_is]
  omega
theorem gxy_le {x y n : Int} (h : En x y n) : gxy x y ≤ n := by
  unfold En at h
  unfold gxy gN
  rw [farN_is, mxI_is, mnI_is, absN_is, absN_is]
  omega
theorem fN_is (x y : Int) : fN x y = if (x.natAbs = 1 ∧ y.natAbs = 0) ∨ (x.natAbs = 0 ∧ y.natAbs = 1) then 3 else if x.natAbs = 2 ∧ y.natAbs = 2 then 4 else gxy x y := by
  have e : fN x y = if mxI (absN x) (absN y) = 1 ∧ mnI (absN x) (absN y) = 0 then 3 else if mxI (absN x) (absN y) = 2 ∧ mnI (absN x) (absN y) = 2 then 4 else gxy x y := rfl
  rw [e, mxI_is, mnI_is, absN_is, absN_is]
  by_cases q1 : (x.natAbs = 1 ∧ y.natAbs = 0) ∨ (x.natAbs = 0 ∧ y.natAbs = 1)
  · rw [if_pos q1, if_pos (by omega)]
  · rw [if_neg q1, if_neg (by omega)]
    by_cases q2 : x.natAbs = 2 ∧ y.natAbs = 2
    · rw [if_pos q2, if_pos (by omega)]
    · rw [if_neg q2, if_neg (by omega)]
theorem fN_ge (x y : Int) : gxy x y ≤ fN x y ∧ En x y (fN x y) := by
  have h := gxy_en x y
  rw [fN_is]
  split
  · rename_i q
    have z : En x y 3 := by unfold En; omega
    exact ⟨gxy_le z, z⟩
  · split
    · rename_i q
      have z : En x y 4 := by unfold En; omega
      exact ⟨gxy_le z, z⟩
    · exact ⟨Int.le_refl _, h⟩
theorem fN_neg (x y : Int) : fN (-x) (-y) = fN x y := by
  unfold fN
  rw [absN_is, absN_is, absN_is, absN_is, Int.natAbs_neg, Int.natAbs_neg]
theorem fN_zero : fN 0 0 = 0 := by decide +kernel
theorem kn_mem {a b : Int} (h : Kn (a, b)) : (a, b) ∈ [((1 : Int), (2 : Int)), (1, -2), (-1, 2), (-1, -2), (2, 1), (2, -1), (-2, 1), (-2, -1)] := by
  rw [Kn_is] at h
  simp only [List.mem_cons, List.not_mem_nil, or_false, Prod.mk.injEq]
  omega
/-- one leap changes it by one at most -/
theorem fN_lip {x y a b : Int} (h : Kn (a, b)) : fN (x + a) (y + b) ≤ fN x y + 1 := by
  obtain ⟨g1, e1⟩ := fN_ge x y
  have hk := (Kn_is a b).mp h
  have e2 : En (x + a) (y + b) (fN x y + 1) := by
    unfold En at *
    omega
  have g2 := gxy_le e2
  rw [fN_is (x + a) (y + b)]
  split
  · rename_i q
    have fin : ∀ p ∈ [((1 : Int), (0 : Int)), (-1, 0), (0, 1), (0, -1)], ∀ m ∈ [((1 : Int), (2 : Int)), (1, -2), (-1, 2), (-1, -2), (2, 1), (2, -1), (-2, 1), (-2, -1)], 3 ≤ fN (p.1 - m.1) (p.2 - m.2) + 1 := by decide +kernel
    have z := fin (x + a, y + b) (by simp only [List.mem_cons, List.not_mem_nil, or_false, Prod.mk.injEq]; omega) (a, b) (kn_mem h)
    simp only at z
    rw [Int.add_sub_cancel, Int.add_sub_cancel] at z
    exact z
  · split
    · rename_i q
      have fin : ∀ p ∈ [((2 : Int), (2 : Int)), (-2, 2), (2, -2), (-2, -2)], ∀ m ∈ [((1 : Int), (2 : Int)), (1, -2), (-1, 2), (-1, -2), (2, 1), (2, -1), (-2, 1), (-2, -1)], 4 ≤ fN (p.1 - m.1) (p.2 - m.2) + 1 := by decide +kernel
      have z := fin (x + a, y + b) (by simp only [List.mem_cons, List.not_mem_nil, or_false, Prod.mk.injEq]; omega) (a, b) (kn_mem h)
      simp only at z
      rw [Int.add_sub_cancel, Int.add_sub_cancel] at z
      exact z
    · exact g2
/-! ### counts, their sum, where they lead -/
theorem ledL_add {ps : List (Int × Int)} : ∀ {cs : List Int} {j : Nat} {m : Int} {p : Int × Int}, ps[j]? = some p → j < cs.length → ledL (addL cs j m) ps = ((ledL cs ps).1 + m * p.1, (ledL cs ps).2 + m * p.2) := by
  induction ps with
  | nil => intro cs j m p h _; simp at h
  | cons q ps ih =>
    intro cs j m p h hj
    cases cs with
    | nil => exact absurd hj (Nat.not_lt_zero _)
    | cons c cs =>
      cases j with
      | zero =>
        have e := Option.some.inj h
        subst e
        show ((c + m) * q.1 + _, (c + m) * q.2 + _) = (c * q.1 + _ + _, c * q.2 + _ + _)
        rw [Int.add_mul, Int.add_mul]
        refine Prod.ext ?_ ?_ <;> simp only <;> omega
      | succ j =>
        have z := ih (cs := cs) (j := j) (m := m) (p := p) h (Nat.lt_of_succ_lt_succ hj)
        have e : addL (c :: cs) (j + 1) m = c :: addL cs j m := rfl
        rw [e]
        show (c * q.1 + (ledL (addL cs j m) ps).1, c * q.2 + (ledL (addL cs j m) ps).2) = (c * q.1 + (ledL cs ps).1 + _, c * q.2 + (ledL cs ps).2 + _)
        rw [z]
        refine Prod.ext ?_ ?_ <;> simp only <;> omega
theorem sum_add : ∀ {cs : List Int} {j : Nat} {m : Int}, j < cs.length → (addL cs j m).sum = cs.sum + m
  | [], _, _, h => absurd h (Nat.not_lt_zero _)
  | c :: cs, 0, m, _ => by
    show (c + m) + cs.sum = (c + cs.sum) + m
    omega
  | c :: cs, j + 1, m, h => by
    have z := sum_add (cs := cs) (j := j) (m := m) (Nat.lt_of_succ_lt_succ h)
    show c + (addL cs j m).sum = c + cs.sum + m
    rw [z]
    omega
def mlX : List ML → Int × Int
  | [] => (0, 0)
  | t :: r => (t.1 * t.2.1 + (mlX r).1, t.1 * t.2.2 + (mlX r).2)
def mlN : List ML → Int
  | [] => 0
  | t :: r => t.1 + mlN r
/-- the unfolded leaps lead to the unfolded place -/
def unL (x y : Int) (l : List ML) : List ML := l.map fun t => (t.1, unfP t.2.1 t.2.2 x y)
theorem unfP_add (a b c d m x y : Int) : unfP (m * a + c) (m * b + d) x y = (m * (unfP a b x y).1 + (unfP c d x y).1, m * (unfP a b x y).2 + (unfP c d x y).2) := by
  by_cases h : absN x < absN y <;> by_cases cx : x < 0 <;> by_cases cy : y < 0 <;> simp only [unfP, h, cx, cy, if_true, if_false] <;> refine Prod.ext ?_ ?_ <;> simp only [Int.mul_neg] <;> omega
theorem unfP_zero (x y : Int) : unfP 0 0 x y = (0, 0) := by
  by_cases h : absN x < absN y <;> by_cases cx : x < 0 <;> by_cases cy : y < 0 <;> simp only [unfP, h, cx, cy, if_true, if_false] <;> rfl
theorem mlX_un (x y : Int) : ∀ l : List ML, mlX (unL x y l) = unfP (mlX l).1 (mlX l).2 x y
  | [] => (unfP_zero x y).symm
  | t :: r => by
    have z := mlX_un x y r
    show (t.1 * (unfP t.2.1 t.2.2 x y).1 + (mlX (unL x y r)).1, t.1 * (unfP t.2.1 t.2.2 x y).2 + (mlX (unL x y r)).2) = unfP (t.1 * t.2.1 + (mlX r).1) (t.1 * t.2.2 + (mlX r).2) x y
    rw [unfP_add, z]
theorem unfP_back (x y : Int) : unfP (mxI (absN x) (absN y)) (mnI (absN x) (absN y)) x y = (x, y) := by
  unfold unfP
  simp only
  rw [mxI_is, mnI_is, absN_is, absN_is]
  refine Prod.ext ?_ ?_
  · show (if x < 0 then _ else _) = x
    split <;> split <;> simp only <;> omega
  · show (if y < 0 then _ else _) = y
    split <;> split <;> simp only <;> omega
theorem putL_ok (x y : Int) : ∀ (l : List ML) (cs : List Int), cs.length = 8 → (∀ t ∈ l, Kn t.2 ∧ 0 ≤ t.1) → (∀ c ∈ cs, 0 ≤ c) →
    led 1 2 (putL x y l cs) = ((led 1 2 cs).1 + (mlX (unL x y l)).1, (led 1 2 cs).2 + (mlX (unL x y l)).2) ∧ (putL x y l cs).sum = cs.sum + mlN l ∧ ∀ c ∈ putL x y l cs, 0 ≤ c
  | [], cs, _, _, hc => ⟨by show led 1 2 cs = ((led 1 2 cs).1 + 0, (led 1 2 cs).2 + 0); rw [Int.add_zero, Int.add_zero], by show cs.sum = cs.sum + 0; omega, hc⟩
  | t :: l, cs, h8, ht, hc => by
    obtain ⟨k1, k2⟩ := ht t List.mem_cons_self
    have kn := unfP_kn (a := t.2.1) (b := t.2.2) x y k1
    obtain ⟨i1, _, i3⟩ := kIdx_ok kn
    obtain ⟨r1, r2, r3⟩ := putL_ok x y l (addL cs (kIdx (unfP t.2.1 t.2.2 x y)) t.1) (by rw [addL_len]; exact h8) (fun u hu => ht u (List.mem_cons_of_mem _ hu)) (fun c hcm => by
      unfold addL at hcm
      rcases List.mem_or_eq_of_mem_set hcm with q | q
      · exact hc c q
      · have z : 0 ≤ cs.getD (kIdx (unfP t.2.1 t.2.2 x y)) 0 := by
          have lt : kIdx (unfP t.2.1 t.2.2 x y) < cs.length := by omega
          rw [List.getD_eq_getElem?_getD, List.getElem?_eq_getElem lt]
          exact hc _ (List.getElem_mem lt)
        omega)
    have e1 : led 1 2 (addL cs (kIdx (unfP t.2.1 t.2.2 x y)) t.1) = ((led 1 2 cs).1 + t.1 * (unfP t.2.1 t.2.2 x y).1, (led 1 2 cs).2 + t.1 * (unfP t.2.1 t.2.2 x y).2) := ledL_add i1 (by omega)
    refine ⟨?_, ?_, r3⟩
    · show led 1 2 (putL x y l (addL cs (kIdx (unfP t.2.1 t.2.2 x y)) t.1)) = _
      rw [r1, e1]
      show _ = ((led 1 2 cs).1 + (t.1 * (unfP t.2.1 t.2.2 x y).1 + (mlX (unL x y l)).1), (led 1 2 cs).2 + (t.1 * (unfP t.2.1 t.2.2 x y).2 + (mlX (unL x y l)).2))
      refine Prod.ext ?_ ?_ <;> simp only <;> omega
    · show (putL x y l (addL cs (kIdx (unfP t.2.1 t.2.2 x y)) t.1)).sum = cs.sum + (t.1 + mlN l)
      rw [r2, sum_add (by omega)]
      omega
/-- the leaps of a folded place: as many as the distance, each many times from 0 on, they lead there -/
theorem leapsN_ok {far near : Int} (h0 : 0 ≤ near) (h1 : near ≤ far) : mlX (leapsN far near) = (far, near) ∧ mlN (leapsN far near) = leastN far near ∧ ∀ t ∈ leapsN far near, 0 ≤ t.1 := by
  rw [leastN_is]
  unfold leapsN
  rw [leastN_is]
  unfold nearL
  by_cases q1 : far = 1 ∧ near = 0
  · obtain ⟨rfl, rfl⟩ := q1
    decide +kernel
  · rw [if_neg q1]
    by_cases q2 : far = 1 ∧ near = 1
    · obtain ⟨rfl, rfl⟩ := q2
      decide +kernel
    · rw [if_neg q2]
      by_cases q3 : far = 2 ∧ near = 2
      · obtain ⟨rfl, rfl⟩ := q3
        decide +kernel
      · rw [if_neg q3]
        by_cases q4 : far = 3 ∧ near = 0
        · obtain ⟨rfl, rfl⟩ := q4
          decide +kernel
        · rw [if_neg q4]
          have kdef : kN far near = gN far near := by
            unfold kN
            rw [if_neg q1, if_neg q3]
          show mlX (straightL far near (kN far near)) = (far, near) ∧ mlN (straightL far near (kN far near)) = kN far near ∧ ∀ t ∈ straightL far near (kN far near), 0 ≤ t.1
          rw [kdef]
          have b1 : far ≤ 2 * gN far near ∧ far + near ≤ 3 * gN far near ∧ (gN far near + far + near) % 2 = 0 := by
            unfold gN
            rw [farN_is]
            omega
          have b2 : gN far near ≤ far ∧ (gN far near = far → ((3 * gN far near - far - near) / 2) % 2 = 0) := by
            by_cases big : 6 ≤ far
            · have z : gN far near < far := by
                unfold gN
                rw [farN_is]
                omega
              exact ⟨by omega, fun c => absurd c (by omega)⟩
            · have hf : far = 0 ∨ far = 1 ∨ far = 2 ∨ far = 3 ∨ far = 4 ∨ far = 5 := by omega
              have hn : near = 0 ∨ near = 1 ∨ near = 2 ∨ near = 3 ∨ near = 4 ∨ near = 5 := by omega
              rcases hf with rfl | rfl | rfl | rfl | rfl | rfl <;> rcases hn with rfl | rfl | rfl | rfl | rfl | rfl <;> first | (exfalso; omega) | decide +kernel
          generalize gN far near = m at *
          unfold straightL
          simp only
          rw [mnI_is]
          generalize hn : 2 * m - far = narrow at *
          generalize hw : m - narrow = wide at *
          generalize ho : (2 * narrow + wide - near) / 2 = over at *
          generalize hd : min narrow (over / 2) = nd at *
          refine ⟨?_, ?_, ?_⟩
          · refine Prod.ext ?_ ?_ <;> simp only [mlX] <;> omega
          · simp only [mlN]
            omega
          · intro t ht
            simp only [List.mem_cons, List.not_mem_nil, or_false] at ht
            have hp : over % 2 = 0 ∨ 1 ≤ wide := by
              by_cases c : m = far
              · have z := b2.2 c
                have e : 3 * m - far - near = 2 * narrow + wide - near := by omega
                rw [e, ho] at z
                exact .inl z
              · omega
            have w0 : 0 ≤ wide := by omega
            have n0 : 0 ≤ narrow := by omega
            have o0 : 0 ≤ over ∧ over ≤ 2 * narrow + wide := by omega
            have hm : (nd = narrow ∧ narrow ≤ over / 2) ∨ (nd = over / 2 ∧ over / 2 ≤ narrow) := by omega
            clear b1 b2 kdef q1 q2 q3 q4 ho
            rcases ht with rfl | rfl | rfl | rfl <;> simp only <;> rcases hm with ⟨rfl, hm⟩ | ⟨rfl, hm⟩ <;> omega
theorem shortCt_ok (x y : Int) : led 1 2 (shortCt x y) = (x, y) ∧ (shortCt x y).sum = fN x y ∧ (∀ c ∈ shortCt x y, 0 ≤ c) ∧ (shortCt x y).length = 8 := by
  have f0 : 0 ≤ mnI (absN x) (absN y) ∧ mnI (absN x) (absN y) ≤ mxI (absN x) (absN y) := by
    rw [mxI_is, mnI_is, absN_is, absN_is]
    omega
  obtain ⟨l1, l2, l3⟩ := leapsN_ok f0.1 f0.2
  obtain ⟨p1, p2, p3⟩ := putL_ok x y (leapsN (mxI (absN x) (absN y)) (mnI (absN x) (absN y))) [0, 0, 0, 0, 0, 0, 0, 0] rfl (fun t ht => ⟨leapsN_kn t ht, l3 t ht⟩) (by decide)
  refine ⟨?_, ?_, p3, putL_len ..⟩
  · show led 1 2 (putL x y (leapsN (mxI (absN x) (absN y)) (mnI (absN x) (absN y))) [0, 0, 0, 0, 0, 0, 0, 0]) = (x, y)
    rw [p1, mlX_un, l1]
    simp only
    rw [unfP_back, show led 1 2 [0, 0, 0, 0, 0, 0, 0, 0] = (0, 0) by decide +kernel]
    simp
  · show (putL x y (leapsN (mxI (absN x) (absN y)) (mnI (absN x) (absN y))) [0, 0, 0, 0, 0, 0, 0, 0]).sum = fN x y
    rw [p2, l2, leastN_is]
    show 0 + _ = _
    rw [Int.zero_add]
    rfl
end Lw

namespace Lw
open PySem PySem.Spec PyProof.Rows L2 Evl
theorem reach1 {a b : Int} (h : Kn (a, b)) : ∀ (c : Nat) (x y : Int), fN (x + (c : Int) * a) (y + (c : Int) * b) ≤ fN x y + c
  | 0, x, y => by
    have e1 : x + ((0 : Nat) : Int) * a = x := by simp
    have e2 : y + ((0 : Nat) : Int) * b = y := by simp
    rw [e1, e2]
    omega
  | c + 1, x, y => by
    have z := reach1 h c (x + a) (y + b)
    have q := fN_lip (x := x) (y := y) h
    have e1 : x + ((c + 1 : Nat) : Int) * a = x + a + (c : Int) * a := by rw [Int.natCast_add, Int.add_mul]; omega
    have e2 : y + ((c + 1 : Nat) : Int) * b = y + b + (c : Int) * b := by rw [Int.natCast_add, Int.add_mul]; omega
    rw [e1, e2]
    omega
theorem reachL : ∀ (cs : List Int) (ps : List (Int × Int)) (x y : Int), (∀ p ∈ ps, Kn p) → (∀ c ∈ cs, 0 ≤ c) → cs.length ≤ ps.length → fN (x + (ledL cs ps).1) (y + (ledL cs ps).2) ≤ fN x y + cs.sum
  | [], ps, x, y, _, _, _ => by
    show fN (x + 0) (y + 0) ≤ fN x y + 0
    rw [Int.add_zero, Int.add_zero]
    omega
  | c :: cs, [], _, _, _, _, h => absurd h (by simp)
  | c :: cs, p :: ps, x, y, hp, hc, hl => by
    have z := reachL cs ps (x + c * p.1) (y + c * p.2) (fun q hq => hp q (List.mem_cons_of_mem _ hq)) (fun q hq => hc q (List.mem_cons_of_mem _ hq)) (Nat.le_of_succ_le_succ hl)
    have c0 := hc c List.mem_cons_self
    have r := reach1 (a := p.1) (b := p.2) (hp p List.mem_cons_self) c.toNat x y
    rw [Int.toNat_of_nonneg c0] at r
    show fN (x + (c * p.1 + (ledL cs ps).1)) (y + (c * p.2 + (ledL cs ps).2)) ≤ fN x y + (c + cs.sum)
    rw [← Int.add_assoc, ← Int.add_assoc]
    omega
def subL : List Int → List Int → List Int
  | c :: cs, d :: ds => (c - d) :: subL cs ds
  | _, _ => []
theorem subL_led : ∀ (cs ds : List Int) (ps : List (Int × Int)), cs.length = ds.length → ledL (subL cs ds) ps = ((ledL cs ps).1 - (ledL ds ps).1, (ledL cs ps).2 - (ledL ds ps).2)
  | [], [], ps, _ => by cases ps <;> rfl
  | [], _ :: _, _, h => by cases h
  | _ :: _, [], _, h => by cases h
  | c :: cs, d :: ds, [], _ => rfl
  | c :: cs, d :: ds, p :: ps, h => by
    have z := subL_led cs ds ps (Nat.succ.inj h)
    show ((c - d) * p.1 + (ledL (subL cs ds) ps).1, (c - d) * p.2 + (ledL (subL cs ds) ps).2) = (c * p.1 + _ - (d * p.1 + _), c * p.2 + _ - (d * p.2 + _))
    rw [z, Int.sub_mul, Int.sub_mul]
    refine Prod.ext ?_ ?_ <;> simp only <;> omega
theorem subL_sum : ∀ (cs ds : List Int), cs.length = ds.length → (subL cs ds).sum = cs.sum - ds.sum
  | [], [], _ => rfl
  | [], _ :: _, h => by cases h
  | _ :: _, [], h => by cases h
  | c :: cs, d :: ds, h => by
    have z := subL_sum cs ds (Nat.succ.inj h)
    show (c - d) + (subL cs ds).sum = (c + cs.sum) - (d + ds.sum)
    omega
theorem subL_len : ∀ (cs ds : List Int), cs.length = ds.length → (subL cs ds).length = cs.length
  | [], [], _ => rfl
  | [], _ :: _, h => by cases h
  | _ :: _, [], h => by cases h
  | c :: cs, d :: ds, h => by
    have z := subL_len cs ds (Nat.succ.inj h)
    show (subL cs ds).length + 1 = cs.length + 1
    omega
theorem sum0 : ∀ {cs : List Int}, (∀ c ∈ cs, 0 ≤ c) → 0 ≤ cs.sum
  | [], _ => Int.le_refl 0
  | c :: cs, h => by
    have z := sum0 (cs := cs) fun d hd => h d (List.mem_cons_of_mem _ hd)
    have q := h c List.mem_cons_self
    show 0 ≤ c + cs.sum
    omega
theorem firstL_sum : ∀ (cs : List Int) (m : Int), (∀ c ∈ cs, 0 ≤ c) → 0 ≤ m → m ≤ cs.sum → (firstL cs m).sum = m
  | [], m, _, h0, h1 => by
    have z : m ≤ 0 := h1
    show (0 : Int) = m
    omega
  | c :: cs, m, hc, h0, h1 => by
    have c0 := hc c List.mem_cons_self
    have h1' : m ≤ c + cs.sum := h1
    have z := firstL_sum cs (m - mnI c m) (fun d hd => hc d (List.mem_cons_of_mem _ hd))
    rw [mnI_is] at z
    have z' := z (by omega) (by have := sum0 (cs := cs) fun d hd => hc d (List.mem_cons_of_mem _ hd); omega)
    show mnI c m + (firstL cs (m - mnI c m)).sum = m
    rw [mnI_is, z']
    omega
theorem sub_first0 : ∀ (cs : List Int) (m : Int), ∀ c ∈ subL cs (firstL cs m), 0 ≤ c
  | [], _, _, h => by cases h
  | d :: cs, m, c, h => by
    have h' : c ∈ (d - mnI d m) :: subL cs (firstL cs (m - mnI d m)) := h
    rcases List.mem_cons.mp h' with q | q
    · rw [q, mnI_is]
      omega
    · exact sub_first0 cs (m - mnI d m) c q
theorem firstL_next : ∀ (cs : List Int) (m : Int), (∀ c ∈ cs, 0 ≤ c) → 0 ≤ m → m < cs.sum → ∃ j, j < cs.length ∧ firstL cs (m + 1) = addL (firstL cs m) j 1
  | [], m, _, h0, h1 => by
    have z : m < 0 := h1
    omega
  | c :: cs, m, hc, h0, h1 => by
    have c0 := hc c List.mem_cons_self
    have h1' : m < c + cs.sum := h1
    by_cases q : m < c
    · refine ⟨0, Nat.succ_pos _, ?_⟩
      show mnI c (m + 1) :: firstL cs (m + 1 - mnI c (m + 1)) = (mnI c m + 1) :: firstL cs (m - mnI c m)
      rw [mnI_is, mnI_is, show min c (m + 1) = m + 1 by omega, show min c m = m by omega, Int.sub_self, Int.sub_self]
    · obtain ⟨j, hj, e⟩ := firstL_next cs (m - c) (fun d hd => hc d (List.mem_cons_of_mem _ hd)) (by omega) (by omega)
      refine ⟨j + 1, Nat.succ_lt_succ hj, ?_⟩
      show mnI c (m + 1) :: firstL cs (m + 1 - mnI c (m + 1)) = mnI c m :: addL (firstL cs (m - mnI c m)) j 1
      rw [mnI_is, mnI_is, show min c (m + 1) = c by omega, show min c m = c by omega, ← e, show m - c + 1 = m + 1 - c by omega]
theorem eight_kn : ∀ p ∈ eightL 1 2, Kn p := fun _ h => h
/-- from place to place along the leaps: each place's fewest -/
theorem along {x y d : Int} {cs : List Int} (hl : cs.length = 8) (hc : ∀ c ∈ cs, 0 ≤ c) (hp : led 1 2 cs = (x, y)) (hs : cs.sum = fN x y) (h0 : 0 ≤ d) (h1 : d ≤ cs.sum) :
    fN (led 1 2 (firstL cs d)).1 (led 1 2 (firstL cs d)).2 = d ∧ fN (x - (led 1 2 (firstL cs d)).1) (y - (led 1 2 (firstL cs d)).2) = cs.sum - d := by
  have l1 := firstL_len cs d
  have hu : ∀ c ∈ firstL cs d, 0 ≤ c := by
    have gen : ∀ (cs : List Int) (m : Int), 0 ≤ m → (∀ c ∈ cs, 0 ≤ c) → ∀ c ∈ firstL cs m, 0 ≤ c := by
      intro cs
      induction cs with
      | nil => intro m _ _ c h; cases h
      | cons e cs ih =>
        intro m hm hc c h
        have e0 := hc e List.mem_cons_self
        rcases List.mem_cons.mp h with q | q
        · rw [q, mnI_is]; omega
        · exact ih _ (by rw [mnI_is]; omega) (fun z hz => hc z (List.mem_cons_of_mem _ hz)) c q
    exact gen cs d h0 hc
  have su := firstL_sum cs d hc h0 h1
  have hr := sub_first0 cs d
  have sr := subL_sum cs (firstL cs d) l1.symm
  have lr := subL_len cs (firstL cs d) l1.symm
  have er := subL_led cs (firstL cs d) (eightL 1 2) l1.symm
  have hp' : ledL cs (eightL 1 2) = (x, y) := hp
  rw [hp'] at er
  have e8 : (eightL 1 2).length = 8 := rfl
  have a1 := reachL (firstL cs d) (eightL 1 2) 0 0 eight_kn hu (by omega)
  have a2 := reachL (subL cs (firstL cs d)) (eightL 1 2) 0 0 eight_kn hr (by omega)
  have a3 := reachL (subL cs (firstL cs d)) (eightL 1 2) (ledL (firstL cs d) (eightL 1 2)).1 (ledL (firstL cs d) (eightL 1 2)).2 eight_kn hr (by omega)
  have a4 := reachL (firstL cs d) (eightL 1 2) (x - (ledL (firstL cs d) (eightL 1 2)).1) (y - (ledL (firstL cs d) (eightL 1 2)).2) eight_kn hu (by omega)
  rw [er] at a2 a3
  simp only at a2 a3
  rw [Int.zero_add, Int.zero_add, fN_zero] at a1 a2
  rw [Int.sub_add_cancel, Int.sub_add_cancel] at a4
  rw [Int.add_comm, Int.sub_add_cancel, Int.add_comm (ledL (firstL cs d) (eightL 1 2)).2, Int.sub_add_cancel] at a3
  show fN (ledL (firstL cs d) (eightL 1 2)).1 (ledL (firstL cs d) (eightL 1 2)).2 = d ∧ fN (x - (ledL (firstL cs d) (eightL 1 2)).1) (y - (ledL (firstL cs d) (eightL 1 2)).2) = cs.sum - d
  omega
theorem next_is {d : Int} {cs : List Int} (hl : cs.length = 8) (hc : ∀ c ∈ cs, 0 ≤ c) (h0 : 0 ≤ d) (h1 : d < cs.sum) :
    Kn ((led 1 2 (firstL cs (d + 1))).1 - (led 1 2 (firstL cs d)).1, (led 1 2 (firstL cs (d + 1))).2 - (led 1 2 (firstL cs d)).2) := by
  obtain ⟨j, hj, e⟩ := firstL_next cs d hc h0 h1
  have lt : j < (eightL 1 2).length := by show j < 8; omega
  have z := ledL_add (ps := eightL 1 2) (cs := firstL cs d) (j := j) (m := 1) (p := (eightL 1 2)[j]) (List.getElem?_eq_getElem lt) (by rw [firstL_len]; exact hj)
  rw [e]
  have z' : led 1 2 (addL (firstL cs d) j 1) = ((led 1 2 (firstL cs d)).1 + 1 * (eightL 1 2)[j].1, (led 1 2 (firstL cs d)).2 + 1 * (eightL 1 2)[j].2) := z
  rw [z']
  simp only
  have m := List.getElem_mem lt
  generalize (eightL 1 2)[j] = p at *
  have q : ((led 1 2 (firstL cs d)).1 + 1 * p.1 - (led 1 2 (firstL cs d)).1, (led 1 2 (firstL cs d)).2 + 1 * p.2 - (led 1 2 (firstL cs d)).2) = p := by
    refine Prod.ext ?_ ?_ <;> simp only <;> omega
  rw [q]
  exact m
theorem fN0 (x y : Int) : 0 ≤ fN x y := by
  have e := (fN_ge x y).2
  unfold En at e
  omega
section
variable {X : Cx} {elt e1 : Expr} {σ : L2.St} {H : Hp} {fs : List PyData} {pos kp p' px : Pos} {x : Str} {scope : Scope}
theorem f_lcR {n : Nat} (jj : Nat) (hN : X.N.Nodup) (hi : Gd X e1 σ H (.int (n : Int))) (hn1 : n < 1000000) (hzr : X.mg "range" = none) (ok : BlkOk X.N X.env.scope scope [(x, jj)]) (hl : fs.length = n) (hz : fs.length ≤ 100000) (hn : nls fs = true)
    (he : ∀ (i : Nat) (f : PyData) (H1 : Hp), fs[i]? = some f → Ex H H1 → ∀ s H0 C cl fp, Gd (X.blk s H0 scope (compEnvC scope cl C X.env) fp) elt ((wipe σ [jj]).set jj (some (.int (i : Int)))) H1 f)
    (hg : ∀ (s : Shared) (H0 : Hp) (C : Addr) (cl : List (Str × Addr)) (fp : List Addr), PG (X.blk s H0 scope (compEnvC scope cl C X.env) fp) (.Name x px) (gName jj)) (hc : X.calm = true := by rfl) (hgz : L2.Gl X "range" := by rfl)
    (s1 : starEach [e1] X.env = [(false, eval e1 X.env)] := by rfl) (hs : ∀ x, foldedSetIterable (.Call (.Name "range" kp) [e1] [] p') X.env x = pure x := by intro _; rfl) :
    Gf X (.ListComp elt [⟨.Name x px, .Call (.Name "range" kp) [e1] [] p', [], 0⟩] scope pos) σ H fs :=
  gv_of (pe_lc (own := [(x, jj)]) (tt := tYes) hc hN (pi_range1 hgz hzr cA_pa s1) ok hg (fun _ _ _ _ _ => pts_nil) (fun s H0 C cl fp => cB_pe s H0 C cl fp) hs) fun H1 x1 Q q => by
    refine lcR_read (H := H1) jj (.mk fun H2 x2 Q2 q2 => hi.go H2 (x1.trans x2) Q2 q2) s1 hn1 hl hz hn (fun i f H2 hf x2 => he i f H2 hf (x1.trans x2)) fun v H2 x2 ⟨p, ws, z1, z2, z3, z4⟩ => q v H2 x2 ⟨p, ws, z1, fresh_back x1 z2, z3, z4⟩
end
end Lw

namespace Lw
open PySem PySem.Spec PyProof.Rows L2 Evl
/-! ### a dict of tuples as keys, written out -/
abbrev KAV := List Key × Addr × V
def mergeT (kvs : List (List Key × V)) (more : List KAV) : List (List Key × V) := more.foldl (fun acc t => putK acc t.1 t.2.2) kvs
def tDispT (trs : List (TE × TE)) : TE := fun σ H Q => ∀ p, H p = none → tPairs trs σ (upd H p (.dT [])) fun ps H2 => H2 p = some (.dT []) ∧ ∃ kvs : List KAV, ps = kvs.map (fun t => (V.ref t.2.1, t.2.2)) ∧
  (∀ t ∈ kvs, H2 t.2.1 = some (.tup (t.1.map kV))) ∧ kvs.length ≤ 15 ∧ Q (.ref p) (upd H2 p (.dT (mergeT [] kvs)))
theorem length_mergeT : ∀ (more : List KAV) (kvs : List (List Key × V)), (mergeT kvs more).length ≤ kvs.length + more.length
  | [], kvs => by show kvs.length ≤ kvs.length + 0; omega
  | p :: r, kvs => by
    have h1 := length_mergeT r (putK kvs p.1 p.2.2)
    have h2 := length_putK kvs p.1 p.2.2
    show (mergeT (putK kvs p.1 p.2.2) r).length ≤ _
    rw [List.length_cons]
    omega
theorem carriesT {P : Program} {w : World} {H : Hp} {h : Heap} (ok : HOk P w H h) : ∀ {kvs : List KAV} {ws : List (Value × Value)}, VV (kvs.map fun t => (V.ref t.2.1, t.2.2)) ws → (∀ t ∈ kvs, H t.2.1 = some (.tup (t.1.map kV))) →
    ∃ rs : List (List Key × Addr × Value), CarriesH (tupleKind (mixKind P w)) h ws rs ∧ Paired (fun (p : KAV) (q : List Key × Addr × Value) => p.1 = q.1 ∧ p.2.1 = q.2.1 ∧ RelV p.2.2 q.2.2) kvs rs
  | [], _, r, _ => by rw [List.map_nil] at r; cases r; exact ⟨[], True.intro, .nil⟩
  | p :: kvs, _, r, hh => by
    rw [List.map_cons] at r
    cases r with
    | @cons a b as bs h1 t =>
      obtain ⟨rs, c, q⟩ := carriesT ok t fun z hz => hh z (List.mem_cons_of_mem _ hz)
      obtain ⟨b1, b2⟩ := b
      exact ⟨(p.1, p.2.1, b2) :: rs, ⟨h1.1, rfl, key_of ok (hh p List.mem_cons_self), c⟩, .cons ⟨rfl, rfl, h1.2⟩ q⟩
theorem KT_merge {H : Hp} : ∀ {more : List KAV} {rs xs : List (List Key × Addr × Value)} {kvs : List (List Key × V)}, Paired (fun (p : KAV) (q : List Key × Addr × Value) => p.1 = q.1 ∧ p.2.1 = q.2.1 ∧ RelV p.2.2 q.2.2) more rs → (∀ t ∈ more, H t.2.1 = some (.tup (t.1.map kV))) → KT H kvs xs → KT H (mergeT kvs more) (storedAllH xs rs)
  | [], _, _, _, .nil, _, k => k
  | p :: more, _ :: _, xs, kvs, .cons (b := q) ⟨h1, h2, h3⟩ r, hh, k => by
    have z : KT H (putK kvs p.1 p.2.2) (storedH xs q.1 q.2.1 q.2.2) := by
      rw [← h1, ← h2]
      exact k.put p.1 (hh p List.mem_cons_self) h3
    have y := KT_merge (more := more) r (fun t ht => hh t (List.mem_cons_of_mem _ ht)) z
    exact y
theorem pe_dispT {X : Cx} {pos : Pos} {keys : List (Option Expr)} {values : List Expr} {trs : List (TE × TE)} (hu : X.A.units + 64 < cLine) (h : PPs X pos keys values trs) (hall : keys.all (·.isSome) = true) (hl : keys.length = values.length) (h0 : keys ≠ [])
    (h15 : keys.length ≤ 15) : PE X (.Dict keys values pos) (tDispT trs) := by
  refine ⟨fun pins s σ H Q I toEnd => ?_⟩
  have hfree := I.hok.fresh (Nat.le_refl s.heap.objs.size)
  have I1 := I.laid (a := s.heap.objs.size) (o := .dT []) (h' := s.heap.push { cls := .type "dict", data := .dict #[] }) (t' := s.toks) (fun _ _ q => Heap.get?_push_of_some _ q) (Nat.le_refl _) (dt_empty s.heap I.big)
  have hlen := pairTrees_length keys values X.env pos hall hl
  rw [arm_eval_Dict, zip_pairTrees keys values X.env pos hall hl, dictDisplay_pairs (pairTrees keys values X.env pos) (by
    intro he
    rw [he] at hlen
    exact h0 (List.length_eq_zero_iff.mp hlen.symm)) (by omega)]
  refine wpAny_bind (wpAny_standAt (wpAny_bind (wpAny_subDictH (knd := tupleKind (mixKind X.prog X.w)) (by show X.A.units < cLine; omega) (by omega)
    (wpAny_mono (h.run pins _ σ _ _ I1 (toEnd _ hfree)) (fun ws s2 z => ?_) fun _ _ e => e))))
  obtain ⟨ps, H2, I2, rel, e, kvs, ep, hk, lk, q2⟩ := z
  subst ep
  obtain ⟨rs, c, rk⟩ := carriesT I2.hok rel hk
  obtain ⟨z, hd, xs, r0, dd⟩ := dt_of I2.hok e
  cases r0
  refine ⟨rs, c, dd, fun h' tk dd' hs => wpAny_pure ⟨.ref s.heap.objs.size, _, ?_, rfl, q2⟩⟩
  have hz : (mergeT [] kvs).length ≤ sizeLine := by
    have h1 := length_mergeT kvs []
    rw [List.length_nil] at h1
    rw [sizeLine_eq]
    omega
  obtain ⟨o, es, epo, hq, k2, k3, k4, _, k5⟩ := dd'
  refine d_write I2 (by rw [e]; exact True.intro) hs ⟨o, hq⟩ ⟨hz, hd, _, (KT_merge rk hk .nil).keeps fun c ys hcd => ?_, o, es, epo, hq, k2, k3, k4, k5⟩
  rw [upd_ne (ne_of hcd e (fun z => nomatch z))]
  exact hcd
section
variable {X : Cx} {o i e : Expr} {rest : List Stmt} {σ : L2.St} {H : Hp} {pos pos' : Pos} {D : Ends}
/-- a pair of numbers as a key -/
def kk (x y : Int) : List Key := [.inl x, .inl y]
theorem kk_v (x y : Int) : (kk x y).map kV = [.int x, .int y] := rfl
/-- a new tuple of two numbers -/
def Pk (H : Hp) (v : V) (x y : Int) : Prop := ∃ b, v = .ref b ∧ H b = some (.tup [.int x, .int y])
theorem Pk.ex {H H' : Hp} {v : V} {x y : Int} (z : Ex H H') (h : Pk H v x y) : Pk H' v x y := by
  obtain ⟨b, e, h1⟩ := h
  exact ⟨b, e, z _ _ h1⟩
theorem Pk.dq {K : PySem.W.Frag} {H : Hp} {v : V} {x y : Int} (h : Pk H v x y) : Dq K H v (pr x y) := by
  obtain ⟨b, rfl, h1⟩ := h
  exact .tup (SqT.of h1) (dpa_of_ints [x, y])
theorem p_tup {es : List Expr} {k : Nat} {x y : Int} (h : Gs X es σ H [.int x, .int y]) : Gv X (.Tuple es k pos) σ H fun v H' => Pk H' v x y := gv_of (pe_tup cA_pa) fun H1 z Q q => h.go H1 z _ fun vs H2 w r => by
  have e : vs = [.int x, .int y] := dpa_ints [x, y] r
  subst e
  exact ⟨sz_of (by simp), fun p hp => q _ _ (w.trans (Ex.new hp)) ⟨p, rfl, upd_same⟩⟩
theorem p_var (j : Nat) {x : Str} {v : V} {a b : Int} (hN : X.N[j]? = some x) (hs : σ[j]? = some (some v)) (hd : Pk H v a b)
    (hv : Vis X.env.scope x := by first | exact Or.inl rfl | exact Or.inr (Or.inl rfl) | exact Or.inr (Or.inr rfl)) (h1 : (x == ("__debug__" : Str)) = false := by decide) (h2 : (x == ("__classdict__" : Str)) = false := by decide) : Gv X (.Name x pos) σ H fun v H' => Pk H' v a b :=
  (x_varV j hN hs hv h1 h2).imp fun v' H2 x r => by rw [r]; exact hd.ex x
theorem t_notInT {d : Addr} {kvs : List (List Key × V)} {x y : Int} (hu : X.A.units + 64 < cLine) (hi : Gv X i σ H fun v H' => Pk H' v x y) (ho : Gv X o σ H fun v _ => v = .ref d) (hd : H d = some (.dT kvs)) (hm : behindInMarks .NotIn o = false := by rfl) : Gt X (.Compare i [.NotIn] [o] pos) σ H (!(valV kvs (kk x y)).isSome) := .mk fun H1 z Q q =>
  cT_of (pt_cmp (pc_dnotin (by omega) cE_pe cE_pe) hm) (hi.go H1 z _ fun v H2 w ⟨b, e, hb⟩ => ho.go H2 (z.trans w) _ fun u H3 t ru => ⟨d, _, ru, by rw [e]; exact DGet.t (k := kk x y) (t _ _ (w _ _ (z _ _ hd))) (by rw [kk_v]; exact t _ _ hb), ⟨_, rfl, q H3 (w.trans t)⟩⟩)
theorem g_putT {d : Addr} {kvs : List (List Key × V)} {x y : Int} {c : Bool} (hu : X.A.units + 64 < cLine) (he : Gd X e σ H (.bool c)) (ho : Gv X o σ H fun v _ => v = .ref d) (hi : Gv X i σ H fun v H' => Pk H' v x y) (hd : H d = some (.dT kvs)) (hl : kvs.length < 100000)
    (k : ∀ H1, Ex H H1 → cSs X rest D σ (upd H1 d (.dT (putK kvs (kk x y) (.bl c))))) (hs : swapsWith e (some (.Subscript o i pos')) pos.line X.env = pure false := by rfl) : cSs X (.Assign [.Subscript o i pos'] e pos :: rest) D σ H :=
  g_st (ps_dput (by omega) cE_pe cE_pe cE_pe hs) (he.go H (Ex.refl H) _ fun v H1 z r => ho.go H1 z _ fun u H2 t ru => hi.go H2 (z.trans t) _ fun w H3 s ⟨b, eb, hb⟩ => by
    subst eb
    rw [dp_bl r]
    exact ⟨d, _, ru, DPut.t (k := kk x y) (v := .bl c) (s _ _ (t _ _ (z _ _ hd))) (by rw [kk_v]; exact hb) (sz_lt hl), k H3 ((z.trans t).trans s)⟩)
/-- {(a, b): True} -/
theorem x_dispT1 {ke ve : Expr} {x y : Int} {c : Bool} (hu : X.A.units + 64 < cLine) (hk : ∀ H', Ex H H' → Gv X ke σ H' fun v H2 => Pk H2 v x y) (hv : Gd X ve σ H (.bool c)) :
    Gv X (.Dict [some ke] [ve] pos) σ H fun v H' => ∃ d, v = .ref d ∧ H d = none ∧ H' d = some (.dT [(kk x y, .bl c)]) :=
  gv_of (pe_dispT hu (pps_cons cE_pe cE_pe pps_nil) rfl rfl (by simp) (by simp)) fun H1 z Q q p hp => (hk _ (z.trans (Ex.new hp))).go _ (Ex.refl _) _ fun v H2 t ⟨b, eb, hb⟩ => hv.go H2 (z.trans ((Ex.new hp).trans t)) _ fun u H3 s r => by
    refine ⟨s _ _ (t _ _ upd_same), [(kk x y, b, .bl c)], by rw [eb, dp_bl r]; rfl, fun w hw => ?_, by simp, q _ _ (Ex.mut (((Ex.new hp).trans t).trans s) hp) ⟨p, rfl, fresh_back z hp, upd_same⟩⟩
    rw [List.mem_singleton.mp hw, kk_v]
    exact s _ _ hb
end
end Lw

namespace Lw
open PySem PySem.Spec PyProof.Rows L2 Evl
/-! ### what stands while lists and dicts change: tuples -/
def Kp (A B : Hp) : Prop := (∀ b ys, A b = some (.tup ys) → B b = some (.tup ys)) ∧ ∀ b o ys, A b = some (.frz o (.tup ys)) → B b = some (.frz o (.tup ys))
theorem Kp.of {A B : Hp} (x : Ex A B) : Kp A B := ⟨fun b _ h => x b _ h, fun b _ _ h => x b _ h⟩
theorem Kp.trans {A B C : Hp} (x : Kp A B) (y : Kp B C) : Kp A C := ⟨fun b _ h => y.1 b _ (x.1 b _ h), fun b _ _ h => y.2 b _ _ (x.2 b _ _ h)⟩
theorem Kp.lst {A : Hp} {l : Addr} {xs : List V} {u : HO} (h : A l = some (.lst xs)) : Kp A (upd A l u) :=
  ⟨fun b ys hb => by rw [upd_ne (fun e => by rw [e, h] at hb; cases hb)]; exact hb, fun b o ys hb => by rw [upd_ne (fun e => by rw [e, h] at hb; cases hb)]; exact hb⟩
theorem Kp.dct {A : Hp} {l : Addr} {xs : List (List Key × V)} {u : HO} (h : A l = some (.dT xs)) : Kp A (upd A l u) :=
  ⟨fun b ys hb => by rw [upd_ne (fun e => by rw [e, h] at hb; cases hb)]; exact hb, fun b o ys hb => by rw [upd_ne (fun e => by rw [e, h] at hb; cases hb)]; exact hb⟩
section
variable {K : PySem.W.Frag} {A B : Hp}
theorem sqt_kp (m : Kp A B) {p : Addr} {vs : List V} (h : SqT K A p vs) : SqT K B p vs := by
  rcases h with (h | ⟨o, h⟩) | h
  · exact .inl (.inl (m.1 _ _ h))
  · exact .inl (.inr ⟨o, m.2 _ _ _ h⟩)
  · exact .inr h
theorem pr_kp (m : Kp A B) {v : V} {x y : Int} (h : Dq K A v (pr x y)) : Dq K B v (pr x y) := by
  obtain ⟨p, vs, rfl, h1, h2⟩ := dp_tup h
  have e : vs = [.int x, .int y] := dpa_ints [x, y] h2
  subst e
  exact .tup (sqt_kp m h1) (dpa_of_ints [x, y])
theorem prs_kp (m : Kp A B) : ∀ {l : List (Int × Int)} {xs : List V}, DqAll K A xs (prL l) → DqAll K B xs (prL l)
  | [], _, h => by cases h; exact .nil
  | p :: l, _, h => by
    cases (show DqAll K A _ (pr p.1 p.2 :: prL l) from h) with
    | cons h1 h2 => exact .cons (pr_kp m h1) (prs_kp m h2)
theorem prs_get : ∀ {l : List (Int × Int)} {xs : List V} {i : Nat} {w : V}, DqAll K A xs (prL l) → xs[i]? = some w → ∃ p, l[i]? = some p ∧ Dq K A w (pr p.1 p.2) := by
  intro l xs i w h hw
  obtain ⟨d, hd, r⟩ := dpa_get' h hw
  unfold prL at hd
  rw [List.getElem?_map] at hd
  obtain ⟨p, hp, rfl⟩ := Option.map_eq_some_iff.mp hd
  exact ⟨p, hp, r⟩
end
section
variable {X : Cx} {iter tg e1 : Expr} {rest body : List Stmt} {σ : L2.St} {H : Hp} {pos kp p' px : Pos} {D : Ends} {x : Str} {g : TG} {R : V → Hp → Prop}
theorem g_forX (hg : PG X tg g) (hi : Gv X iter σ H R) (hp : PassesOwn (model X.prog X.w) X.A X.env X.xe)
    (hk : ∀ v H1, Ex H H1 → R v H1 → ∃ (p : Addr) (xs : List V) (P : Nat → L2.St → Hp → Prop), v = .ref p ∧ P 0 σ H1 ∧ (∀ i σ' H', P i σ' H' → SqL X.K H' p xs) ∧
      (∀ i w σ' H', xs[i]? = some w → P i σ' H' → g w σ' H' fun σ2 H2 => cSs X body { D with nx := P (i + 1), ct := P (i + 1), bk := cSs X rest D } σ2 H2) ∧ ∀ σ' H', P xs.length σ' H' → cSs X rest D σ' H')
    (hc : X.calm = true := by rfl) (hf : ∀ x, foldedSetIterable iter X.env x = pure x := by intro _; rfl) : cSs X (.For tg iter body [] pos :: rest) D σ H :=
  g_forE (pi_list cE_pe) hg hp hc hf (hi.go H (Ex.refl H) _ fun v H1 x1 r => by
    obtain ⟨p, xs, P, e, h0, h1, h2, h3⟩ := hk v H1 x1 r
    exact ⟨p, e, ⟨xs, h1 _ _ _ h0⟩, for_list (xs := xs) P h0 (fun i σ' H' _ q => h1 i σ' H' q) (fun i w σ' H' hi q => h2 i w σ' H' hi q) fun σ' H' q => h3 σ' H' q⟩)
theorem g_rangeX {hi : Nat} (j : Nat) (hN : X.N.Nodup) (hj : X.N[j]? = some x) (h1 : Gd X e1 σ H (.int (hi : Int))) (hh : hi < 1000000) (hz : X.mg "range" = none) (P : Nat → L2.St → Hp → Prop) (h0 : ∀ H1, Ex H H1 → P 0 σ H1) (hp : PassesOwn (model X.prog X.w) X.A X.env X.xe)
    (hs : ∀ (i : Nat) (σ' : L2.St) (H' : Hp), i < hi → P i σ' H' → cSs X body { D with nx := P (i + 1), ct := P (i + 1), bk := cSs X rest D } (σ'.set j (some (.int (i : Int)))) H')
    (hd : ∀ σ' H', P hi σ' H' → cSs X rest D σ' H') (l1 : Ld X x := by first | exact Or.inl rfl | exact Or.inr rfl) (f1 : Lf X x := by first | exact .inl rfl | exact .inr rfl) (hca : X.calm = true := by rfl) (hgz : L2.Gl X "range" := by rfl)
    (s1 : starEach [e1] X.env = [(false, eval e1 X.env)] := by rfl)
    (hf : ∀ x, foldedSetIterable (.Call (.Name "range" kp) [e1] [] p') X.env x = pure x := by intro _; rfl) : cSs X (.For (.Name x px) (.Call (.Name "range" kp) [e1] [] p') body [] pos :: rest) D σ H :=
  g_forE (pi_range1 hgz hz cA_pa s1) (pg_name hN hj l1 f1) hp hca hf ((s_cons h1 s_nil s1).go H (Ex.refl H) _ fun vs H1 x1 r => by
    have ev : vs = [.int (hi : Int)] := dpa_ints [(hi : Int)] r
    refine ⟨(hi : Int), ev, by omega, by omega, ?_⟩
    rw [Int.toNat_natCast]
    refine for_range P (h0 H1 x1) (fun i σ' H' hlt q => ?_) hd
    rw [Int.zero_add]
    exact hs i σ' H' hlt q)
end
/-! ### the search by turns, as lists -/
abbrev PL := List (Int × Int)
def hasP (s : PL) (x y : Int) : Bool := s.any fun q => q.1 == x && q.2 == y
def step1 (p : Int × Int) (s : PL × PL) (m : Int × Int) : PL × PL := if hasP s.1 (p.1 + m.1) (p.2 + m.2) then s else (s.1 ++ [(p.1 + m.1, p.2 + m.2)], s.2 ++ [(p.1 + m.1, p.2 + m.2)])
def stepP (s : PL × PL) (p : Int × Int) : PL × PL := (eightL 1 2).foldl (step1 p) s
def turnS (t : PL × PL × List Int) : PL × PL × List Int := let r := t.2.1.foldl stepP (t.1, []); (r.1, r.2, t.2.2 ++ [(r.2.length : Int)])
def triedS : Nat → PL × PL × List Int
  | 0 => ([(0, 0)], [(0, 0)], [1])
  | n + 1 => turnS (triedS n)
theorem foldl_snoc {α β : Type} (f : α → β → α) (a : α) (l : List β) (i : Nat) (b : β) (h : l[i]? = some b) : (l.take (i + 1)).foldl f a = f ((l.take i).foldl f a) b := by
  rw [List.take_add_one, h, List.foldl_append]
  rfl
def kvT (s : PL) : List (List Key × V) := s.map fun p => (kk p.1 p.2, .bl true)
theorem kk_eq (a b x y : Int) : decide (kk a b = kk x y) = (a == x && b == y) := by
  unfold kk
  by_cases h : a = x <;> by_cases h2 : b = y <;> simp [h, h2]
theorem kvT_has (s : PL) (x y : Int) : (valV (kvT s) (kk x y)).isSome = hasP s x y := by
  rw [← valV_any]
  unfold kvT hasP
  rw [List.any_map]
  congr 1
  funext q
  exact kk_eq q.1 q.2 x y
theorem kvT_put {s : PL} {x y : Int} (h : hasP s x y = false) : putK (kvT s) (kk x y) (.bl true) = kvT (s ++ [(x, y)]) := by
  unfold putK
  rw [valV_any, kvT_has, h]
  simp [kvT]
theorem step1_len (p : Int × Int) (s : PL × PL) (m : Int × Int) : (step1 p s m).1.length ≤ s.1.length + 1 ∧ (step1 p s m).2.length ≤ s.2.length + 1 := by
  unfold step1
  split
  · omega
  · simp
end Lw

namespace Lw
open PySem PySem.Spec PyProof.Rows L2 Evl
section
variable {X : Cx} {o a e1 e2 elt iter tst : Expr} {rest body : List Stmt} {σ : L2.St} {H : Hp} {pos apos kp p' px spos : Pos} {D : Ends} {x y : Str} {scope : Scope} {ns : List Int} {fs : List PyData}
/-- xs.count(n) -/
theorem x_countL {c : Int} (ho : Gd X o σ H (lsI ns)) (ha : Gd X a σ H (.int c))
    (hbase : attributeBase o "count" X.env (eval o X.env) = eval o X.env := by rfl)
    (hfew : ((backTo pos (starEach [a] X.env)).all (fun x => !x.1) && (backToKw pos (keywordEach [] X.env)).all (fun x => x.1.isSome) && decide (([a] : List Expr).length + ([] : List Keyword).length + (if ([] : List Keyword).isEmpty then 0 else 1) < 30)) = true := by rfl)
    (hline : (apos.endLine == pos.line) = true := by rfl) (hs : starEach [a] X.env = (false, eval a X.env) :: starEach [] X.env := by rfl) (hplain : (backTo pos (starEach [] X.env)).any (·.1) = false := by rfl) :
    Gd X (.Call (.Attribute o "count" apos) [a] [] pos) σ H (.int (ns.count c : Nat)) :=
  gv_of (pe_bm PySem.F.plainAttrs_list PySem.F.slot_list_count PySem.F.type_list_count mt_lcount cE_pe cA_pa hbase hfew hline hs hplain) fun H1 x Q q => ho.go H1 x _ fun v H2 y r => by
    obtain ⟨l, xs, e, h1, h2⟩ := dp_lst r
    have z := dpa_ints ns h2
    subst z
    refine ⟨by rw [e]; exact .inl ⟨rfl, _, h1⟩, cA_of (pa_cons cE_pe pa_nil hs) (ha.go H2 (x.trans y) _ fun u H3 z ru => ?_)⟩
    exact ⟨l, ns, c, e, by rw [dp_int ru], ex_l z h1, q _ H3 (y.trans z) (.int _)⟩
/-- for x in range(a, b), whatever changes -/
theorem g_range2X {lo : Int} {n : Nat} (j : Nat) (hN : X.N.Nodup) (hj : X.N[j]? = some x) (h1 : Gd X e1 σ H (.int lo)) (h2 : Gd X e2 σ H (.int (lo + n))) (hh : n < 1000000 ∧ -1000000 < lo ∧ lo < 1000000) (hz : X.mg "range" = none) (P : Nat → L2.St → Hp → Prop) (h0 : ∀ H1, Ex H H1 → P 0 σ H1) (hp : PassesOwn (model X.prog X.w) X.A X.env X.xe)
    (hs : ∀ (i : Nat) (σ' : L2.St) (H' : Hp), i < n → P i σ' H' → cSs X body { D with nx := P (i + 1), ct := P (i + 1), bk := cSs X rest D } (σ'.set j (some (.int (lo + i)))) H')
    (hd : ∀ σ' H', P n σ' H' → cSs X rest D σ' H') (l1 : Ld X x := by first | exact Or.inl rfl | exact Or.inr rfl) (f1 : Lf X x := by first | exact .inl rfl | exact .inr rfl) (hca : X.calm = true := by rfl) (hgz : L2.Gl X "range" := by rfl)
    (s1 : starEach [e1, e2] X.env = [(false, eval e1 X.env), (false, eval e2 X.env)] := by rfl) (s2 : starEach [e2] X.env = [(false, eval e2 X.env)] := by rfl)
    (hf : ∀ x, foldedSetIterable (.Call (.Name "range" kp) [e1, e2] [] p') X.env x = pure x := by intro _; rfl) : cSs X (.For (.Name x px) (.Call (.Name "range" kp) [e1, e2] [] p') body [] pos :: rest) D σ H :=
  g_forE (pi_range2 hgz hz cA_pa s1 s2) (pg_name hN hj l1 f1) hp hca hf ((s_cons h1 (s_cons h2 s_nil s2) (by rw [s1, s2])).go H (Ex.refl H) _ fun vs H1 x1 r => by
    have ev : vs = [.int lo, .int (lo + n)] := dpa_ints [lo, lo + n] r
    refine ⟨lo, lo + n, ev, ⟨by omega, by omega, by omega, by omega⟩, ?_⟩
    have e : (lo + (n : Int) - lo).toNat = n := by omega
    rw [e]
    exact for_range P (h0 H1 x1) (fun i σ' H' hlt q => hs i σ' H' hlt q) hd)
/-- [elt for x in range(a, b)] -/
theorem f_lcR2 {lo : Int} {n : Nat} (jj : Nat) (hN : X.N.Nodup) (h1 : Gd X e1 σ H (.int lo)) (h2 : Gd X e2 σ H (.int (lo + n))) (hh : n < 1000000 ∧ -1000000 < lo ∧ lo < 1000000) (hzr : X.mg "range" = none) (ok : BlkOk X.N X.env.scope scope [(x, jj)]) (hl : fs.length = n) (hz : fs.length ≤ 100000) (hn : nls fs = true)
    (he : ∀ (i : Nat) (f : PyData) (H1 : Hp), fs[i]? = some f → Ex H H1 → ∀ s H0 C cl fp, Gd (X.blk s H0 scope (compEnvC scope cl C X.env) fp) elt ((wipe σ [jj]).set jj (some (.int (lo + (i : Int))))) H1 f)
    (hg : ∀ (s : Shared) (H0 : Hp) (C : Addr) (cl : List (Str × Addr)) (fp : List Addr), PG (X.blk s H0 scope (compEnvC scope cl C X.env) fp) (.Name x px) (gName jj)) (hc : X.calm = true := by rfl) (hgz : L2.Gl X "range" := by rfl)
    (s1 : starEach [e1, e2] X.env = [(false, eval e1 X.env), (false, eval e2 X.env)] := by rfl) (s2 : starEach [e2] X.env = [(false, eval e2 X.env)] := by rfl) (hs : ∀ x, foldedSetIterable (.Call (.Name "range" kp) [e1, e2] [] p') X.env x = pure x := by intro _; rfl) :
    Gf X (.ListComp elt [⟨.Name x px, .Call (.Name "range" kp) [e1, e2] [] p', [], 0⟩] scope pos) σ H fs :=
  gv_of (pe_lc (own := [(x, jj)]) (tt := tYes) hc hN (pi_range2 hgz hzr cA_pa s1 s2) ok hg (fun _ _ _ _ _ => pts_nil) (fun s H0 C cl fp => cB_pe s H0 C cl fp) hs) fun H1 x1 Q q => (s_cons h1 (s_cons h2 s_nil s2) (by rw [s1, s2])).go H1 x1 _ fun vs H2 x2 r => by
    have ev : vs = [.int lo, .int (lo + n)] := dpa_ints [lo, lo + n] r
    refine ⟨lo, lo + n, ev, ⟨by omega, by omega, by omega, by omega⟩, fun D hD => ?_⟩
    have e : (lo + (n : Int) - lo).toNat = n := by omega
    rw [e]
    refine lc_range (Lcw X.K H2 D fs) ⟨hD, Ex.new hD, [], upd_same, .nil⟩ (fun i H' hlt p => ?_) fun H' p => ?_
    · have li : i < fs.length := by omega
      refine ⟨wipe1 σ jj _, ?_⟩
      refine lcw_turn (te := cB X scope elt) p (List.getElem?_eq_getElem li) hz hn fun Q' q' s H0 C cl fp => ?_
      exact (he i _ H' (List.getElem?_eq_getElem li) (x1.trans (x2.trans p.2.1)) s H0 C cl fp).go H' (Ex.refl H') Q' q'
    · obtain ⟨p1, p2, vs, p3, p4⟩ := p
      rw [← hl, List.take_length] at p4
      exact q _ H' (x2.trans p2) ⟨D, vs, rfl, fresh_back (x1.trans x2) p1, p3, p4⟩
/-- a turn of a comprehension with an if: what is kept so far -/
def Lci (K : PySem.W.Frag) (H1 : Hp) (D : Addr) (k : Nat → Nat) (i : Nat) (H' : Hp) : Prop := H1 D = none ∧ Ex H1 H' ∧ H' D = some (.lst (List.replicate (k i) (.int 1)))
def cTB (X : Cx) (scope : Scope) (e : Expr) : TT := fun σ H Q => ∀ (s : Shared) (H0 : Hp) (C : Addr) (cl : List (Str × Addr)) (fp : List Addr), cT (X.blk s H0 scope (compEnvC scope cl C X.env) fp) e σ H Q
theorem cTB_pt {scope : Scope} {e : Expr} (s : Shared) (H0 : Hp) (C : Addr) (cl : List (Str × Addr)) (fp : List Addr) : PT (X.blk s H0 scope (compEnvC scope cl C X.env) fp) e (cTB X scope e) := ⟨fun pins s1 _ _ _ I h => h s H0 C cl fp pins s1 I⟩
theorem f_lcIf {k : Nat} {pc : Pos} {b : Int → Bool} (jj : Nat) (hN : X.N.Nodup) (hi : Gd X iter σ H (lsI ns)) (ok : BlkOk X.N X.env.scope scope [(x, jj)]) (hz : ns.length ≤ 10000)
    (ht : ∀ (i : Nat) (n : Int) (H1 : Hp), ns[i]? = some n → Ex H H1 → ∀ s H0 C cl fp, Gt (X.blk s H0 scope (compEnvC scope cl C X.env) fp) tst ((wipe σ [jj]).set jj (some (.int n))) H1 (b n))
    (hg : ∀ (s : Shared) (H0 : Hp) (C : Addr) (cl : List (Str × Addr)) (fp : List Addr), PG (X.blk s H0 scope (compEnvC scope cl C X.env) fp) (.Name x px) (gName jj)) (hc : X.calm = true := by rfl) (hs : ∀ x, foldedSetIterable iter X.env x = pure x := by intro _; rfl) :
    Gf X (.ListComp (.Constant (.int 1) k pc) [⟨.Name x px, iter, [tst], 0⟩] scope pos) σ H (List.replicate (ns.filter b).length (.int 1)) :=
  gv_of (pe_lc (own := [(x, jj)]) (tt := cTB X scope tst) hc hN (pi_list cE_pe) ok hg (fun s H0 C cl fp => pts_one (cTB_pt s H0 C cl fp)) (fun s H0 C cl fp => cB_pe s H0 C cl fp) hs) fun H1 x1 Q q => hi.go H1 x1 _ fun v H2 y r => by
    obtain ⟨a, xs, rfl, h1, h2⟩ := dp_lst r
    have e := dpa_ints ns h2
    subst e
    refine ⟨a, rfl, ⟨_, h1⟩, fun D hD => lc_list (xs := ns.map V.int) (Lci X.K H2 D fun i => ((ns.take i).filter b).length) ⟨hD, Ex.new hD, upd_same⟩ (fun i H' _ p => ex_l p.2.1 h1) (fun i u H' hu p => ?_) fun H' p => ?_⟩
    · rw [List.getElem?_map] at hu
      obtain ⟨n, hn, rfl⟩ := Option.map_eq_some_iff.mp hu
      refine ⟨wipe1 σ jj _, fun s H0 C cl fp => (ht i n H' hn (x1.trans (y.trans p.2.1)) s H0 C cl fp).go H' (Ex.refl H') _ fun H3 z => ?_⟩
      obtain ⟨p1, p2, p3⟩ := p
      have tk : ns.take (i + 1) = ns.take i ++ [n] := by rw [List.take_add_one, hn]; rfl
      have hle : ((ns.take i).filter b).length ≤ 10000 := by
        have q1 := List.length_filter_le b (ns.take i)
        have q2 := List.length_take_le' i ns
        omega
      cases hb : b n with
      | true =>
        rw [if_pos rfl]
        intro s H0 C cl fp
        refine x_int.go H3 (Ex.refl H3) _ fun w H4 w4 rw' => ⟨_, w4 _ _ (z _ _ p3), by rw [List.length_replicate]; exact sz_lt (Nat.lt_of_le_of_lt hle (by decide)), p1, (Ex.mut ((p2.trans z).trans w4) p1), ?_⟩
        rw [upd_same, dp_int rw']
        show some (HO.lst (List.replicate ((ns.take i).filter b).length (V.int 1) ++ [V.int 1])) = some (HO.lst (List.replicate ((ns.take (i + 1)).filter b).length (V.int 1)))
        rw [tk, List.filter_append]
        have e2 : [n].filter b = [n] := by simp [hb]
        rw [e2, List.length_append]
        show some (HO.lst _) = some (HO.lst (List.replicate (((ns.take i).filter b).length + 1) _))
        rw [List.replicate_succ']
      | false =>
        rw [if_neg Bool.false_ne_true]
        refine ⟨p1, p2.trans z, ?_⟩
        show H3 D = some (HO.lst (List.replicate ((ns.take (i + 1)).filter b).length (V.int 1)))
        rw [tk, List.filter_append]
        have e2 : [n].filter b = [] := by simp [hb]
        rw [e2, List.append_nil]
        exact z _ _ p3
    · obtain ⟨p1, p2, p3⟩ := p
      have p3' : H' D = some (.lst (List.replicate ((ns.take (ns.map V.int).length).filter b).length (.int 1))) := p3
      rw [List.length_map, List.take_length] at p3'
      refine q _ H' (y.trans p2) ⟨D, _, rfl, fresh_back (x1.trans y) p1, p3', ?_⟩
      have gen : ∀ m : Nat, DqAll X.K H' (List.replicate m (V.int 1)) (List.replicate m (PyData.int 1)) := by
        intro m
        induction m with
        | zero => exact .nil
        | succ m ih => exact .cons (.int 1) ih
      exact gen _
/-- for i, n in enumerate(numbers) -/
theorem g_enum {e : Expr} {y2 : Str} {py pt : Pos} {kt : Nat} (i j : Nat) (hN : X.N.Nodup) (hi : X.N[i]? = some x) (hj : X.N[j]? = some y2) (ha : Gd X e σ H (lsI ns)) (hz : X.mg "enumerate" = none) (P : L2.St → Prop) (h0 : P σ) (hp : PassesOwn (model X.prog X.w) X.A X.env X.xe)
    (hs : ∀ (t : Nat) (n : Int) (σ' : L2.St) (H' : Hp), ns[t]? = some n → Ex H H' → P σ' → cSs X body { D with nx := fun σ2 H2 => Ex H' H2 ∧ P σ2, ct := fun σ2 H2 => Ex H' H2 ∧ P σ2, bk := cSs X rest D } ((σ'.set i (some (.int (t : Int)))).set j (some (.int n))) H')
    (hd : ∀ σ' H', Ex H H' → P σ' → cSs X rest D σ' H') (l1 : Ld X x := by first | exact Or.inl rfl | exact Or.inr rfl) (l2 : Ld X y2 := by first | exact Or.inl rfl | exact Or.inr rfl) (f1 : Lf X x := by first | exact .inl rfl | exact .inr rfl) (f2 : Lf X y2 := by first | exact .inl rfl | exact .inr rfl) (hca : X.calm = true := by rfl) (hgz : L2.Gl X "enumerate" := by rfl)
    (s1 : starEach [e] X.env = [(false, eval e X.env)] := by rfl) (hf : ∀ x, foldedSetIterable (.Call (.Name "enumerate" kp) [e] [] p') X.env x = pure x := by intro _; rfl) :
    cSs X (.For (.Tuple [.Name x px, .Name y2 py] kt pt) (.Call (.Name "enumerate" kp) [e] [] p') body [] pos :: rest) D σ H :=
  g_forE (pi_enum hgz hz cA_pa s1) (pg_tup hca (pgs_cons (pg_name hN hi l1 f1) (pgs_cons (pg_name hN hj l2 f2) pgs_nil))) hp hca hf ((s_cons ha s_nil s1).go H (Ex.refl H) _ fun vs H1 x1 r => by
    obtain ⟨v, rfl, r1⟩ := dp1 r
    obtain ⟨a, xs, rfl, h1, h2⟩ := dp_lst r1
    have e := dpa_ints ns h2
    subst e
    refine ⟨a, _, rfl, h1, for_it (walk_enum (xs := ns.map V.int)) (fun _ σ' H' => Ex H1 H' ∧ P σ') ⟨Ex.refl H1, h0⟩ (fun i σ' H' _ q => ex_l q.1 h1) (fun t w0 σ' H' H'' _ q yy => ?_) fun σ' H' q => hd σ' H' (x1.trans q.1) q.2⟩
    obtain ⟨T, x0, u, e0, hT, e2, e3, hu⟩ := yy
    rw [e0, e2, ← Option.some.inj e3]
    have hu : (ns.map V.int)[t]? = some u := hu
    rw [List.getElem?_map] at hu
    obtain ⟨n, hn, rfl⟩ := Option.map_eq_some_iff.mp hu
    have nT := Ex.new (o := .tup [.int (t : Int), .int n]) hT
    refine g_tgt2 (d1 := .int (t : Int)) (d2 := .int n) (.tup (SqT.of upd_same) (dpa_of_ints [(t : Int), n])) fun w1 w2 r1 r2 => ?_
    rw [dp_int r1, dp_int r2]
    have z := hs t n σ' _ hn ((x1.trans q.1).trans nT) q.2
    refine fun pins st I => wpAny_mono (z pins st I) (fun f s' z => ?_) fun _ _ z => z
    cases f with
    | next => obtain ⟨σ3, H3, I3, z1, z2⟩ := z; exact ⟨σ3, H3, I3, (q.1.trans nT).trans z1, z2⟩
    | cont => obtain ⟨σ3, H3, I3, z1, z2⟩ := z; exact ⟨σ3, H3, I3, (q.1.trans nT).trans z1, z2⟩
    | brk => exact z
    | ret _ => exact z)
end
end Lw

namespace Lw
open PySem PySem.Spec PyProof.Rows L2 Evl
def mergeKV (kvs more : List (List Key × V)) : List (List Key × V) := more.foldl (fun acc t => putK acc t.1 t.2) kvs
theorem length_mergeKV : ∀ (more kvs : List (List Key × V)), (mergeKV kvs more).length ≤ kvs.length + more.length
  | [], kvs => by show kvs.length ≤ kvs.length + 0; omega
  | p :: r, kvs => by
    have rest1 := length_mergeKV r (putK kvs p.1 p.2)
    have less := length_putK kvs p.1 p.2
    show (mergeKV (putK kvs p.1 p.2) r).length ≤ _
    rw [List.length_cons]
    omega
theorem KT_mergeK {H : Hp} : ∀ {more : List (List Key × V)} {ys xs : List (List Key × Addr × Value)} {kvs : List (List Key × V)}, KT H more ys → KT H kvs xs → KT H (mergeKV kvs more) (storedAllH xs ys)
  | [], _, _, _, .nil, k => k
  | p :: more, _ :: _, xs, kvs, .cons (b := q) ⟨h1, h2, h3⟩ r, k => by
    have z : KT H (putK kvs p.1 p.2) (storedH xs q.1 q.2.1 q.2.2) := by
      rw [← h1]
      exact k.put p.1 h2 h3
    have y := KT_mergeK (more := more) r z
    exact y
section
variable {X : Cx}
theorem mt_updT (hu : X.A.units + 64 < cLine) : MtR X "dict.update" (fun x xs H Q => ∃ (a b : Addr) (kvs more : List (List Key × V)), x = .ref a ∧ xs = [.ref b] ∧ H a = some (.dT kvs) ∧ H b = some (.dT more) ∧ a ≠ b ∧ kvs ≠ [] ∧ kvs.length + more.length ≤ 1000 ∧ Q .non (upd H a (.dT (mergeKV kvs more)))) := by
  intro pins s σ H x xs v us Q I rx rxs h
  obtain ⟨a, b, kvs, more, rfl, rfl, ha, hb, nab, hne, hl, q⟩ := h
  cases rx
  obtain ⟨u, rfl, ru⟩ := rxs.one
  cases ru
  obtain ⟨z1, d1, xs1, r1, dd1⟩ := dt_of I.hok ha
  obtain ⟨z2, d2, xs2, r2, dd2⟩ := dt_of I.hok hb
  have l1 := Paired.length r1
  have l2 := Paired.length r2
  have sl := sizeLine_eq
  refine call_update_dictH (knd := tupleKind (mixKind X.prog X.w)) (by show X.A.units + 1 < cLine; omega) nab d2 dd1 dd2 (.inl fun e => ?_) (by omega) fun h' dd' _ hs => ?_
  · rw [e] at l1
    exact hne (List.length_eq_zero_iff.mp l1)
  · obtain ⟨o, es, epo, hq, k2, k3, k4, _, k5⟩ := dd'
    have hz : (mergeKV kvs more).length ≤ sizeLine := by
      have := length_mergeKV more kvs
      omega
    refine ⟨.non, upd H a (.dT (mergeKV kvs more)), d_write I (by rw [ha]; exact True.intro) hs ⟨o, hq⟩ ⟨hz, d1, _, (KT_mergeK r2 r1).keeps fun c ys ec => ?_, o, es, epo, hq, k2, k3, k4, k5⟩, rfl, q⟩
    rw [upd_ne (ne_of ec ha (fun z => nomatch z))]
    exact ec
end
end Lw

namespace Lw
open PySem PySem.Spec PyProof.Rows L2 Evl
theorem wipe2 (σ : L2.St) (i j : Nat) (x y : Option V) : wipe (((wipe σ [i, j]).set i x).set j y) [i, j] = wipe σ [i, j] := by
  show (((((σ.set j none).set i none).set i x).set j y).set j none).set i none = (σ.set j none).set i none
  apply List.ext_getElem?
  intro n
  simp only [List.getElem?_set, List.length_set]
  by_cases h : i = n <;> by_cases h2 : j = n <;> simp [h, h2]
section
variable {X : Cx} {iter elt : Expr} {σ : L2.St} {H : Hp} {pos px py pt : Pos} {x y : Str} {scope : Scope} {ds : List (PyData × PyData)} {fs : List PyData} {kt : Nat}
/-- [elt for x, y in iter], iter a list of pairs -/
theorem x_lcL2 (i j : Nat) (hN : X.N.Nodup) (hi : Gd X iter σ H (.list (ds.map fun p => .tuple [p.1, p.2]))) (ok : BlkOk X.N X.env.scope scope [(x, i), (y, j)]) (hl : fs.length = ds.length) (hz : fs.length ≤ 100000) (hn : nls fs = true)
    (he : ∀ (n : Nat) (p : PyData × PyData) (f : PyData) (v w : V) (H1 : Hp), ds[n]? = some p → fs[n]? = some f → Ex H H1 → Dq X.K H1 v p.1 → Dq X.K H1 w p.2 → ∀ s H0 C cl fp, Gd (X.blk s H0 scope (compEnvC scope cl C X.env) fp) elt (((wipe σ [i, j]).set i (some v)).set j (some w)) H1 f)
    (hg : ∀ (s : Shared) (H0 : Hp) (C : Addr) (cl : List (Str × Addr)) (fp : List Addr), PG (X.blk s H0 scope (compEnvC scope cl C X.env) fp) (.Tuple [.Name x px, .Name y py] kt pt) (gTup X.K 2 (gCons (gName i) (gCons (gName j) gNil))))
    (hc : X.calm = true := by rfl) (hs : ∀ x, foldedSetIterable iter X.env x = pure x := by intro _; rfl) : Gd X (.ListComp elt [⟨.Tuple [.Name x px, .Name y py] kt pt, iter, [], 0⟩] scope pos) σ H (.list fs) :=
  gv_of (pe_lc (own := [(x, i), (y, j)]) (tt := tYes) hc hN (pi_list cE_pe) ok hg (fun _ _ _ _ _ => pts_nil) (fun s H0 C cl fp => cB_pe s H0 C cl fp) hs) fun H1 x1 Q q => (hi).go H1 x1 _ fun v H2 y r => by
    obtain ⟨a, xs, rfl, h1, h2⟩ := dp_lst r
    refine ⟨a, rfl, ⟨xs, h1⟩, fun D hD => lc_list (xs := xs) (Lcw X.K H2 D fs) ⟨hD, Ex.new hD, [], upd_same, .nil⟩ (fun i H' _ p => ex_l p.2.1 h1) (fun n u H' hu p => ?_) fun H' p => ?_⟩
    · obtain ⟨d, hd, rd⟩ := dpa_get' h2 hu
      rw [List.getElem?_map] at hd
      obtain ⟨pp, hpp, rfl⟩ := Option.map_eq_some_iff.mp hd
      have li : n < fs.length := by rw [hl]; exact (List.getElem?_eq_some_iff.mp hpp).1
      refine g_tgt2 (dp_mono p.2.1 rd) fun w1 w2 r1 r2 => ⟨wipe2 σ i j _ _, ?_⟩
      refine lcw_turn (te := cB X scope elt) p (List.getElem?_eq_getElem li) hz hn fun Q' q' s H0 C cl fp => ?_
      exact (he n pp _ w1 w2 H' hpp (List.getElem?_eq_getElem li) (x1.trans (y.trans p.2.1)) r1 r2 s H0 C cl fp).go H' (Ex.refl H') Q' q'
    · obtain ⟨p1, p2, vs, p3, p4⟩ := p
      have e := dpa_len h2
      rw [List.length_map] at e
      rw [e, ← hl, List.take_length] at p4
      exact q _ H' (y.trans p2) (.lst (SqL.of p3) p4)
end
end Lw

namespace Lw
open PySem PySem.Spec PyProof.Rows L2 Evl
section
variable {X : Cx} {iter elt : Expr} {es : List Expr} {σ : L2.St} {H : Hp} {pos px pt : Pos} {x : Str} {scope : Scope} {fs : List PyData}
/-- a new list of anything -/
theorem v_lst {R : List V → Hp → Prop} (h : Gl X es σ H R) (hl : ∀ vs H', R vs H' → vs.length ≤ 100000) : Gv X (.List es pos) σ H fun v H' => ∃ p vs H2, v = .ref p ∧ H' p = some (.lst vs) ∧ R vs H2 ∧ Ex H2 H' :=
  gv_of (pe_lst cA_pa) fun H1 x Q q => h.go H1 x _ fun vs H2 y r => ⟨sz_of (hl vs H2 r), fun p hp => q _ _ (y.trans (Ex.new hp)) ⟨p, vs, H2, rfl, upd_same, r, Ex.new hp⟩⟩
/-- [elt for x in iter], iter a new list of anything; W tells of the i-th -/
theorem x_lcX {R : V → Hp → Prop} (W : Nat → V → Hp → Prop) (jj : Nat) (hN : X.N.Nodup) (hi : Gv X iter σ H R)
    (hr : ∀ v H1, R v H1 → ∃ a xs, v = .ref a ∧ H1 a = some (.lst xs) ∧ xs.length = fs.length ∧ ∀ i u, xs[i]? = some u → ∀ H2, Ex H1 H2 → W i u H2)
    (ok : BlkOk X.N X.env.scope scope [(x, jj)]) (hz : fs.length ≤ 100000) (hn : nls fs = true)
    (he : ∀ (i : Nat) (f : PyData) (u : V) (H1 : Hp), fs[i]? = some f → Ex H H1 → W i u H1 → ∀ s H0 C cl fp, Gd (X.blk s H0 scope (compEnvC scope cl C X.env) fp) elt ((wipe σ [jj]).set jj (some u)) H1 f)
    (hj : X.N[jj]? = some x := by rfl)
    (hg : ∀ (s : Shared) (H0 : Hp) (C : Addr) (cl : List (Str × Addr)) (fp : List Addr), PG (X.blk s H0 scope (compEnvC scope cl C X.env) fp) (.Name x px) (gName jj))
    (hc : X.calm = true := by rfl) (hs : ∀ x, foldedSetIterable iter X.env x = pure x := by intro _; rfl) : Gd X (.ListComp elt [⟨.Name x px, iter, [], 0⟩] scope pos) σ H (.list fs) :=
  gv_of (pe_lc (own := [(x, jj)]) (tt := tYes) hc hN (pi_list cE_pe) ok hg (fun _ _ _ _ _ => pts_nil) (fun s H0 C cl fp => cB_pe s H0 C cl fp) hs) fun H1 x1 Q q => (hi).go H1 x1 _ fun v H2 y r => by
    obtain ⟨a, xs, rfl, h1, hl, hw⟩ := hr v H2 r
    refine ⟨a, rfl, ⟨xs, SqL.of h1⟩, fun D hD => lc_list (xs := xs) (Lcw X.K H2 D fs) ⟨hD, Ex.new hD, [], upd_same, .nil⟩ (fun i H' _ p => SqL.of (p.2.1 _ _ h1)) (fun i u H' hu p => ?_) fun H' p => ?_⟩
    · have li : i < fs.length := by rw [← hl]; exact (List.getElem?_eq_some_iff.mp hu).1
      refine ⟨wipe1 σ jj _, ?_⟩
      refine lcw_turn (te := cB X scope elt) p (List.getElem?_eq_getElem li) hz hn fun Q' q' s H0 C cl fp => ?_
      exact (he i _ u H' (List.getElem?_eq_getElem li) (x1.trans (y.trans p.2.1)) (hw i u hu H' p.2.1) s H0 C cl fp).go H' (Ex.refl H') Q' q'
    · obtain ⟨p1, p2, vs, p3, p4⟩ := p
      rw [hl, List.take_length] at p4
      exact q _ H' (y.trans p2) (.lst (SqL.of p3) p4)
end
/-! ### a dict of pairs as keys and numbers -/
abbrev PN := List ((Int × Int) × Int)
def kvN (es : PN) : List (List Key × V) := es.map fun p => (kk p.1.1 p.1.2, .int p.2)
def GP (σ : L2.St) (trs : List (TE × TE)) (H : Hp) (es : PN) : Prop := ∀ H1, Ex H H1 → ∀ Q : List (V × V) → Hp → Prop, (∀ H2 (kvs : List KAV), Ex H1 H2 → (kvs.map fun t => (t.1, t.2.2)) = kvN es → (∀ t ∈ kvs, H2 t.2.1 = some (.tup (t.1.map kV))) → Q (kvs.map fun t => (V.ref t.2.1, t.2.2)) H2) → tPairs trs σ H1 Q
section
variable {X : Cx} {o i e : Expr} {rest body : List Stmt} {σ : L2.St} {H : Hp} {pos pos' : Pos} {D : Ends}
theorem gp_nil : GP σ [] H [] := fun H1 _ Q q => q H1 [] (Ex.refl H1) rfl fun _ h => nomatch h
theorem gp_cons {ke ve : Expr} {a b n : Int} {trs : List (TE × TE)} {es : PN} (hk : Gv X ke σ H fun v H' => Pk H' v a b) (hv : Gd X ve σ H (.int n)) (hr : GP σ trs H es) : GP σ ((cE X ke, cE X ve) :: trs) H (((a, b), n) :: es) := fun H1 x Q q =>
  hk.go H1 x _ fun v H2 y ⟨c, ec, hc⟩ => hv.go H2 (x.trans y) _ fun u H3 z r => hr H3 ((x.trans y).trans z) _ fun H4 kvs t e1 e2 => by
    rw [ec, dp_int r]
    refine q H4 ((kk a b, c, .int n) :: kvs) ((y.trans z).trans t) ?_ fun w hw => ?_
    · show (kk a b, V.int n) :: _ = _
      rw [e1]
      rfl
    · rcases List.mem_cons.mp hw with rfl | hw
      · rw [kk_v]
        exact t _ _ (z _ _ hc)
      · exact e2 w hw
theorem mergeT_kv : ∀ (more : List KAV) (kvs : List (List Key × V)), mergeT kvs more = mergeKV kvs (more.map fun t => (t.1, t.2.2))
  | [], _ => rfl
  | t :: more, kvs => by
    show mergeT (putK kvs t.1 t.2.2) more = mergeKV (putK kvs t.1 t.2.2) _
    exact mergeT_kv more _
/-- {(a, b): n, ..} -/
theorem x_dispTN {keys : List (Option Expr)} {values : List Expr} {trs : List (TE × TE)} {es : PN} (hu : X.A.units + 64 < cLine) (hp : PPs X pos keys values trs) (h : GP σ trs H es) (hm : mergeKV [] (kvN es) = kvN es) (hl : es.length ≤ 15)
    (hall : keys.all (·.isSome) = true := by rfl) (hkl : keys.length = values.length := by rfl) (h0 : keys ≠ [] := by simp) (h15 : keys.length ≤ 15 := by decide) :
    Gv X (.Dict keys values pos) σ H fun v H' => ∃ d, v = .ref d ∧ H d = none ∧ H' d = some (.dT (kvN es)) :=
  gv_of (pe_dispT hu hp hall hkl h0 h15) fun H1 z Q q p hp => h _ (z.trans (Ex.new hp)) _ fun H2 kvs t e1 e2 => by
    have hlen : kvs.length = es.length := by
      have := congrArg List.length e1
      unfold kvN at this
      rw [List.length_map, List.length_map] at this
      exact this
    refine ⟨t _ _ upd_same, kvs, rfl, e2, by omega, ?_⟩
    rw [mergeT_kv, e1, hm]
    exact q _ _ (Ex.mut ((Ex.new hp).trans t) hp) ⟨p, rfl, fresh_back z hp, upd_same⟩
/-- d.update({..}) -/
theorem g_updT {ve : Expr} {d : Addr} {kvs : List (List Key × V)} {more : List (List Key × V)} {apos p' : Pos} (hu : X.A.units + 64 < cLine) (ho : Gv X o σ H fun v _ => v = .ref d) (ha : Gv X ve σ H fun v H' => ∃ b, v = .ref b ∧ H b = none ∧ H' b = some (.dT more)) (hd : H d = some (.dT kvs)) (hne : kvs ≠ []) (hl : kvs.length + more.length ≤ 1000)
    (k : ∀ H1, Ex H H1 → cSs X rest D σ (upd H1 d (.dT (mergeKV kvs more))))
    (hbase : attributeBase o "update" X.env (eval o X.env) = eval o X.env := by rfl)
    (hfew : ((backTo pos (starEach [ve] X.env)).all (fun x => !x.1) && (backToKw pos (keywordEach [] X.env)).all (fun x => x.1.isSome) && decide (([ve] : List Expr).length + ([] : List Keyword).length + (if ([] : List Keyword).isEmpty then 0 else 1) < 30)) = true := by rfl)
    (hline : (apos.endLine == pos.line) = true := by rfl) (hs : starEach [ve] X.env = (false, eval ve X.env) :: starEach [] X.env := by rfl) (hplain : (backTo pos (starEach [] X.env)).any (·.1) = false := by rfl)
    (hsw : swapsWith (.Call (.Attribute o "update" apos) [ve] [] pos) none p'.line X.env = pure false := by rfl) : cSs X (.Expr (.Call (.Attribute o "update" apos) [ve] [] pos) p' :: rest) D σ H :=
  g_st (ps_expr (pe_bm PySem.F.plainAttrs_dict PySem.F.slot_dict_update PySem.F.type_dict_update (mt_updT hu) cE_pe cA_pa hbase hfew hline hs hplain) hsw) (ho.go H (Ex.refl H) _ fun v H1 x r => ⟨by
    rw [r]
    exact .inr (.inr (.inl ⟨rfl, .inr ⟨_, x _ _ hd⟩⟩)), cA_of (pa_cons cE_pe pa_nil hs) (ha.go H1 x _ fun u H2 y ⟨b, e1, h1, h2⟩ => ⟨d, b, kvs, more, r, by rw [e1], y _ _ (x _ _ hd), h2, (fun (z : d = b) => by rw [z, h1] at hd; cases hd), hne, hl, k H2 (x.trans y)⟩)⟩)
/-- for x in d, a dict with tuple keys: it is locked while it is walked -/
theorem g_forKT {x : Str} {px : Pos} {d : Addr} {kvs : List (List Key × V)} (j : Nat) (hN : X.N.Nodup) (hj : X.N[j]? = some x) (hi : ∀ H', Gv X i σ H' fun v _ => v = .ref d) (hd : H d = some (.dT kvs)) (P : Nat → L2.St → Prop) (h0 : P 0 σ) (hp : PassesOwn (model X.prog X.w) X.A X.env X.xe)
    (hs : ∀ (n : Nat) (k : List Key) (v : V) (q : Addr) (o : Obj) (σ' : L2.St) (H' : Hp), kvs[n]? = some (k, v) → H' d = some (.frz o (.dT kvs)) → (∀ b u, b ≠ d → H b = some u → H' b = some u) → H' q = some (.tup (k.map kV)) → P n σ' →
      cSs X body { D with nx := fun σ3 H3 => Ex H' H3 ∧ P (n + 1) σ3, ct := fun σ3 H3 => Ex H' H3 ∧ P (n + 1) σ3, rt := fun _ _ => False, bk := fun _ _ => False } (σ'.set j (some (.ref q))) H')
    (hk : ∀ σ' H', Ex H H' → P kvs.length σ' → cSs X rest D σ' H') (l1 : Ld X x := by first | exact Or.inl rfl | exact Or.inr rfl) (f1 : Lf X x := by first | exact .inl rfl | exact .inr rfl) (hc : X.calm = true := by rfl) (hf : ∀ x, foldedSetIterable i X.env x = pure x := by intro _; rfl) :
    cSs X (.For (.Name x px) i body [] pos :: rest) D σ H := by
  refine g_st (ps_lock (ps_for hp hc (pi_keys cE_pe) (pg_name hN hj l1 f1) cSs_ps hf)) ⟨d, _, hd, True.intro, fun od => ?_⟩
  have x0 : ∀ b u, b ≠ d → H b = some u → (upd H d (.frz od (.dT kvs))) b = some u := fun b u n h => by rw [upd_ne n]; exact h
  have hd0 : (upd H d (.frz od (.dT kvs))) d = some (.frz od (.dT kvs)) := upd_same
  generalize upd H d (.frz od (.dT kvs)) = H0 at *
  have back : ∀ {H3 : Hp}, Ex H0 H3 → Ex H (upd H3 d (.dT kvs)) := fun {H3} y b u h => by
    by_cases n : b = d
    · subst n
      rw [upd_same, ← h, hd]
    · rw [upd_ne n]
      exact y _ _ (x0 b u n h)
  show cE X i σ H0 _
  refine (hi H0).go H0 (Ex.refl H0) _ fun v H1 y r => ⟨d, od, r, .inr ⟨kvs, y _ _ hd0, ?_⟩⟩
  refine for_it (walk_keysT) (fun n σ' H' => Ex H0 H' ∧ P n σ') ⟨y, h0⟩ (fun n σ' H' _ q => q.1 _ _ hd0) (fun n w σ' H2 H3 hn q yy => ?_) fun σ' H' q => ?_
  · obtain ⟨e3, k, v2, q2, h1, h2, h3⟩ := yy
    subst e3 h2
    have z := hs n k v2 q2 od σ' H3 h1 (q.1 _ _ hd0) (fun b u nb h => q.1 _ _ (x0 b u nb h)) h3 q.2
    show cSs X body _ _ _
    refine fun pins st I => wpAny_mono (z pins st I) (fun f s' z => ?_) fun _ _ z => z
    cases f with
    | next => obtain ⟨σ3, H4, I3, z1, z2⟩ := z; exact ⟨σ3, H4, I3, q.1.trans z1, z2⟩
    | cont => obtain ⟨σ3, H4, I3, z1, z2⟩ := z; exact ⟨σ3, H4, I3, q.1.trans z1, z2⟩
    | brk => obtain ⟨_, _, _, z⟩ := z; exact z.elim
    | ret _ => obtain ⟨_, _, _, _, _, z⟩ := z; exact z.elim
  · exact ⟨q.1 _ _ hd0, hk _ _ (back q.1) q.2⟩
end
end Lw

namespace Lw
open PySem PySem.Spec PyProof.Rows L2 Evl
section
variable {X : Cx} {iter elt : Expr} {scope : Scope} {x y : Str} {px py pos spos : Pos} {σ : L2.St} {H : Hp} {fs : List PyData} {rest : List Stmt} {D : Ends}
/-- y = [elt for x in iter], iter a new list of anything; W tells of the i-th -/
theorem g_setLcX {R : V → Hp → Prop} (W : Nat → V → Hp → Prop) (i jj : Nat) (hN : X.N.Nodup) (hy : X.N[i]? = some y) (hi : Gv X iter σ H R)
    (hr : ∀ v H1, R v H1 → ∃ a xs, v = .ref a ∧ H1 a = some (.lst xs) ∧ xs.length = fs.length ∧ ∀ i u, xs[i]? = some u → ∀ H2, Ex H1 H2 → W i u H2)
    (ok : BlkOk X.N X.env.scope scope [(x, jj)]) (hz : fs.length ≤ 100000) (hn : nls fs = true)
    (he : ∀ (i : Nat) (f : PyData) (u : V) (H1 : Hp), fs[i]? = some f → Ex H H1 → W i u H1 → ∀ s H0 C cl fp, Gd (X.blk s H0 scope (compEnvC scope cl C X.env) fp) elt ((wipe σ [jj]).set jj (some u)) H1 f)
    (k : ∀ v H1, Ex H H1 → Fq X.K H H1 v fs → cSs X rest D (σ.set i (some v)) H1)
    (hg : ∀ (s : Shared) (H0 : Hp) (C : Addr) (cl : List (Str × Addr)) (fp : List Addr), PG (X.blk s H0 scope (compEnvC scope cl C X.env) fp) (.Name x px) (gName jj))
    (hsw : swapsWith (.ListComp elt [⟨.Name x px, iter, [], 0⟩] scope pos) (some (.Name y py)) spos.line X.env = pure true) (hyl : X.env.scope.names.lookup y = some .local := by rfl) (hc : X.calm = true := by rfl) (hs : ∀ x, foldedSetIterable iter X.env x = pure x := by intro _; rfl) :
    cSs X (.Assign [.Name y py] (.ListComp elt [⟨.Name x px, iter, [], 0⟩] scope pos) spos :: rest) D σ H :=
  g_st (ps_setLc (own := [(x, jj)]) (tt := tYes) hc hN hy hyl hsw (pi_list cE_pe) ok hg (fun _ _ _ _ _ => pts_nil) (fun s H0 C cl fp => cB_pe s H0 C cl fp) hs) (hi.go H (Ex.refl H) _ fun v H2 x1 r => by
    obtain ⟨a, xs, rfl, h1, hl, hw⟩ := hr v H2 r
    refine ⟨a, rfl, ⟨xs, SqL.of h1⟩, fun D hD => lc_list (xs := xs) (Lcw X.K H2 D fs) ⟨hD, Ex.new hD, [], upd_same, .nil⟩ (fun i H' _ p => SqL.of (p.2.1 _ _ h1)) (fun i u H' hu p => ?_) fun H' p => ?_⟩
    · have li : i < fs.length := by rw [← hl]; exact (List.getElem?_eq_some_iff.mp hu).1
      refine ⟨wipe1 σ jj _, ?_⟩
      refine lcw_turn (te := cB X scope elt) p (List.getElem?_eq_getElem li) hz hn fun Q' q' s H0 C cl fp => ?_
      exact (he i _ u H' (List.getElem?_eq_getElem li) (x1.trans p.2.1) (hw i u hu H' p.2.1) s H0 C cl fp).go H' (Ex.refl H') Q' q'
    · obtain ⟨p1, p2, vs, p3, p4⟩ := p
      rw [hl, List.take_length] at p4
      exact k _ H' (x1.trans p2) ⟨D, vs, rfl, fresh_back x1 p1, p3, p4⟩)
end
/-! ### an answer, of either kind -/
inductive Ob where
  | way (cs : List Int)
  | nev (q : Int)
def ObAt (CW CN : Addr) (H : Hp) (v : V) : Ob → Prop
  | .way cs => ∃ p l, v = .ref p ∧ WayAt CW H p l ∧ H l = some (.lst (cs.map V.int))
  | .nev q => ∃ p, v = .ref p ∧ NevAt CN H p q
theorem ObAt.ex {CW CN : Addr} {H H' : Hp} {v : V} {o : Ob} (x : Ex H H') (h : ObAt CW CN H v o) : ObAt CW CN H' v o := by
  cases o with
  | way cs => obtain ⟨p, l, e, ⟨dx, h1⟩, h2⟩ := h; exact ⟨p, l, e, ⟨dx, x _ _ h1⟩, x _ _ h2⟩
  | nev q => obtain ⟨p, e, dx, h1⟩ := h; exact ⟨p, e, dx, x _ _ h1⟩
def Ob.ok : Ob → Prop
  | .way cs => cs.length ≤ 1000 ∧ ∀ c ∈ cs, Bd 60000 c
  | .nev _ => True
def Ob.says (a b x y : Int) : Ob → Bool
  | .way cs => wayOk a b x y cs
  | .nev q => barsP a b x y q
def Ob.pick (c1 c2 : Bool) : Ob → Bool
  | .way _ => c1
  | .nev _ => c2
def toldO (a b x y : Int) : Ob := match barBy a b x y with
  | none => .way (tellCt a b x y)
  | some q => .nev q
theorem toldO_ok {a b x y : Int} (h : 0 ≤ a ∧ 0 ≤ b ∧ (0 < a ∨ 0 < b) ∧ Bd 2000 a ∧ Bd 2000 b ∧ Bd 2000 x ∧ Bd 2000 y) : (toldO a b x y).ok := by
  unfold toldO
  split
  · have ct := tell_ok h.1 h.2.1 h.2.2.1 h.2.2.2.1 h.2.2.2.2.1 h.2.2.2.2.2.1 h.2.2.2.2.2.2
    exact ⟨by rw [ct.1]; decide, fun c hc => (ct.2 c hc).2.mono (by decide)⟩
  · exact True.intro
section
variable {X : Cx} {o e1 e2 : Expr} {σ : L2.St} {H : Hp} {pos apos kp p q : Pos} {CW CN : Addr} {ob : Ob}
theorem x_toldO {k n : Nat} {ps : List Str} {aa b x y : Int} (Df_ : Df X.prog X.w X.K X.mg X.base CX0 "told" k ps (spTold X.K CW CN)) (hr : Room n X.A) (hk : k ≤ n) (h1 : Gd X e1 σ H (pr aa b)) (h2 : Gd X e2 σ H (pr x y))
    (hb : 0 ≤ aa ∧ 0 ≤ b ∧ (0 < aa ∨ 0 < b) ∧ Bd 2000 aa ∧ Bd 2000 b ∧ Bd 2000 x ∧ Bd 2000 y) (hg : L2.Gl X "told" := by rfl)
    (hs : starEach [e1, e2] X.env = (false, eval e1 X.env) :: starEach [e2] X.env := by rfl) (hs2 : starEach [e2] X.env = (false, eval e2 X.env) :: starEach [] X.env := by rfl) (hpl : (backTo pos (starEach [e2] X.env)).any (·.1) = false := by rfl) :
    Gv X (.Call (.Name "told" kp) [e1, e2] [] pos) σ H fun v H' => ObAt CW CN H' v (toldO aa b x y) :=
  (x_told Df_ hr hk h1 h2 hb hg hs hs2 hpl).imp fun v H1 _ r => by
    unfold toldO
    rcases r with ⟨q, p, z1, z2, z3, z4⟩ | ⟨p, l, z1, z2, z3, z4, z5, z6⟩
    · rw [z1]; exact ⟨p, z2, z4⟩
    · rw [z1]; exact ⟨p, l, z2, z5, z6⟩
/-- o.shows(l, p) -/
theorem x_obSays {l pl : Expr} {a b x y : Int} {k k2 n : Nat} {ps ps2 : List Str} {pl2 : Sem Bool} (S1 : Ms X.prog X.w X.K X.mg X.base CW "shows" k ps (spWs X.K CW)) (S2 : Ms X.prog X.w X.K X.mg X.base CN "shows" k2 ps2 (spNs X.K CN)) (hr : Room n X.A) (hk : k ≤ n ∧ k2 ≤ n)
    (ho : Gv X o σ H fun v H' => ObAt CW CN H' v ob) (hob : ob.ok) (hl : Gd X l σ H (pr a b)) (hp : Gd X pl σ H (pr x y)) (hh : isLp (pr a b) = true ∧ Bd 60000 a ∧ Bd 60000 b)
    (hst : starEach [l, pl] X.env = (false, eval l X.env) :: starEach [pl] X.env := by rfl) (hst2 : starEach [pl] X.env = (false, eval pl X.env) :: starEach [] X.env := by rfl) (hpl : (backTo pos (starEach [pl] X.env)).any (·.1) = false := by rfl)
    (ht : eval (.Call (.Attribute o "shows" apos) [l, pl] [] pos) X.env = (do let u ← eval o X.env; standAt apos.atName; let (g, one) ← holding [u] (getMethod u "shows" pl2); callWith pos g one (backTo pos (starEach [l, pl] X.env)) (backToKw pos (keywordEach [] X.env))) := by rfl) :
    Gd X (.Call (.Attribute o "shows" apos) [l, pl] [] pos) σ H (.bool (ob.says a b x y)) := by
  cases ob with
  | way cs =>
    exact x_methR S1 hr hk.1 ho (fun v H1 ⟨p, l, e1, ⟨dx, e2⟩, _⟩ => ⟨p, dx, _, e1, e2, lkno (by decide)⟩) (s_cons hl (s_cons hp s_nil hst2) hst)
      (fun v H1 vs H2 ⟨p, l, e1, ⟨dx, e2⟩, e3⟩ x1 r Q q => by
        obtain ⟨w1, w2, rfl, r1, r2⟩ := dp2 r
        exact ⟨p, l, w1, w2, a, b, x, y, cs, by rw [e1], ⟨dx, x1 _ _ e2⟩, .lst (SqL.of (x1 _ _ e3)) (dpa_of_ints cs), r1, r2, ⟨hh.1, hh.2.1, hh.2.2, hob.1, hob.2⟩, fun H3 x3 => q _ H3 x3 (.bl _)⟩) hst hpl ht
  | nev c =>
    exact x_methR S2 hr hk.2 ho (fun v H1 ⟨p, e1, dx, e2⟩ => ⟨p, dx, _, e1, e2, lkno (by decide)⟩) (s_cons hl (s_cons hp s_nil hst2) hst)
      (fun v H1 vs H2 ⟨p, e1, dx, e2⟩ x1 r Q q => by
        obtain ⟨w1, w2, rfl, r1, r2⟩ := dp2 r
        exact ⟨p, c, w1, w2, a, b, x, y, by rw [e1], ⟨dx, x1 _ _ e2⟩, r1, r2, fun H3 x3 => q _ H3 x3 (.bl _)⟩) hst hpl ht
/-- isinstance(o, T) -/
theorem x_obIsi {T : Str} {C' : Addr} {c1 c2 : Bool} (ho : Gv X o σ H fun v H' => ObAt CW CN H' v ob) (I1 : Isi X.K CW) (I2 : Isi X.K CN) (hT : X.mg T = some (.ref C')) (k1 : PySem.W.kitOne X.K (.ref CW) (.ref C') = some c1) (k2 : PySem.W.kitOne X.K (.ref CN) (.ref C') = some c2) (hm : X.mg "isinstance" = none)
    (hgT : L2.Gl X T := by rfl) (h2 : (T == ("__debug__" : Str)) = false := by decide) (hg : L2.Gl X "isinstance" := by rfl)
    (hs : starEach [o, .Name T q] X.env = (false, eval o X.env) :: starEach [.Name T q] X.env := by rfl) (hs2 : starEach [.Name T q] X.env = (false, eval (.Name T q) X.env) :: starEach [] X.env := by rfl) (hpl : (backTo pos (starEach [.Name T q] X.env)).any (·.1) = false := by rfl) :
    Gd X (.Call (.Name "isinstance" p) [o, .Name T q] [] pos) σ H (.bool (ob.pick c1 c2)) := by
  cases ob with
  | way cs => exact x_isiR ho (fun v H1 ⟨p, l, e1, ⟨dx, e2⟩, _⟩ => ⟨p, dx, _, e1, e2⟩) I1 hT k1 hm hgT h2 hg hs hs2 hpl
  | nev c => exact x_isiR ho (fun v H1 ⟨p, e1, dx, e2⟩ => ⟨p, dx, _, e1, e2⟩) I2 hT k2 hm hgT h2 hg hs hs2 hpl
theorem x_obCounts {cs : List Int} (ho : Gv X o σ H fun v H' => ObAt CW CN H' v (.way cs)) (c : Cls X.K CW) (n : NoAttr X.K CW "counts") (hb : attributeBase o "counts" X.env (eval o X.env) = eval o X.env := by rfl) : Gd X (.Attribute o "counts" pos) σ H (lsI cs) :=
  x_fldR ho (fun v H1 ⟨p, l, e1, ⟨dx, e2⟩, e3⟩ => ⟨p, dx, _, _, e1, e2, by simp [List.lookup], .lst (SqL.of e3) (dpa_of_ints cs)⟩) c n hb
theorem x_obBy {c1 : Int} (ho : Gv X o σ H fun v H' => ObAt CW CN H' v (.nev c1)) (c : Cls X.K CN) (n : NoAttr X.K CN "by") (hb : attributeBase o "by" X.env (eval o X.env) = eval o X.env := by rfl) : Gd X (.Attribute o "by" pos) σ H (.int c1) :=
  x_fldR ho (fun v H1 ⟨p, e1, dx, e2⟩ => ⟨p, dx, _, _, e1, e2, by simp [List.lookup], .int c1⟩) c n hb
end
end Lw

namespace Lw
open PySem PySem.Spec PyProof.Rows L2 Evl
section
variable {σ : L2.St} {H : Hp}
theorem dqa3 {K : PySem.W.Frag} {vs : List V} {d1 d2 d3 : PyData} (h : DqAll K H vs [d1, d2, d3]) : ∃ v1 v2 v3, vs = [v1, v2, v3] ∧ Dq K H v1 d1 ∧ Dq K H v2 d2 ∧ Dq K H v3 d3 := by
  cases h with
  | @cons v1 _ vs _ h1 h =>
    obtain ⟨v2, v3, rfl, h2, h3⟩ := dp2 h
    exact ⟨_, _, _, rfl, h1, h2, h3⟩
theorem dqa4 {K : PySem.W.Frag} {vs : List V} {d1 d2 d3 d4 : PyData} (h : DqAll K H vs [d1, d2, d3, d4]) : ∃ v1 v2 v3 v4, vs = [v1, v2, v3, v4] ∧ Dq K H v1 d1 ∧ Dq K H v2 d2 ∧ Dq K H v3 d3 ∧ Dq K H v4 d4 := by
  cases h with
  | @cons v1 _ vs _ h1 h =>
    obtain ⟨v2, v3, v4, rfl, h2, h3, h4⟩ := dqa3 h
    exact ⟨_, _, _, _, rfl, h1, h2, h3, h4⟩
theorem g_tgtA3 {i j l : Nat} {v : V} {d1 d2 d3 : PyData} {K : PySem.W.Frag} {Q : L2.St → Hp → Prop} (h : Dq K H v (.tuple [d1, d2, d3])) (k : ∀ v1 v2 v3, Dq K H v1 d1 → Dq K H v2 d2 → Dq K H v3 d3 → Q (((σ.set i (some v1)).set j (some v2)).set l (some v3)) H) :
    gTup K 3 (gCons (gName i) (gCons (gName j) (gCons (gName l) gNil))) v σ H Q :=
  gtup_of h rfl fun vs rs => by
    obtain ⟨v1, v2, v3, rfl, r1, r2, r3⟩ := dqa3 rs
    exact ⟨_, _, rfl, _, _, rfl, _, _, rfl, rfl, k v1 v2 v3 r1 r2 r3⟩
theorem m_tgtA3 {K : PySem.W.Frag} {i j l : Nat} (Q Q' : L2.St → Hp → Prop) (v : V) (σ' : L2.St) (H' : Hp) (k : ∀ s h, Q s h → Q' s h) (h : gTup K 3 (gCons (gName i) (gCons (gName j) (gCons (gName l) gNil))) v σ' H' Q) : gTup K 3 (gCons (gName i) (gCons (gName j) (gCons (gName l) gNil))) v σ' H' Q' := by
  obtain ⟨a, xs, e1, hs, hl, v1, r1, e2, v2, r2, e3, v3, r3, e4, e5, q⟩ := h
  exact ⟨a, xs, e1, hs, hl, v1, r1, e2, v2, r2, e3, v3, r3, e4, e5, k _ _ q⟩
theorem g_tgtA4 {i j l m : Nat} {v : V} {d1 d2 d3 d4 : PyData} {K : PySem.W.Frag} {Q : L2.St → Hp → Prop} (h : Dq K H v (.tuple [d1, d2, d3, d4])) (k : ∀ v1 v2 v3 v4, Dq K H v1 d1 → Dq K H v2 d2 → Dq K H v3 d3 → Dq K H v4 d4 → Q ((((σ.set i (some v1)).set j (some v2)).set l (some v3)).set m (some v4)) H) :
    gTup K 4 (gCons (gName i) (gCons (gName j) (gCons (gName l) (gCons (gName m) gNil)))) v σ H Q :=
  gtup_of h rfl fun vs rs => by
    obtain ⟨v1, v2, v3, v4, rfl, r1, r2, r3, r4⟩ := dqa4 rs
    exact ⟨_, _, rfl, _, _, rfl, _, _, rfl, _, _, rfl, rfl, k v1 v2 v3 v4 r1 r2 r3 r4⟩
theorem m_tgtA4 {K : PySem.W.Frag} {i j l m : Nat} (Q Q' : L2.St → Hp → Prop) (v : V) (σ' : L2.St) (H' : Hp) (k : ∀ s h, Q s h → Q' s h) (h : gTup K 4 (gCons (gName i) (gCons (gName j) (gCons (gName l) (gCons (gName m) gNil)))) v σ' H' Q) : gTup K 4 (gCons (gName i) (gCons (gName j) (gCons (gName l) (gCons (gName m) gNil)))) v σ' H' Q' := by
  obtain ⟨a, xs, e1, hs, hl, v1, r1, e2, v2, r2, e3, v3, r3, e4, v4, r4, e5, e6, q⟩ := h
  exact ⟨a, xs, e1, hs, hl, v1, r1, e2, v2, r2, e3, v3, r3, e4, v4, r4, e5, e6, k _ _ q⟩
end
/-! ### a goal that Lean does not look into -/
structure cSS (X : Cx) (l : List Stmt) (D : Ends) (σ : L2.St) (H : Hp) : Prop where
  h : cSs X l D σ H
section
variable {X : Cx} {c e iter tg : Expr} {rest body : List Stmt} {σ : L2.St} {H : Hp} {pos p' : Pos} {D : Ends} {R : V → Hp → Prop} {g : TG} {ds : List PyData}
theorem g_whenW {t : Bool} (hc : Gt X c σ H t) (h1 : t = true → ∀ H1, Ex H H1 → cSs X body { D with nx := cSs X rest D } σ H1) (h2 : t = false → ∀ H1, Ex H H1 → cSS X rest D σ H1) : cSs X (.If c body [] pos :: rest) D σ H :=
  g_when hc h1 fun z H1 x => (h2 z H1 x).h
theorem g_whenV {t : Bool} (hc : Gt X c σ H t) (h1 : t = true → ∀ H1, Ex H H1 → cSs X body { D with nx := cSs X rest D } σ H1) (h2 : t = false → ∀ H1, Ex H H1 → cSs X rest D σ H1) : cSS X (.If c body [] pos :: rest) D σ H :=
  ⟨g_when hc h1 h2⟩
theorem w_set (i : Nat) {x : Str} (hN : X.N.Nodup) (hi : X.N[i]? = some x) (he : Gv X e σ H R) (k : ∀ v H1, Ex H H1 → R v H1 → cSs X rest D (σ.set i (some v)) H1)
    (hx : Loc X.env.scope x := by first | exact Or.inl rfl | exact Or.inr rfl) (hs : swapsWith e (some (.Name x p')) pos.line X.env = pure false := by rfl)
    (hf : X.fn x = true ∨ X.env.scope.names.lookup x = some .local := by first | exact .inl rfl | exact .inr rfl) : cSS X (.Assign [.Name x p'] e pos :: rest) D σ H :=
  ⟨g_set i hN hi he k hx hs hf⟩
theorem w_setW (i : Nat) {x : Str} (hN : X.N.Nodup) (hi : X.N[i]? = some x) (he : Gv X e σ H R) (k : ∀ v H1, Ex H H1 → R v H1 → cSS X rest D (σ.set i (some v)) H1)
    (hx : Loc X.env.scope x := by first | exact Or.inl rfl | exact Or.inr rfl) (hs : swapsWith e (some (.Name x p')) pos.line X.env = pure false := by rfl)
    (hf : X.fn x = true ∨ X.env.scope.names.lookup x = some .local := by first | exact .inl rfl | exact .inr rfl) : cSS X (.Assign [.Name x p'] e pos :: rest) D σ H :=
  ⟨g_set i hN hi he (fun v H1 x r => (k v H1 x r).h) hx hs hf⟩
theorem g_forLW (hg : PG X tg g) (hi : Gd X iter σ H (.list ds)) (P : Nat → L2.St → Hp → Prop) (h0 : ∀ H1, Ex H H1 → P 0 σ H1) (hp : PassesOwn (model X.prog X.w) X.A X.env X.xe)
    (hs : ∀ (i : Nat) (d : PyData) (v : V) (σ' : L2.St) (H' : Hp), ds[i]? = some d → Ex H H' → Dq X.K H' v d → P i σ' H' → g v σ' H' fun σ2 H2 => cSs X body (Tn D (cSs X rest D) H' (P (i + 1))) σ2 H2)
    (hm : ∀ (Q Q' : L2.St → Hp → Prop) v σ' H', (∀ s h, Q s h → Q' s h) → g v σ' H' Q → g v σ' H' Q')
    (hd : ∀ σ' H', Ex H H' → P ds.length σ' H' → cSS X rest D σ' H') (hc : X.calm = true := by rfl) (hf : ∀ x, foldedSetIterable iter X.env x = pure x := by intro _; rfl) : cSS X (.For tg iter body [] pos :: rest) D σ H :=
  ⟨g_forL hg hi P h0 hp hs hm (fun σ' H' x q => (hd σ' H' x q).h) hc hf⟩
end
theorem bdS {i : Int} (h : i.natAbs < 100) : Bd 60000 i := Bd.mono (n := 7) (Nat.lt_of_lt_of_le h (by decide)) (by decide)
theorem csS {cs : List Int} (h : (cs.all fun c => decide (c.natAbs < 100)) = true) : ∀ c ∈ cs, Bd 60000 c := fun c hc => bdS (of_decide_eq_true (List.all_eq_true.mp h c hc))
/-! ### written cases -/
def greatN : Int := 10 ^ 40
abbrev Case3 := (Int × Int) × (Int × Int) × Bool
abbrev Case4 := Int × (Int × Int) × (Int × Int) × Bool
abbrev dC3 (c : Case3) : PyData := .tuple [pr c.1.1 c.1.2, pr c.2.1.1 c.2.1.2, .bool c.2.2]
abbrev dC4 (c : Case4) : PyData := .tuple [.int c.1, pr c.2.1.1 c.2.1.2, pr c.2.2.1.1 c.2.2.1.2, .bool c.2.2.2]
def cs3a : List Case3 := [((0, 1), (7, -9), true), ((0, 3), (3, 6), true), ((0, 3), (3, 5), false)]
def cs3b : List Case3 := [((1, 1), (1, 0), false), ((1, 1), (4, -2), true), ((3, 5), (1, 0), false)]
def cs3c : List Case3 := [((3, 5), (1, 1), true), ((2, 4), (2, 2), true), ((2, 4), (1, 2), false)]
def cs3d : List Case3 := [((2, 6), (2, 0), false), ((6, 9), (3, 0), true)]
def cs3e (G : Int) : List Case3 := [((G, G + 1), (G, -G), true), ((G, G), (G, 0), false)]
def cs4a : List Case4 := [(2, (1, 1), (1, 0), true), (1, (1, 1), (1, 0), false), (0, (1, 1), (1, 0), false)]
def cs4b : List Case4 := [(-2, (1, 1), (1, 0), false), (3, (0, 3), (3, 5), true), (2, (2, 4), (1, 2), true)]
def cs4c : List Case4 := [(4, (2, 6), (2, 0), true), (2, (3, 5), (1, 1), false), (5, (1, 2), (7, 7), false)]
def smN (i : Int) : Bool := decide (i.natAbs < 2 ^ 140)
theorem smN_bd {i : Int} (h : smN i = true) : Bd 2000 i := Bd.mono (n := 140) (show i.natAbs < 2 ^ 140 from of_decide_eq_true h) (by decide)
def chk3 (c : Case3) : Bool := (decide (0 ≤ c.1.1) && decide (0 ≤ c.1.2)) && ((decide (0 < c.1.1) || decide (0 < c.1.2)) && ((smN c.1.1 && smN c.1.2) && ((smN c.2.1.1 && smN c.2.1.2) &&
  match toldO c.1.1 c.1.2 c.2.1.1 c.2.1.2 with
  | .way cs => c.2.2 && wayOk c.1.1 c.1.2 c.2.1.1 c.2.1.2 cs
  | .nev q => !c.2.2 && barsP c.1.1 c.1.2 c.2.1.1 c.2.1.2 q)))
theorem chk3_all : ((cs3a ++ cs3b ++ cs3c ++ cs3d ++ cs3e greatN).all chk3) = true := by decide +kernel
theorem chk3_of {c : Case3} (h : chk3 c = true) : (0 ≤ c.1.1 ∧ 0 ≤ c.1.2 ∧ (0 < c.1.1 ∨ 0 < c.1.2) ∧ Bd 2000 c.1.1 ∧ Bd 2000 c.1.2 ∧ Bd 2000 c.2.1.1 ∧ Bd 2000 c.2.1.2) ∧ ((∃ cs, toldO c.1.1 c.1.2 c.2.1.1 c.2.1.2 = .way cs ∧ c.2.2 = true ∧ wayOk c.1.1 c.1.2 c.2.1.1 c.2.1.2 cs = true) ∨ ∃ q, toldO c.1.1 c.1.2 c.2.1.1 c.2.1.2 = .nev q ∧ c.2.2 = false ∧ barsP c.1.1 c.1.2 c.2.1.1 c.2.1.2 q = true) := by
  unfold chk3 at h
  simp only [Bool.and_eq_true, Bool.or_eq_true, decide_eq_true_eq] at h
  obtain ⟨⟨h1, h2⟩, h3, ⟨h4, h5⟩, ⟨h6, h7⟩, h8⟩ := h
  refine ⟨⟨h1, h2, h3, smN_bd h4, smN_bd h5, smN_bd h6, smN_bd h7⟩, ?_⟩
  generalize toldO c.1.1 c.1.2 c.2.1.1 c.2.1.2 = ob at *
  cases ob with
  | way cs =>
    have h9 : (c.2.2 && wayOk c.1.1 c.1.2 c.2.1.1 c.2.1.2 cs) = true := h8
    rw [Bool.and_eq_true] at h9
    exact .inl ⟨cs, rfl, h9.1, h9.2⟩
  | nev q =>
    have h9 : (!c.2.2 && barsP c.1.1 c.1.2 c.2.1.1 c.2.1.2 q) = true := h8
    rw [Bool.and_eq_true, Bool.not_eq_true'] at h9
    exact .inr ⟨q, rfl, h9.1, h9.2⟩
theorem chk4_all : ((cs4a ++ cs4b ++ cs4c).all fun c => decide (barsP c.2.1.1 c.2.1.2 c.2.2.1.1 c.2.2.1.2 c.1 = c.2.2.2)) = true := by decide +kernel
end Lw

namespace Lw
open PySem PySem.Spec PyProof.Rows L2 Evl
/-! ### what raises -/
abbrev cxX (P : Program) (w : World) (K : PySem.W.Frag) (mg : Str → Option Value) (base : Heap) (N : List Str) (nm : Str) (sc : Scope) (f : Addr) (cdv : Value) (A : Around) (outer : List Env) (s : Shared) (H : Hp) (E : XK) : Cx := cxOf (L2.CX P w) P w K mg base N nm sc f cdv A outer s H E
/-- it ends with an error of the class at C -/
def spE (K : PySem.W.Frag) (F : List PyData → Prop) (C : Addr) : Sp := fun vs H _ E => ∃ ds, DqAll K H vs ds ∧ F ds ∧ ∀ H2, Ex H H2 → E (.ref C) none H2
/-- an error class of the program without a field or an __init__; CE is the one that is caught -/
structure Bc (K : PySem.W.Frag) (mg : Str → Option Value) (nm : Str) (C : Addr) : Prop where
  gC : mg nm = some (.ref C)
  ex : PySem.W.excIn K C PySem.HandSPX.veTail "ValueError.__new__" = true
  kC : PySem.W.keepIn K (.ref C) = true
  r1 : PySem.W.subIn K (.ref C) (.type "BaseException") = some true
  r2 : PySem.W.typeIn K (.ref C) = some (.type "type")
  xc : ExcC K C
/-- the four classes together -/
structure Ec (K : PySem.W.Frag) (mg : Str → Option Value) (CE CL CP CC : Addr) : Prop where
  gE : mg "LeapError" = some (.ref CE)
  eL : PySem.W.exmOne K (.ref CL) (.ref CE) = some true
  eP : PySem.W.exmOne K (.ref CP) (.ref CE) = some true
  eC : PySem.W.exmOne K (.ref CC) (.ref CE) = some true
  kLL : PySem.W.kitOne K (.ref CL) (.ref CL) = some true
  kLP : PySem.W.kitOne K (.ref CL) (.ref CP) = some false
  kLC : PySem.W.kitOne K (.ref CL) (.ref CC) = some false
  kPL : PySem.W.kitOne K (.ref CP) (.ref CL) = some false
  kPP : PySem.W.kitOne K (.ref CP) (.ref CP) = some true
  kPC : PySem.W.kitOne K (.ref CP) (.ref CC) = some false
  kCL : PySem.W.kitOne K (.ref CC) (.ref CL) = some false
  kCP : PySem.W.kitOne K (.ref CC) (.ref CP) = some false
  kCC : PySem.W.kitOne K (.ref CC) (.ref CC) = some true
  vL : PySem.W.kitOne K (.ref CL) (.type "ValueError") = some true
  vP : PySem.W.kitOne K (.ref CP) (.type "ValueError") = some true
  vC : PySem.W.kitOne K (.ref CC) (.type "ValueError") = some true
  zV : mg "ValueError" = none
section
variable {P : Program} {w : World} {K : PySem.W.Frag} {mg : Str → Option Value} {base : Heap}
theorem Df.goX {nm : Str} {st : Stmt} {N ps : List Str} {F : List PyData → Prop} {C : Addr} (k : Nat) (T : Th K mg nm st ps) (S : FnScope N ps (defScope st)) (len : ∀ ds, F ds → ds.length = ps.length)
    (body : ∀ f cdv A outer s H0 E, Room k (cxX P w K mg base N nm (defScope st) f cdv A outer s H0 E).A → Names (cxX P w K mg base N nm (defScope st) f cdv A outer s H0 E) N 0 → (cxX P w K mg base N nm (defScope st) f cdv A outer s H0 E).N.Nodup → Takes (cxX P w K mg base N nm (defScope st) f cdv A outer s H0 E) (fun cls d _ H => E cls d H) →
      ∀ ds vs H (Q : VK), F ds → DqAll K H vs ds → (∀ H2, Ex H H2 → E (.ref C) none H2) →
      cSs (cxX P w K mg base N nm (defScope st) f cdv A outer s H0 E) (defBody st) { nx := fun _ H' => Q .non H', rt := Q } (start N vs) H) : Df P w K mg base (L2.CX P w) nm (k + 1) ps (spE K F C) := by
  obtain ⟨f, fd, hm, Fu, hb⟩ := T.ex
  exact ⟨f, fd, hm, Fu.kp, hb, Fu.okX S (fun vs H Q E ⟨ds, h1, h2, _⟩ => (dpa_len h1).trans (len ds h2)) fun cdv A outer s H vs Q E hr ⟨ds, h1, h2, h3⟩ => ⟨_, cSs_ps, body f cdv A outer s H E hr (names_of N [] rfl) S.nd (takes_of rfl rfl rfl rfl) ds vs H Q h2 h1 h3⟩⟩
end
section
variable {X : Cx} {e a b t : Expr} {es : List Expr} {σ : L2.St} {H : Hp} {ds : List PyData} {pos kp p p2 pos2 pos' np : Pos} {R : V → Hp → Prop} {W : WX} {D : Ends} {rest body suite : List Stmt}
/-- a call that raises -/
theorem x_callX {nm : Str} {k n : Nat} {ps : List Str} {F : List PyData → Prop} {C : Addr} (Df_ : Df X.prog X.w X.K X.mg X.base (L2.CX X.prog X.w) nm k ps (spE X.K F C)) (hr : Room n X.A) (hk : k ≤ n) (tk : Takes X W) (hW : ∀ H2, Ex H H2 → W (.ref C) none σ H2) (ha : Gs X (e :: es) σ H ds) (hF : F ds)
    (hg : L2.Gl X nm := by rfl) (hdb : (nm == ("__debug__" : Str)) = false := by decide)
    (he : starEach (e :: es) X.env = (false, eval e X.env) :: starEach es X.env := by rfl) (hpl : (backTo pos (starEach es X.env)).any (·.1) = false := by rfl) : Gv X (.Call (.Name nm kp) (e :: es) [] pos) σ H R := by
  obtain ⟨f, fd, hm, hkp, hb, Fo⟩ := Df_.ex
  exact gv_of (pe_callS (E := WE W) Fo (hr.mono hk) hg hm hkp hb (fun σ => passAt tk σ) cA_pa hdb he hpl) fun H1 x Q q => ha.go H1 x _ fun vs H2 y r => ⟨ds, r, hF, fun H3 z => hW H3 ((x.trans y).trans z)⟩
/-- raise C('..') -/
theorem g_raise {x m : Str} {j : Nat} {C : Addr} (B : Bc X.K X.mg x C) (tk : Takes X W) (w : W (.ref C) none σ H) (hc : X.calm = true := by rfl) (hg : L2.Gl X x := by rfl) (hdb : (x == ("__debug__" : Str)) = false := by decide) : cSs X (.Raise (some (.Call (.Name x p) [.Constant (.str m) j p2] [] pos)) none pos2 :: rest) D σ H :=
  g_st (ps_raise hc tk (pmk_own PySem.F.excBase_ValueError B.ex B.gC B.kC (raises_own B.r1 B.r2) hg hdb)) w
theorem x_ifR {c : Bool} (h : Gt X t σ H c) (ha : c = true → Gv X a σ H R) (hb : c = false → Gv X b σ H R) : Gv X (.IfExp t a b pos) σ H R := gv_of (pe_ifExp cT_pt cE_pe cE_pe) fun H1 x Q q => (h).go H1 x _ fun H2 y => by
  cases c with
  | true => exact (ha rfl).go H2 (x.trans y) Q fun v H3 z r => q v H3 (y.trans z) r
  | false => exact (hb rfl).go H2 (x.trans y) Q fun v H3 z r => q v H3 (y.trans z) r
theorem g_ifW {orelse : List Stmt} {c : Bool} (hc : Gt X t σ H c) (h1 : c = true → ∀ H1, Ex H H1 → cSs X body { D with nx := cSs X rest D } σ H1) (h2 : c = false → ∀ H1, Ex H H1 → cSS X orelse { D with nx := cSs X rest D } σ H1) : cSs X (.If t body orelse pos :: rest) D σ H :=
  g_if hc h1 fun z H1 x => (h2 z H1 x).h
/-- tuple * n -/
theorem x_repT {n : Int} (ha : Gd X a σ H (.tuple ds)) (hb : Gd X b σ H (.int n)) (h : ds ≠ [] ∧ 2 ≤ n ∧ n ≤ 1000 ∧ ds.length ≤ 1000) : Gd X (.BinOp a .Mult b pos) σ H (.tuple (List.replicate n.toNat ds).flatten) := gv_of (pe_op op_repT cE_pe cE_pe) fun H1 x Q q => ha.go H1 x _ fun v H2 y r => hb.go H2 (x.trans y) _ fun u H3 z ru => by
  obtain ⟨p, xs, rfl, h1, h2⟩ := dp_tup r
  refine ⟨p, n, xs, rfl, dp_int ru, ex_t z h1, fun e => ?_, h.2.1, h.2.2.1, by rw [dpa_len h2]; exact h.2.2.2, fun p2 hp => q _ _ ((y.trans z).trans (Ex.new hp)) (.tup (SqT.of upd_same) (dpa_mono (Ex.new hp) (dpa_rep (dpa_mono z h2))))⟩
  have l := dpa_len h2
  rw [e] at l
  exact h.1 (List.length_eq_zero_iff.mp l.symm)
/-- {} -/
theorem x_dict0 : Gd X (.Dict [] [] pos) σ H (.dict []) := gv_of pe_dnewK fun H1 x Q q p hp => q _ _ (Ex.new hp) (.dct upd_same)
end
theorem atI_nat {ds : List PyData} {i : Int} {d : PyData} (h0 : 0 ≤ i) (h : ds[i.toNat]? = some d) : atI ds i = some d := by
  have e : i = ((i.toNat : Nat) : Int) := by omega
  have q := (List.getElem?_eq_some_iff.mp h).1
  unfold atI
  rw [e, ixN_nat q]
  exact h
theorem dpa_set {K : PySem.W.Frag} {H : Hp} {v : V} {d : PyData} (hv : Dq K H v d) : ∀ {vs : List V} {ds : List PyData} (j : Nat), DqAll K H vs ds → DqAll K H (vs.set j v) (ds.set j d)
  | _, _, _, .nil => .nil
  | _, _, 0, .cons _ t => .cons hv t
  | _, _, j + 1, .cons a t => .cons a (dpa_set hv j t)
/-- isinstance(e, c), e the error that the suite holds -/
theorem x_isE {X : Cx} {a D : Addr} {oe : Obj} {pn : List (Addr × Obj)} {e1 e2 : Expr} {σ : L2.St} {H : Hp} {p pos : Pos} {c : V} {cv : Value} {b : Bool} (C : ExcC X.K D) (hz : Zc (.ref D) none oe) (hf : ∃ vs, oe.data = .fields vs) (he : Gv (X.suite a ((a, oe) :: pn)) e1 σ H fun v _ => v = .ref a) (h2 : Gv (X.suite a ((a, oe) :: pn)) e2 σ H fun v _ => v = c)
    (hcv : ∀ u, RelV c u → u = cv) (hk : PySem.W.kitOne X.K (.ref D) cv = some b) (hm : X.mg "isinstance" = none) (hg : L2.Gl X "isinstance" := by rfl)
    (hs : starEach [e1, e2] X.env = (false, eval e1 X.env) :: starEach [e2] X.env := by rfl) (hs2 : starEach [e2] X.env = (false, eval e2 X.env) :: starEach [] X.env := by rfl) (hpl : (backTo pos (starEach [e2] X.env)).any (·.1) = false := by rfl) :
    Gd (X.suite a ((a, oe) :: pn)) (.Call (.Name "isinstance" p) [e1, e2] [] pos) σ H (.bool b) :=
  gv_of (pe_callB (call_isE C hz hf) hg hm (by decide +kernel) cA_pa (by decide) (by decide) hs hpl) fun H1 x Q k =>
    (l_cons (R := fun vs _ => vs = [.ref a, c]) he (fun _ _ _ _ z => z) (l_cons (R := fun vs _ => vs = [c]) h2 (fun _ _ _ _ z => z) (l_nil (R := fun vs _ => vs = []) fun _ => rfl) (fun v vs _ r1 r2 => by rw [r1, r2]) hs2)
      (fun v vs _ r1 r2 => by rw [r1, r2]) hs).go H1 x _ fun vs H2 y z => ⟨c, cv, b, z, hcv, hk, k _ H2 y (.bl b)⟩
/-- try: body / except x as n: suite -/
theorem g_try {X : Cx} {x n : Str} {c : Value} {i : Nat} {body suite rest : List Stmt} {b₀ : Stmt} {np pos pos' : Pos} {σ : L2.St} {H : Hp} {D : Ends} (hN : X.N.Nodup) (hi : X.N[i]? = some n) (hc : L2.Names X x c)
    (hb : ∀ (W : WX) (pn : List (Addr × Obj)) (xe : Value → Shared → Prop), Takes (X.tr pn xe) W → PassesOwn (model X.prog X.w) X.A X.env xe →
      (∀ cls d σ' H', PySem.W.exmOne X.K cls c = some true → (∀ a oe pn', H' a = none → Zc cls d oe → (∃ vs, oe.data = .fields vs) → cSs (X.suite a ((a, oe) :: pn')) (b₀ :: suite) { nx := fun σ2 H2 => cSs X rest D (σ2.set i none) H2, rt := D.rt, bk := fun σ2 H2 => D.bk (σ2.set i none) H2, ct := fun σ2 H2 => D.ct (σ2.set i none) H2 } (σ'.set i (some (.ref a))) H') → W cls d σ' H') →
      cSs (X.tr pn xe) body { D with nx := cSs X rest D } σ H)
    (hs : X.stack = X.env :: X.outer := by rfl) (hf : X.env.frame = some X.env.locals := by rfl) (hln : X.env.kindOf n = some .local := by rfl) : cSs X (.Try body [.ExceptHandler (some (.Name x np)) (some n) (b₀ :: suite) pos'] [] [] pos :: rest) D σ H :=
  g_st (ps_try_as (tb := fun W D σ H => ∀ pn xe, Takes (X.tr pn xe) W → PassesOwn (model X.prog X.w) X.A X.env xe → cSs (X.tr pn xe) body D σ H)
    (ts := fun a cls d D σ H => ∀ oe pn, Zc cls d oe → (∃ vs, oe.data = .fields vs) → cSs (X.suite a ((a, oe) :: pn)) (b₀ :: suite) D σ H) hs hf hN hi hln hc takes0
    (fun W pn xe tk po => ⟨fun pins s σ H D I h => h pn xe tk po pins s I⟩) (fun a oe cls d pn hz hfl => ⟨fun pins s σ H D I h => h oe pn hz hfl pins s I⟩))
    (fun pn xe tk po => hb _ pn xe tk po fun cls d σ' H' h1 h2 => ⟨true, h1, fun _ a ha oe pn' hz hfl => h2 a oe pn' ha hz hfl, fun z => by cases z⟩)
end Lw

namespace Lw
open PySem PySem.Spec PyProof.Rows L2 Evl
def topS (i : Nat) : Stmt := PySem.Challenge.pw_leapways_k05_refused.main.body.getD i (.Pass ⟨0, 0, 0, 0⟩)
abbrev s_wall : Stmt := topS 0
abbrev s_is_whole : Stmt := topS 7
abbrev s_is_amount : Stmt := topS 8
abbrev s_is_place : Stmt := topS 9
abbrev s_is_leap : Stmt := topS 10
abbrev s_is_counts : Stmt := topS 11
abbrev s_need_leap : Stmt := topS 12
abbrev s_need_place : Stmt := topS 13
abbrev s_need_counts : Stmt := topS 14
abbrev s_need_amount : Stmt := topS 15
abbrev s_eight : Stmt := topS 17
abbrev s_place_of : Stmt := topS 18
abbrev s_behind : Stmt := topS 19
abbrev s_first_of : Stmt := topS 20
abbrev s_Way_init : Stmt := inClass (topS 23) 0
abbrev s_Way_shows : Stmt := inClass (topS 23) 1
abbrev s_Never_init : Stmt := inClass (topS 24) 0
abbrev s_Never_shows : Stmt := inClass (topS 24) 1
abbrev s_fewest : Stmt := topS 30
abbrev s_shortest : Stmt := topS 31
abbrev s_folded : Stmt := topS 32
abbrev s_unfolded : Stmt := topS 33
abbrev s_least : Stmt := topS 34
abbrev s_leaps_to : Stmt := topS 35
abbrev s_straight_leaps : Stmt := topS 36
abbrev s_places : Stmt := topS 37
abbrev s_within : Stmt := topS 38
abbrev s_told : Stmt := topS 40
abbrev s_common_of : Stmt := topS 41
abbrev s_along_and_across : Stmt := topS 42
abbrev s_evened : Stmt := topS 43
abbrev s_counts_to : Stmt := topS 44
abbrev s_law_pairs : Stmt := topS 46
abbrev s_law_with_leap : Stmt := topS 47
abbrev s_law_with_place : Stmt := topS 48
abbrev s_law_bad_counts : Stmt := topS 49
abbrev s_law_told : Stmt := topS 50
abbrev s_law : Stmt := topS 51

local macro_rules | `(tactic| kp_flats) => `(tactic| first | exact .int _ | exact .bl _ | exact .non | exact .str _ | assumption | exact dp_mono (by assumption) (by kp_flats))
local macro_rules | `(tactic| kat_tups) => `(tactic| first | exact Bu.isinstance (by assumption) | exact Bu.int (by assumption) | exact Bu.bool (by assumption) | exact Bu.tuple (by assumption) | exact Bu.list (by assumption) | exact Bu.len (by assumption) | exact Bu.all (by assumption) | exact Bu.any (by assumption) | exact Bu.sum (by assumption) | exact Bu.min (by assumption) | exact Bu.max (by assumption) | exact Bu.abs (by assumption) | exact Bu.zip (by assumption) | exact Bu.range (by assumption))
local macro_rules | `(tactic| got_up) => `(tactic| first | assumption | omega | decide | trivial)
local macro_rules | `(tactic| kas_types) => `(tactic| first | exact ⟨_, rfl, rfl⟩ | exact ⟨_, _, rfl, rfl⟩ | exact ⟨_, _, _, rfl, rfl⟩ | exact ⟨_, _, _, _, rfl, rfl⟩ | exact ⟨_, rfl, by got_up, rfl⟩ | exact ⟨_, _, rfl, by got_up, rfl⟩ | exact ⟨_, _, _, rfl, by got_up, rfl⟩ | exact ⟨_, _, _, _, rfl, by got_up, rfl⟩ | exact ⟨_, rfl, by got_up, by got_up, rfl⟩ | exact ⟨_, _, rfl, by got_up, by got_up, rfl⟩ | exact ⟨_, _, _, rfl, by got_up, by got_up, rfl⟩ | exact ⟨_, _, _, _, rfl, by got_up, by got_up, rfl⟩)
local macro_rules | `(tactic| keq_hits) => `(tactic| first
  | ((with_reducible show Gv _ (.Constant _ _ _) _ _ _); first | exact x_int | exact x_bl | exact x_non | exact x_str)
  | ((with_reducible show Gv _ (.Name _ _) _ _ _); first | exact x_var _ (by with_reducible assumption) (by rfl) (by kp_flats))
  | ((with_reducible show Gv _ (.BinOp _ .Add _ _) _ _ _); first | exact x_add (by keq_hits) (by keq_hits))
  | ((with_reducible show Gv _ (.BinOp _ .Sub _ _) _ _ _); first | exact x_sub (by keq_hits) (by keq_hits))
  | ((with_reducible show Gv _ (.BinOp _ .Mult _ _) _ _ _); first | exact x_mul (by keq_hits) (by keq_hits) (by got_up))
  | ((with_reducible show Gv _ (.BinOp _ .FloorDiv _ _) _ _ _); first | exact x_div (by keq_hits) (by keq_hits) (by got_up))
  | ((with_reducible show Gv _ (.BinOp _ .Mod _ _) _ _ _); first | exact x_mod (by keq_hits) (by keq_hits) (by got_up))
  | ((with_reducible show Gv _ (.BinOp _ .Pow _ _) _ _ _); first | exact x_pow (by keq_hits) (by keq_hits) (by got_up))
  | ((with_reducible show Gv _ (.UnaryOp .USub _ _) _ _ _); first | exact x_neg (by keq_hits))
  | ((with_reducible show Gv _ (.UnaryOp .Not _ _) _ _ _); first | exact x_not (by keq_hits))
  | ((with_reducible show Gv _ (.Compare _ [.Lt] _ _) _ _ _); first | exact x_lt (by keq_hits) (by keq_hits))
  | ((with_reducible show Gv _ (.Compare _ [.LtE] _ _) _ _ _); first | exact x_le (by keq_hits) (by keq_hits))
  | ((with_reducible show Gv _ (.Compare _ [.Gt] _ _) _ _ _); first | exact x_gt (by keq_hits) (by keq_hits))
  | ((with_reducible show Gv _ (.Compare _ [.GtE] _ _) _ _ _); first | exact x_ge (by keq_hits) (by keq_hits))
  | ((with_reducible show Gv _ (.Compare _ [.Eq] _ _) _ _ _); first | exact x_eqI (by keq_hits) (by keq_hits) | exact x_eqB (by keq_hits) (by keq_hits))
  | ((with_reducible show Gv _ (.Compare _ [.NotEq] _ _) _ _ _); first | exact x_neI (by keq_hits) (by keq_hits) | exact x_neB (by keq_hits) (by keq_hits))
  | ((with_reducible show Gv _ (.Compare _ [.Is] _ _) _ _ _); first | exact x_isB (by keq_hits) (by keq_hits))
  | ((with_reducible show Gv _ (.Compare _ [.IsNot] _ _) _ _ _); first | exact x_notB (by keq_hits) (by keq_hits))
  | ((with_reducible show Gv _ (.BoolOp _ [_] _) _ _ _); first | exact x_and1 (by keq_hits))
  | ((with_reducible show Gv _ (.BoolOp .And (_ :: _ :: _) _) _ _ _); first | exact x_and (by keq_hits) (fun _ => (by keq_hits)))
  | ((with_reducible show Gv _ (.BoolOp .Or (_ :: _ :: _) _) _ _ _); first | exact x_or (by keq_hits) (fun _ => (by keq_hits)))
  | ((with_reducible show Gv _ (.Tuple _ _ _) _ _ _); first | exact x_tup (by ke_read) (by simp))
  | ((with_reducible show Gv _ (.List _ _) _ _ _); first | exact x_lst (by ke_read) (by simp))
  | ((with_reducible show Gv _ (.Subscript _ _ _) _ _ _); first | exact x_ixT (by keq_hits) (by keq_hits) (by rfl) | exact x_ixL (by keq_hits) (by keq_hits) (by rfl))
  | ((with_reducible show Gv _ (.Call (.Name "isinstance" _) _ _ _) _ _ _); first | exact x_isiInt (by keq_hits) (by assumption) (by kat_tups) (by kat_tups) | exact x_isiBool (by keq_hits) (by assumption) (by kat_tups) (by kat_tups) | exact x_isiTup (by keq_hits) (by first | assumption | exact isTup_is _) (by kat_tups) (by kat_tups) | exact x_isiLst (by keq_hits) (by first | assumption | exact isLst_is _) (by kat_tups) (by kat_tups))
  | ((with_reducible show Gv _ (.Call (.Name "len" _) _ _ _) _ _ _); first | exact x_lenL (by keq_hits) (by kat_tups) | exact x_lenT (by keq_hits) (by kat_tups))
  | ((with_reducible show Gv _ (.Call (.Name "abs" _) _ _ _) _ _ _); first | exact x_abs (by keq_hits) (by kat_tups))
  | ((with_reducible show Gv _ (.Call (.Name "max" _) _ _ _) _ _ _); first | exact x_max2 (by keq_hits) (by keq_hits) (by kat_tups) | exact x_maxP (by keq_hits) (by kat_tups))
  | ((with_reducible show Gv _ (.Call (.Name "min" _) _ _ _) _ _ _); first | exact x_min2 (by keq_hits) (by keq_hits) (by kat_tups) | exact x_minP (by keq_hits) (by kat_tups))
  | ((with_reducible show Gv _ (.Call (.Name "sum" _) _ _ _) _ _ _); first | exact x_sum (by keq_hits) (by kat_tups))
  | ((with_reducible show Gv _ (.Call (.Name "list" _) _ _ _) _ _ _); first | exact x_list (by keq_hits) (by kat_tups))
  | ((with_reducible show Gv _ (.Call (.Name _ _) _ _ _) _ _ _); first | exact x_call (by assumption) (by assumption) (by decide) pass0 (by ke_read) (by kas_types)))
local macro_rules | `(tactic| ke_read) => `(tactic| first | exact s_nil | exact s_cons (by keq_hits) (by ke_read))
local macro_rules | `(tactic| fold_lay) => `(tactic| first
  | ((with_reducible show Gw _ (.BoolOp .And [_] _) _ _ _); exact w_and1 (by kcf_m))
  | ((with_reducible show Gw _ (.BoolOp .Or [_] _) _ _ _); exact w_or1 (by kcf_m))
  | ((with_reducible show Gw _ (.BoolOp .And (_ :: _ :: _) _) _ _ _); exact w_and (by kcf_m) (fun _ => by fold_lay))
  | ((with_reducible show Gw _ (.BoolOp .Or (_ :: _ :: _) _) _ _ _); exact w_or (by kcf_m) (fun _ => by fold_lay)))
local macro_rules | `(tactic| kcf_m) => `(tactic| first
  | ((with_reducible show Gt _ (.UnaryOp .Not _ _) _ _ _); first | exact t_not (by kcf_m))
  | ((with_reducible show Gt _ (.Compare _ [.Lt] _ _) _ _ _); first | exact t_cmpR op_lt (rd_I0 fun _ => .bl _) (by keq_hits) (by keq_hits) (nomark _))
  | ((with_reducible show Gt _ (.Compare _ [.LtE] _ _) _ _ _); first | exact t_cmpR op_le (rd_I0 fun _ => .bl _) (by keq_hits) (by keq_hits) (nomark _))
  | ((with_reducible show Gt _ (.Compare _ [.Gt] _ _) _ _ _); first | exact t_cmpR op_gt (rd_I0 fun _ => .bl _) (by keq_hits) (by keq_hits) (nomark _))
  | ((with_reducible show Gt _ (.Compare _ [.GtE] _ _) _ _ _); first | exact t_cmpR op_ge (rd_I0 fun _ => .bl _) (by keq_hits) (by keq_hits) (nomark _))
  | ((with_reducible show Gt _ (.Compare _ [.Eq] _ _) _ _ _); first | exact t_cmpR op_eq rd_eqI (by keq_hits) (by keq_hits) (nomark _) | exact t_cmpR op_eq rd_eqB (by keq_hits) (by keq_hits) (nomark _))
  | ((with_reducible show Gt _ (.Compare _ [.NotEq] _ _) _ _ _); first | exact t_cmpR op_ne rd_neI (by keq_hits) (by keq_hits) (nomark _) | exact t_cmpR op_ne rd_neB (by keq_hits) (by keq_hits) (nomark _))
  | ((with_reducible show Gt _ (.BoolOp _ _ _) _ _ _); first | exact t_w (by fold_lay))
  | exact t_val (by keq_hits))
section
variable {P : Program} {w : World} {K : PySem.W.Frag} {mg : Str → Option Value} {base : Heap}
theorem sc_is_whole : FnScope ["thing"] ["thing"] (defScope s_is_whole) := ⟨rfl, rfl, rfl, by decide +kernel, rfl, by decide +kernel, by decide +kernel⟩
def F_is_whole : List PyData → PyData → Prop := fun ds d => ∃ x, ds = [x] ∧ d = .bool (isInt x)
theorem ok_is_whole (B : Bu mg) (T : Th K mg "is_whole" s_is_whole ["thing"]) : Df P w K mg base CX0 "is_whole" 1 ["thing"] (spD K F_is_whole) := by
  refine Df.go 0 T sc_is_whole (fun ds d ⟨x, h, _⟩ => by rw [h]; rfl) fun f cdv A outer s H0 E hr hn nd ds d vs H Q ⟨x, h1, h2⟩ ha k => ?_
  subst h1 h2
  obtain ⟨n0, _⟩ := hn
  obtain ⟨v, rfl, hv⟩ := dp1 ha
  obtain ⟨b1, b2, k1, k2, e⟩ := isInt_is x
  exact g_retD (d := .bool (b1 && !b2)) (by keq_hits) (by rw [e]) k
theorem sc_is_amount : FnScope ["thing"] ["thing"] (defScope s_is_amount) := ⟨rfl, rfl, rfl, by decide +kernel, rfl, by decide +kernel, by decide +kernel⟩
def F_is_amount : List PyData → PyData → Prop := fun ds d => ∃ x, ds = [x] ∧ d = .bool (isAmt x)
theorem ok_is_amount (B : Bu mg) (T : Th K mg "is_amount" s_is_amount ["thing"]) (d1 : Df P w K mg base CX0 "is_whole" 1 ["thing"] (spD K F_is_whole)) : Df P w K mg base CX0 "is_amount" 2 ["thing"] (spD K F_is_amount) := by
  refine Df.go 1 T sc_is_amount (fun ds d ⟨x, h, _⟩ => by rw [h]; rfl) fun f cdv A outer s H0 E hr hn nd ds d vs H Q ⟨x, h1, h2⟩ ha k => ?_
  subst h1 h2
  obtain ⟨n0, _⟩ := hn
  obtain ⟨v, rfl, hv⟩ := dp1 ha
  cases x with
  | int i => exact g_retD (d := .bool (isInt (.int i) && decide (0 ≤ i))) (by keq_hits) rfl k
  | _ => exact g_retD (d := .bool (false && false)) (x_and (by keq_hits) fun z => nomatch z) rfl k
theorem sc_is_place : FnScope ["thing"] ["thing"] (defScope s_is_place) := ⟨rfl, rfl, rfl, by decide +kernel, rfl, by decide +kernel, by decide +kernel⟩
def F_is_place : List PyData → PyData → Prop := fun ds d => ∃ x, ds = [x] ∧ d = .bool (isPl x)
theorem ok_is_place (B : Bu mg) (T : Th K mg "is_place" s_is_place ["thing"]) (d1 : Df P w K mg base CX0 "is_whole" 1 ["thing"] (spD K F_is_whole)) : Df P w K mg base CX0 "is_place" 2 ["thing"] (spD K F_is_place) := by
  refine Df.go 1 T sc_is_place (fun ds d ⟨x, h, _⟩ => by rw [h]; rfl) fun f cdv A outer s H0 E hr hn nd ds d vs H Q ⟨x, h1, h2⟩ ha k => ?_
  subst h1 h2
  obtain ⟨n0, _⟩ := hn
  obtain ⟨v, rfl, hv⟩ := dp1 ha
  cases x with
  | tuple es =>
    match es, hv with
    | [], hv => exact g_retD (d := .bool (true && (false && false))) (x_and (by keq_hits) fun _ => x_and (gd_is (by keq_hits) (by rfl)) fun z => nomatch z) rfl k
    | [p], hv => exact g_retD (d := .bool (true && (false && false))) (x_and (by keq_hits) fun _ => x_and (gd_is (by keq_hits) (by rfl)) fun z => nomatch z) rfl k
    | [p, q], hv => exact g_retD (d := .bool (true && (true && (isInt p && isInt q)))) (x_and (by keq_hits) fun _ => x_and (gd_is (by keq_hits) (by rfl)) fun _ => by keq_hits) rfl k
    | p :: q :: r :: more, hv =>
      exact g_retD (d := .bool (true && (false && false))) (x_and (by keq_hits) fun _ => x_and (gd_is (x_eqI (x_lenT (by keq_hits) (by kat_tups)) (by keq_hits)) (by
        have z : ¬ (((p :: q :: r :: more).length : Nat) : Int) = 2 := by
          simp only [List.length_cons]
          omega
        rw [decide_eq_false z])) fun z => nomatch z) rfl k
  | _ => exact g_retD (d := .bool (false && false)) (x_and (gd_is (by keq_hits) (by rfl)) fun z => nomatch z) rfl k
theorem sc_is_leap : FnScope ["thing"] ["thing"] (defScope s_is_leap) := ⟨rfl, rfl, rfl, by decide +kernel, rfl, by decide +kernel, by decide +kernel⟩
def F_is_leap : List PyData → PyData → Prop := fun ds d => ∃ x, ds = [x] ∧ d = .bool (isLp x)
theorem ok_is_leap (B : Bu mg) (T : Th K mg "is_leap" s_is_leap ["thing"]) (d1 : Df P w K mg base CX0 "is_place" 2 ["thing"] (spD K F_is_place)) : Df P w K mg base CX0 "is_leap" 3 ["thing"] (spD K F_is_leap) := by
  refine Df.go 2 T sc_is_leap (fun ds d ⟨x, h, _⟩ => by rw [h]; rfl) fun f cdv A outer s H0 E hr hn nd ds d vs H Q ⟨x, h1, h2⟩ ha k => ?_
  subst h1 h2
  obtain ⟨n0, _⟩ := hn
  obtain ⟨v, rfl, hv⟩ := dp1 ha
  by_cases hp : isPl x = true
  · obtain ⟨i, j, rfl⟩ := isPl_pair hp
    exact g_retD (d := .bool (isPl (.tuple [.int i, .int j]) && (decide (0 ≤ if j < i then j else i) && decide (0 < if j > i then j else i)))) (by keq_hits) rfl k
  · have hf : isPl x = false := by simpa using hp
    refine g_retD (d := .bool (isPl x && false)) (x_and (by keq_hits) fun z => absurd (z.symm.trans hf) (by decide)) ?_ k
    rw [isLp_of hf, hf] <;> rfl
theorem sc_is_counts : FnScope ["thing", "count"] ["thing"] (defScope s_is_counts) := ⟨rfl, rfl, rfl, by decide +kernel, rfl, by decide +kernel, by decide +kernel⟩
def F_is_counts : List PyData → PyData → Prop := fun ds d => ∃ x, ds = [x] ∧ lenOk x ∧ d = .bool (isCt x)
theorem ok_is_counts (B : Bu mg) (T : Th K mg "is_counts" s_is_counts ["thing"]) (d1 : Df P w K mg base CX0 "is_amount" 2 ["thing"] (spD K F_is_amount)) : Df P w K mg base CX0 "is_counts" 3 ["thing"] (spD K F_is_counts) := by
  refine Df.go 2 T sc_is_counts (fun ds d ⟨x, h, _⟩ => by rw [h]; rfl) fun f cdv A outer s H0 E hr hn nd ds d vs H Q ⟨x, h1, h0, h2⟩ ha k => ?_
  subst h1 h2
  obtain ⟨n0, n1, _⟩ := hn
  obtain ⟨v, rfl, hv⟩ := dp1 ha
  cases x with
  | list es =>
    by_cases he : es.length = 8
    · refine g_retD (d := .bool (true && (true && ((es.map isAmt).all id)))) (x_and (by keq_hits) fun _ => x_and (gd_is (by keq_hits) (by rw [he] <;> rfl)) fun _ => x_and1 (x_all (bs := es.map isAmt) ?_ (by kat_tups))) (by show _ = PyData.bool (decide (es.length = 8) && _); rw [he] <;> rfl) k
      refine x_lcL (fs := (es.map isAmt).map .bool) 1 nd (by keq_hits) (blkOk_by (N := ["thing", "count"]) (sc := defScope s_is_counts) (by decide +kernel)) (by rw [List.length_map, List.length_map]) (by rw [List.length_map, List.length_map, he]; decide) (nls_map _ (fun _ => rfl) _) (fun i e f v2 H1 hi hf x1 hv2 s0 H00 C cl fp => ?_) n1 (fun _ _ _ _ _ => pg_name nd n1 (Or.inl rfl))
      rw [List.map_map, List.getElem?_map, hi] at hf
      have hf' := Option.some.inj hf
      subst hf'
      exact (by keq_hits)
    · refine g_retD (d := .bool (true && (false && false))) (x_and (by keq_hits) fun _ => x_and (gd_is (by keq_hits) ?_) fun z => nomatch z) (by show _ = PyData.bool (decide (es.length = 8) && _); rw [decide_eq_false he] <;> rfl) k
      have z : ¬ ((es.length : Nat) : Int) = 8 := by omega
      rw [decide_eq_false z]
  | _ => exact g_retD (d := .bool (false && false)) (x_and (gd_is (by keq_hits) (by rfl)) fun z => nomatch z) rfl k

theorem sc_need_leap : FnScope ["thing"] ["thing"] (defScope s_need_leap) := ⟨rfl, rfl, rfl, by decide +kernel, rfl, by decide +kernel, by decide +kernel⟩
def F_need_leap : List PyData → PyData → Prop := fun ds d => ∃ x, ds = [x] ∧ isLp x = true ∧ d = .none
theorem ok_need_leap (T : Th K mg "need_leap" s_need_leap ["thing"]) (d1 : Df P w K mg base CX0 "is_leap" 3 ["thing"] (spD K F_is_leap)) : Df P w K mg base CX0 "need_leap" 4 ["thing"] (spD K F_need_leap) := by
  refine Df.go 3 T sc_need_leap (fun ds d ⟨x, h, _⟩ => by rw [h]; rfl) fun f cdv A outer s H0 E hr hn nd ds d vs H Q ⟨x, h1, h0, h2⟩ ha k => ?_
  subst h1 h2
  obtain ⟨n0, _⟩ := hn
  obtain ⟨v, rfl, hv⟩ := dp1 ha
  exact g_when (t := !isLp x) (by kcf_m) (fun z => by rw [h0] at z; cases z) fun _ H1 e1 => g_nil (k .non H1 e1 .non)
theorem sc_need_place : FnScope ["thing"] ["thing"] (defScope s_need_place) := ⟨rfl, rfl, rfl, by decide +kernel, rfl, by decide +kernel, by decide +kernel⟩
def F_need_place : List PyData → PyData → Prop := fun ds d => ∃ x, ds = [x] ∧ isPl x = true ∧ d = .none
theorem ok_need_place (T : Th K mg "need_place" s_need_place ["thing"]) (d1 : Df P w K mg base CX0 "is_place" 2 ["thing"] (spD K F_is_place)) : Df P w K mg base CX0 "need_place" 3 ["thing"] (spD K F_need_place) := by
  refine Df.go 2 T sc_need_place (fun ds d ⟨x, h, _⟩ => by rw [h]; rfl) fun f cdv A outer s H0 E hr hn nd ds d vs H Q ⟨x, h1, h0, h2⟩ ha k => ?_
  subst h1 h2
  obtain ⟨n0, _⟩ := hn
  obtain ⟨v, rfl, hv⟩ := dp1 ha
  exact g_when (t := !isPl x) (by kcf_m) (fun z => by rw [h0] at z; cases z) fun _ H1 e1 => g_nil (k .non H1 e1 .non)
theorem sc_need_counts : FnScope ["thing"] ["thing"] (defScope s_need_counts) := ⟨rfl, rfl, rfl, by decide +kernel, rfl, by decide +kernel, by decide +kernel⟩
def F_need_counts : List PyData → PyData → Prop := fun ds d => ∃ x, ds = [x] ∧ (lenOk x ∧ isCt x = true) ∧ d = .none
theorem ok_need_counts (T : Th K mg "need_counts" s_need_counts ["thing"]) (d1 : Df P w K mg base CX0 "is_counts" 3 ["thing"] (spD K F_is_counts)) : Df P w K mg base CX0 "need_counts" 4 ["thing"] (spD K F_need_counts) := by
  refine Df.go 3 T sc_need_counts (fun ds d ⟨x, h, _⟩ => by rw [h]; rfl) fun f cdv A outer s H0 E hr hn nd ds d vs H Q ⟨x, h1, ⟨hl, h0⟩, h2⟩ ha k => ?_
  subst h1 h2
  obtain ⟨n0, _⟩ := hn
  obtain ⟨v, rfl, hv⟩ := dp1 ha
  exact g_when (t := !isCt x) (by kcf_m) (fun z => by rw [h0] at z; cases z) fun _ H1 e1 => g_nil (k .non H1 e1 .non)
theorem sc_eight : FnScope ["leap", "a", "b"] ["leap"] (defScope s_eight) := ⟨rfl, rfl, rfl, by decide +kernel, rfl, by decide +kernel, by decide +kernel⟩
def F_eight : List PyData → PyData → Prop := fun ds d => ∃ a b, ds = [pr a b] ∧ isLp (pr a b) = true ∧ d = prs (eightL a b)
theorem ok_eight (T : Th K mg "eight" s_eight ["leap"]) (d1 : Df P w K mg base CX0 "need_leap" 4 ["thing"] (spD K F_need_leap)) : Df P w K mg base CX0 "eight" 5 ["leap"] (spD K F_eight) := by
  refine Df.go 4 T sc_eight (fun ds d ⟨x, _, h, _⟩ => by rw [h]; rfl) fun f cdv A outer s H0 E hr hn nd ds d vs H Q ⟨a, b, h1, h0, h2⟩ ha k => ?_
  subst h1 h2
  obtain ⟨n0, n1, n2, _⟩ := hn
  obtain ⟨v, rfl, hv⟩ := dp1 ha
  refine g_expr (R := fun v' H' => Dq K H' v' .none) (x_call d1 hr (by decide) pass0 (by ke_read) ⟨_, rfl, h0, rfl⟩) fun _ H1 e1 _ => ?_
  refine g_unp2I 1 2 nd n1 n2 (n := a) (m := b) (by keq_hits) fun H2 e2 => ?_
  exact g_retD (by keq_hits) (by rfl) fun v2 H3 e3 q => k v2 H3 ((e1.trans e2).trans e3) q
theorem sc_place_of : FnScope ["leap", "counts", "x", "y", "count", "along", "across"] ["leap", "counts"] (defScope s_place_of) := ⟨rfl, rfl, rfl, by decide +kernel, rfl, by decide +kernel, by decide +kernel⟩
def F_place_of : List PyData → PyData → Prop := fun ds d => ∃ a b cs, ds = [pr a b, lsI cs] ∧ (isLp (pr a b) = true ∧ Bd 60000 a ∧ Bd 60000 b ∧ CtOk 60000 cs) ∧ d = pr (led a b cs).1 (led a b cs).2
theorem ok_place_of (B : Bu mg) (T : Th K mg "place_of" s_place_of ["leap", "counts"]) (d1 : Df P w K mg base CX0 "need_leap" 4 ["thing"] (spD K F_need_leap)) (d2 : Df P w K mg base CX0 "need_counts" 4 ["thing"] (spD K F_need_counts)) (d3 : Df P w K mg base CX0 "eight" 5 ["leap"] (spD K F_eight)) :
    Df P w K mg base CX0 "place_of" 6 ["leap", "counts"] (spD K F_place_of) := by
  refine Df.go 5 T sc_place_of (fun ds d ⟨_, _, _, h, _⟩ => by rw [h]; rfl) fun f cdv A outer s H0 E hr hn nd ds d vs H Q ⟨a, b, cs, h1, ⟨h0, ba, bb, hc⟩, h2⟩ ha k => ?_
  subst h1 h2
  obtain ⟨n0, n1, n2, n3, n4, n5, n6, _⟩ := hn
  obtain ⟨v, u, rfl, hv, hu⟩ := dp2 ha
  refine g_expr (R := fun v' H' => Dq K H' v' .none) (x_call d1 hr (by decide) pass0 (by ke_read) ⟨_, rfl, h0, rfl⟩) fun _ H1 e1 _ => ?_
  refine g_expr (R := fun v' H' => Dq K H' v' .none) (x_call d2 hr (by decide) pass0 (by ke_read) ⟨_, rfl, ⟨by show (cs.map PyData.int).length ≤ _; rw [List.length_map, hc.1]; decide, isCt_ok hc⟩, rfl⟩) fun _ H2 e2 _ => ?_
  refine g_setI 2 nd n2 (n := 0) (by keq_hits) fun H3 e3 => ?_
  refine g_setI 3 nd n3 (n := 0) (by keq_hits) fun H4 e4 => ?_
  have e14 : Ex H H4 := ((e1.trans e2).trans e3).trans e4
  refine g_zip (ds1 := cs.map .int) (ds2 := (eightL a b).map fun p => pr p.1 p.2) (pg_tup rfl (pgs_cons (pg_name (i := 4) nd n4 (.inl rfl)) (pgs_cons (pg_tup rfl (pgs_cons (pg_name (i := 5) nd n5 (.inl rfl)) (pgs_cons (pg_name (i := 6) nd n6 (.inl rfl)) pgs_nil))) pgs_nil)))
    (x_var 1 n1 (by rfl) (dp_mono e14 hu)) (x_call d3 hr (by decide) pass0 (s_cons (x_var 0 n0 (by rfl) (dp_mono e14 hv)) s_nil) ⟨a, b, rfl, h0, rfl⟩) (by rw [List.length_map, List.length_map, hc.1]; rfl)
    (fun i σ' _ => ∃ w4 w5 w6, σ' = [some v, some u, some (.int (ledL (cs.take i) ((eightL a b).take i)).1), some (.int (ledL (cs.take i) ((eightL a b).take i)).2), w4, w5, w6]) (fun _ _ => ⟨none, none, none, rfl⟩) PassesOwn.never B.zip
    (fun i c p v2 σ' H' hi hj x1 r ⟨w4, w5, w6, hσ⟩ => ?_) (fun _ _ _ _ _ p => p) m_tgt3 fun σ' H' x1 ⟨w4, w5, w6, hσ⟩ => ?_
  · rw [List.getElem?_map] at hi hj
    obtain ⟨c, hi', rfl⟩ := Option.map_eq_some_iff.mp hi
    obtain ⟨p, hj', rfl⟩ := Option.map_eq_some_iff.mp hj
    subst hσ
    have st := ledL_snoc cs (eightL a b) i c p hi' hj'
    have bc := (hc.2 c (List.mem_of_getElem? hi')).2
    obtain ⟨b1, b2⟩ := eightL_bd ba bb p (List.mem_of_getElem? hj')
    have m1 : MOk c p.1 := bc.mok b1 (by decide) (by decide) (by decide)
    have m2 : MOk c p.2 := bc.mok b2 (by decide) (by decide) (by decide)
    refine g_tgt3 r ?_
    refine g_augI 2 nd n2 (by rfl) (m := c * p.1) (by keq_hits) fun H5 e5 => ?_
    refine g_augI 3 nd n3 (by rfl) (m := c * p.2) (by keq_hits) fun H6 e6 => g_nil ⟨e5.trans e6, some (.int c), some (.int p.1), some (.int p.2), ?_⟩
    rw [st]
    rfl
  · subst hσ
    rw [List.length_map, List.take_length, List.take_of_length_le (by rw [hc.1]; exact Nat.le_refl 8)]
    exact g_retD (by keq_hits) (by rfl) fun v2 H3 e3 q => k v2 H3 ((e14.trans x1).trans e3) q

theorem sc_need_amount : FnScope ["thing"] ["thing"] (defScope s_need_amount) := ⟨rfl, rfl, rfl, by decide +kernel, rfl, by decide +kernel, by decide +kernel⟩
def F_need_amount : List PyData → PyData → Prop := fun ds d => ∃ i : Int, ds = [.int i] ∧ 0 ≤ i ∧ d = .none
theorem ok_need_amount (T : Th K mg "need_amount" s_need_amount ["thing"]) (d1 : Df P w K mg base CX0 "is_amount" 2 ["thing"] (spD K F_is_amount)) : Df P w K mg base CX0 "need_amount" 3 ["thing"] (spD K F_need_amount) := by
  refine Df.go 2 T sc_need_amount (fun ds d ⟨x, h, _⟩ => by rw [h]; rfl) fun f cdv A outer s H0 E hr hn nd ds d vs H Q ⟨i, h1, h0, h2⟩ ha k => ?_
  subst h1 h2
  obtain ⟨n0, _⟩ := hn
  obtain ⟨v, rfl, hv⟩ := dp1 ha
  have z0 : isAmt (.int i) = true := decide_eq_true h0
  exact g_when (t := !isAmt (.int i)) (by kcf_m) (fun z => by rw [z0] at z; cases z) fun _ H1 e1 => g_nil (k .non H1 e1 .non)
theorem sc_first_of : FnScope ["counts", "many", "done", "left", "count", "here"] ["counts", "many"] (defScope s_first_of) := ⟨rfl, rfl, rfl, by decide +kernel, rfl, by decide +kernel, by decide +kernel⟩
def F_first_of : List PyData → PyData → Prop := fun ds d => ∃ cs m, ds = [lsI cs, .int m] ∧ cs.length ≤ 1000 ∧ d = lsI (firstL cs m)
theorem ok_first_of (B : Bu mg) (T : Th K mg "first_of" s_first_of ["counts", "many"]) : Df P w K mg base CX0 "first_of" 1 ["counts", "many"] (spD K F_first_of) := by
  refine Df.go 0 T sc_first_of (fun ds d ⟨_, _, h, _⟩ => by rw [h]; rfl) fun f cdv A outer s H0 E hr hn nd ds d vs H Q ⟨cs, m, h1, hlen, h2⟩ ha k => ?_
  subst h1 h2
  obtain ⟨n0, n1, n2, n3, n4, n5, _⟩ := hn
  obtain ⟨v0, v1, rfl, hv0, hv1⟩ := dp2 ha
  have hv1' := dp_int hv1
  subst hv1'
  refine g_set 2 nd n2 (f_lst s_nil (by decide)) fun u H1 e1 ⟨l, ws, eu, hl0, hl1, hws⟩ => ?_
  subst eu
  cases hws
  refine g_setI 3 nd n3 (n := m) (by keq_hits) fun H2 e2 => ?_
  refine g_forB (Hs := H) (v := v0) (ds := cs.map .int) (pg_name (i := 4) nd n4 (.inl rfl)) (x_varV 0 n0 rfl) hv0
    (fun i σ' H' => ∃ w4 w5, σ' = [some v0, some (.int m), some (.ref l), some (.int (leftL (cs.take i) m)), w4, w5] ∧ Ex H H' ∧ H' l = some (.lst ((firstL (cs.take i) m).map V.int))) (fun i σ' H' ⟨_, _, _, x, _⟩ => x)
    (fun H3 e3 => ⟨none, none, rfl, (e1.trans e2).trans e3, e3 _ _ (e2 _ _ hl1)⟩) PassesOwn.never (fun i d w σ' H' hi hw ⟨w4, w5, hσ, x1, hl⟩ => ?_) m_name fun σ' H' ⟨w4, w5, hσ, x1, hl⟩ => ?_
  · subst hσ
    rw [List.getElem?_map] at hi
    obtain ⟨c, hi', rfl⟩ := Option.map_eq_some_iff.mp hi
    have hw' := dp_int hw
    subst hw'
    obtain ⟨st1, st2⟩ := firstL_snoc cs m i c hi'
    have hlt : (cs.take i).length ≤ 1000 := by rw [List.length_take]; omega
    have hfl := firstL_len (cs.take i) m
    generalize leftL (cs.take i) m = lf at *
    generalize firstL (cs.take i) m = fl at *
    refine g_setI 5 nd n5 (n := mnI c lf) (x_min2 (by keq_hits) (by keq_hits) B.min) fun H3 e3 => ?_
    refine g_append (l := l) (x_varV 2 n2 rfl) (x_var 5 n5 rfl (.int _)) (e3 _ _ hl) (by rw [List.length_map]; omega) fun z H4 e4 hz => ?_
    have hz' := dp_int hz
    subst hz'
    refine g_augS 3 nd n3 (by rfl) (m := mnI c lf) (x_var 5 n5 rfl (.int _)) fun H5 e5 => g_nil ⟨some (.int c), some (.int (mnI c lf)), by rw [st2]; rfl, (Ex.mut ((x1.trans e3).trans e4) hl0).trans e5, ?_⟩
    rw [st1, List.map_append]
    exact e5 _ _ upd_same
  · subst hσ
    rw [List.length_map, List.take_length] at hl
    exact g_retD (d := lsI (firstL cs m)) (x_var 2 n2 rfl (.lst (SqL.of hl) (dpa_of_ints _))) rfl fun v2 H3 e3 r => k v2 H3 (x1.trans e3) r
theorem sc_behind : FnScope ["leap", "counts", "many"] ["leap", "counts", "many"] (defScope s_behind) := ⟨rfl, rfl, rfl, by decide +kernel, rfl, by decide +kernel, by decide +kernel⟩
def F_behind : List PyData → PyData → Prop := fun ds d => ∃ a b cs m, ds = [pr a b, lsI cs, .int m] ∧ (isLp (pr a b) = true ∧ Bd 60000 a ∧ Bd 60000 b ∧ CtOk 60000 cs ∧ 0 ≤ m ∧ m ≤ cs.sum) ∧ d = pr (led a b (firstL cs m)).1 (led a b (firstL cs m)).2
theorem ok_behind (B : Bu mg) (T : Th K mg "behind" s_behind ["leap", "counts", "many"]) (d1 : Df P w K mg base CX0 "need_leap" 4 ["thing"] (spD K F_need_leap)) (d2 : Df P w K mg base CX0 "need_counts" 4 ["thing"] (spD K F_need_counts)) (d3 : Df P w K mg base CX0 "need_amount" 3 ["thing"] (spD K F_need_amount))
    (d4 : Df P w K mg base CX0 "place_of" 6 ["leap", "counts"] (spD K F_place_of)) (d5 : Df P w K mg base CX0 "first_of" 1 ["counts", "many"] (spD K F_first_of)) : Df P w K mg base CX0 "behind" 7 ["leap", "counts", "many"] (spD K F_behind) := by
  refine Df.go 6 T sc_behind (fun ds d ⟨_, _, _, _, h, _⟩ => by rw [h]; rfl) fun f cdv A outer s H0 E hr hn nd ds d vs H Q ⟨a, b, cs, m, h1, ⟨h0, ba, bb, hc, m0, m1⟩, h2⟩ ha k => ?_
  subst h1 h2
  obtain ⟨n0, n1, n2, _⟩ := hn
  cases ha with
  | @cons v0 _ _ _ hv0 ha =>
    obtain ⟨v1, v2, rfl, hv1, hv2⟩ := dp2 ha
    have hv2' := dp_int hv2
    subst hv2'
    refine g_expr (R := fun v' H' => Dq K H' v' .none) (x_call d1 hr (by decide) pass0 (by ke_read) ⟨_, rfl, h0, rfl⟩) fun _ H1 e1 _ => ?_
    refine g_expr (R := fun v' H' => Dq K H' v' .none) (x_call d2 hr (by decide) pass0 (by ke_read) ⟨_, rfl, ⟨by show (cs.map PyData.int).length ≤ _; rw [List.length_map, hc.1]; decide, isCt_ok hc⟩, rfl⟩) fun _ H2 e2 _ => ?_
    refine g_expr (R := fun v' H' => Dq K H' v' .none) (x_call d3 hr (by decide) pass0 (by ke_read) ⟨_, rfl, m0, rfl⟩) fun _ H3 e3 _ => ?_
    have g0 := dp_mono ((e1.trans e2).trans e3) hv0
    have g1 := dp_mono ((e1.trans e2).trans e3) hv1
    refine g_when (t := decide (cs.sum < m)) (t_cmpR op_gt (rd_I0 fun _ => .bl _) (by keq_hits) (x_sum (x_var 1 n1 rfl g1) B.sum) (nomark _)) (fun z => by have := of_dec z; omega) fun _ H4 e4 => ?_
    have ct : CtOk 60000 (firstL cs m) := ⟨by rw [firstL_len]; exact hc.1, firstL_ok cs m m0 hc.2⟩
    exact g_retD (x_call d4 hr (by decide) pass0 (s_cons (x_var 0 n0 rfl (dp_mono e4 g0)) (s_cons (x_call d5 hr (by decide) pass0 (s_cons (x_var 1 n1 rfl (dp_mono e4 g1)) (s_cons (x_var 2 n2 rfl (.int m)) s_nil)) ⟨cs, m, rfl, by rw [hc.1]; decide, rfl⟩) s_nil)) ⟨a, b, firstL cs m, rfl, ⟨h0, ba, bb, ct⟩, rfl⟩) rfl fun v2 H5 e5 r => k v2 H5 ((((e1.trans e2).trans e3).trans e4).trans e5) r
theorem sc_folded : FnScope ["place", "x", "y"] ["place"] (defScope s_folded) := ⟨rfl, rfl, rfl, by decide +kernel, rfl, by decide +kernel, by decide +kernel⟩
def absI (i : Int) : Int := if i < 0 then -i else i
def F_folded : List PyData → PyData → Prop := fun ds d => ∃ x y, ds = [pr x y] ∧ d = pr (mxI (absI x) (absI y)) (mnI (absI x) (absI y))
theorem ok_folded (B : Bu mg) (T : Th K mg "folded" s_folded ["place"]) : Df P w K mg base CX0 "folded" 1 ["place"] (spD K F_folded) := by
  refine Df.go 0 T sc_folded (fun ds d ⟨_, _, h, _⟩ => by rw [h]; rfl) fun f cdv A outer s H0 E hr hn nd ds d vs H Q ⟨x, y, h1, h2⟩ ha k => ?_
  subst h1 h2
  obtain ⟨n0, n1, n2, _⟩ := hn
  obtain ⟨v0, rfl, hv0⟩ := dp1 ha
  refine g_parI 1 2 nd n1 n2 (by decide) (n := absI x) (m := absI y) (by ke_read) fun H1 e1 => ?_
  exact g_retD (by keq_hits) rfl fun v2 H3 e3 r => k v2 H3 (e1.trans e3) r
theorem sc_least : FnScope ["far", "near", "many"] ["far", "near"] (defScope s_least) := ⟨rfl, rfl, rfl, by decide +kernel, rfl, by decide +kernel, by decide +kernel⟩
def F_least : List PyData → PyData → Prop := fun ds d => ∃ far near, ds = [.int far, .int near] ∧ d = .int (leastN far near)
theorem ok_least {dN : Addr} (B : Bu mg) (T : Th K mg "least" s_least ["far", "near"]) (gN : mg "NEAR" = some (.ref dN)) (kN : NearOk K dN) : Df P w K mg base CX0 "least" 1 ["far", "near"] (spD K F_least) := by
  refine Df.go 0 T sc_least (fun ds d ⟨_, _, h, _⟩ => by rw [h]; rfl) fun f cdv A outer s H0 E hr hn nd ds d vs H Q ⟨far, near, h1, h2⟩ ha k => ?_
  subst h1 h2
  obtain ⟨n0, n1, n2, _⟩ := hn
  have hvs : vs = [.int far, .int near] := dpa_ints [far, near] ha
  subst hvs
  obtain ⟨xs, D, hx⟩ := kN.ex
  obtain ⟨h1, h2⟩ := hx far near
  have vdef : leastN far near = match nearL far near with
    | some l => (l.length : Int)
    | none => farN far near + (farN far near + far + near) % 2 := rfl
  refine g_when (t := (ktAt xs [far, near]).isSome) (t_inKT D hr.units (ks := [far, near]) (by keq_hits) (x_cls gN)) (fun z H1 e1 => ?_) fun z H1 e1 => ?_
  · cases hl : nearL far near with
    | none => rw [h1 hl] at z; cases z
    | some l =>
      obtain ⟨c, hc, hd⟩ := h2 l hl
      refine g_retD (x_lenT (x_ixKT D hr.units (ks := [far, near]) (x_cls gN) (by keq_hits) hc hd) B.len) ?_ fun v2 H3 e3 r => k v2 H3 (e1.trans e3) r
      rw [vdef, hl]
      show PyData.int ((prL l).length : Int) = .int (l.length : Int)
      unfold prL
      rw [List.length_map]
  · cases hl : nearL far near with
    | some l =>
      obtain ⟨c, hc, hd⟩ := h2 l hl
      rw [hc] at z
      cases z
    | none =>
      have k1 : CDivW (far + 1) 2 := ⟨by decide, by decide⟩
      have k2 : CDivW (far + near + 2) 3 := ⟨by decide, by decide⟩
      refine g_setI 2 nd n2 (n := farN far near) (by keq_hits) fun H2 e2 => ?_
      refine g_retD (by keq_hits) ?_ fun v2 H3 e3 r => k v2 H3 ((e1.trans e2).trans e3) r
      rw [vdef, hl]
theorem sc_fewest : FnScope ["place", "far", "near"] ["place"] (defScope s_fewest) := ⟨rfl, rfl, rfl, by decide +kernel, rfl, by decide +kernel, by decide +kernel⟩
def fewN (x y : Int) : Int := leastN (mxI (absI x) (absI y)) (mnI (absI x) (absI y))
def F_fewest : List PyData → PyData → Prop := fun ds d => ∃ x y, ds = [pr x y] ∧ d = .int (fewN x y)
theorem ok_fewest (T : Th K mg "fewest" s_fewest ["place"]) (d1 : Df P w K mg base CX0 "need_place" 3 ["thing"] (spD K F_need_place)) (d2 : Df P w K mg base CX0 "folded" 1 ["place"] (spD K F_folded)) (d3 : Df P w K mg base CX0 "least" 1 ["far", "near"] (spD K F_least)) : Df P w K mg base CX0 "fewest" 4 ["place"] (spD K F_fewest) := by
  refine Df.go 3 T sc_fewest (fun ds d ⟨_, _, h, _⟩ => by rw [h]; rfl) fun f cdv A outer s H0 E hr hn nd ds d vs H Q ⟨x, y, h1, h2⟩ ha k => ?_
  subst h1 h2
  obtain ⟨n0, n1, n2, _⟩ := hn
  obtain ⟨v0, rfl, hv0⟩ := dp1 ha
  refine g_expr (R := fun v' H' => Dq K H' v' .none) (x_call d1 hr (by decide) pass0 (by ke_read) ⟨_, rfl, rfl, rfl⟩) fun _ H1 e1 _ => ?_
  refine g_unp2I 1 2 nd n1 n2 (n := mxI (absI x) (absI y)) (m := mnI (absI x) (absI y)) (by keq_hits) fun H2 e2 => ?_
  exact g_retD (by keq_hits) rfl fun v2 H3 e3 r => k v2 H3 ((e1.trans e2).trans e3) r

theorem sc_places : FnScope ["many"] ["many"] (defScope s_places) := ⟨rfl, rfl, rfl, by decide +kernel, rfl, by decide +kernel, by decide +kernel⟩
def F_places : List PyData → PyData → Prop := fun ds d => ∃ m : Int, ds = [.int m] ∧ (0 ≤ m ∧ Bd 60000 m) ∧ d = .int (placesN m)
theorem ok_places {dP : Addr} (B : Bu mg) (T : Th K mg "places" s_places ["many"]) (gP : mg "PLACES_FIRST" = some (.ref dP)) (kP : TupOk K dP [1, 8, 32, 68, 96]) (d1 : Df P w K mg base CX0 "need_amount" 3 ["thing"] (spD K F_need_amount)) : Df P w K mg base CX0 "places" 4 ["many"] (spD K F_places) := by
  refine Df.go 3 T sc_places (fun ds d ⟨_, h, _⟩ => by rw [h]; rfl) fun f cdv A outer s H0 E hr hn nd ds d vs H Q ⟨m, h1, ⟨m0, bm⟩, h2⟩ ha k => ?_
  subst h1 h2
  obtain ⟨n0, _⟩ := hn
  have hvs : vs = [.int m] := dpa_ints [m] ha
  subst hvs
  refine g_expr (R := fun v' H' => Dq K H' v' .none) (x_call d1 hr (by decide) pass0 (by ke_read) ⟨_, rfl, m0, rfl⟩) fun _ H1 e1 _ => ?_
  refine g_when (t := decide (m < 5)) (t_cmpR op_lt (rd_I0 fun _ => .bl _) (by keq_hits) (by exact gd_is (x_lenT (x_glob (v := .ref dP) gP rfl (kP.ex _)) B.len) rfl) (nomark _)) (fun z H2 e2 => ?_) fun z H2 e2 => ?_
  · have z' := of_dec z
    refine g_retD (x_ixT (x_glob (v := .ref dP) gP rfl (kP.ex _)) (by keq_hits) (atI_ints m0 (by show m < 5; exact z'))) ?_ fun v2 H3 e3 r => k v2 H3 ((e1.trans e2).trans e3) r
    unfold placesN
    rw [if_pos z']
  · have z' := of_ndec z
    have k1 : MOk 28 m := (Bd.of (n := 6) (i := 28) (by decide) (by decide)).mok bm (by decide) (by decide) (by decide)
    refine g_retD (by keq_hits) ?_ fun v2 H3 e3 r => k v2 H3 ((e1.trans e2).trans e3) r
    unfold placesN
    rw [if_neg z']
theorem sc_within : FnScope ["many"] ["many"] (defScope s_within) := ⟨rfl, rfl, rfl, by decide +kernel, rfl, by decide +kernel, by decide +kernel⟩
def F_within : List PyData → PyData → Prop := fun ds d => ∃ m : Int, ds = [.int m] ∧ (0 ≤ m ∧ Bd 60000 m) ∧ d = .int (withinN m)
theorem ok_within {dW : Addr} (B : Bu mg) (T : Th K mg "within" s_within ["many"]) (gWf : mg "WITHIN_FIRST" = some (.ref dW)) (kWf : TupOk K dW [1, 9, 41, 109]) (d1 : Df P w K mg base CX0 "need_amount" 3 ["thing"] (spD K F_need_amount)) : Df P w K mg base CX0 "within" 4 ["many"] (spD K F_within) := by
  refine Df.go 3 T sc_within (fun ds d ⟨_, h, _⟩ => by rw [h]; rfl) fun f cdv A outer s H0 E hr hn nd ds d vs H Q ⟨m, h1, ⟨m0, bm⟩, h2⟩ ha k => ?_
  subst h1 h2
  obtain ⟨n0, _⟩ := hn
  have hvs : vs = [.int m] := dpa_ints [m] ha
  subst hvs
  refine g_expr (R := fun v' H' => Dq K H' v' .none) (x_call d1 hr (by decide) pass0 (by ke_read) ⟨_, rfl, m0, rfl⟩) fun _ H1 e1 _ => ?_
  refine g_when (t := decide (m < 4)) (t_cmpR op_lt (rd_I0 fun _ => .bl _) (by keq_hits) (by exact gd_is (x_lenT (x_glob (v := .ref dW) gWf rfl (kWf.ex _)) B.len) rfl) (nomark _)) (fun z H2 e2 => ?_) fun z H2 e2 => ?_
  · have z' := of_dec z
    refine g_retD (x_ixT (x_glob (v := .ref dW) gWf rfl (kWf.ex _)) (by keq_hits) (atI_ints m0 (by show m < 4; exact z'))) ?_ fun v2 H3 e3 r => k v2 H3 ((e1.trans e2).trans e3) r
    unfold withinN
    rw [if_pos z']
  · have z' := of_ndec z
    have b14 : Bd 4 14 := Bd.of (n := 4) (i := 14) (by decide) (by decide)
    have k1 : MOk 14 m := b14.mok bm (by decide) (by decide) (by decide)
    have k2 : MOk (14 * m) m := (b14.mul bm).mok bm (by decide) (by decide) (by decide)
    have k3 : MOk 6 m := (Bd.of (n := 4) (i := 6) (by decide) (by decide)).mok bm (by decide) (by decide) (by decide)
    refine g_retD (by keq_hits) ?_ fun v2 H3 e3 r => k v2 H3 ((e1.trans e2).trans e3) r
    unfold withinN
    rw [if_neg z']

theorem sc_told : FnScope ["leap", "place", "common", "of_a", "of_b", "a", "b", "x", "y"] ["leap", "place"] (defScope s_told) := ⟨rfl, rfl, rfl, by decide +kernel, rfl, by decide +kernel, by decide +kernel⟩
theorem sc_shortest : FnScope ["place", "far", "near", "turn", "counts", "many", "leap"] ["place"] (defScope s_shortest) := ⟨rfl, rfl, rfl, by decide +kernel, rfl, by decide +kernel, by decide +kernel⟩
def F_xLp : List PyData → Prop := fun ds => ∃ x, ds = [x] ∧ isLp x = false
def F_xPl : List PyData → Prop := fun ds => ∃ x, ds = [x] ∧ isPl x = false
def F_xCt : List PyData → Prop := fun ds => ∃ x, ds = [x] ∧ lenOk x ∧ isCt x = false
def F_xAm : List PyData → Prop := fun ds => ∃ x, ds = [x] ∧ isAmt x = false
def F_xLp2 : List PyData → Prop := fun ds => ∃ x y, ds = [x, y] ∧ isLp x = false
def F_xLp3 : List PyData → Prop := fun ds => ∃ x y z, ds = [x, y, z] ∧ isLp x = false
def F_xCt2 : List PyData → Prop := fun ds => ∃ x y, ds = [x, y] ∧ isLp x = true ∧ lenOk y ∧ isCt y = false
def F_xCt3 : List PyData → Prop := fun ds => ∃ x y z, ds = [x, y, z] ∧ isLp x = true ∧ lenOk y ∧ isCt y = false
def F_xAm3 : List PyData → Prop := fun ds => ∃ x y z, ds = [x, y, z] ∧ isLp x = true ∧ lenOk y ∧ isCt y = true ∧ isAmt z = false
def F_xSm3 : List PyData → Prop := fun ds => ∃ x cs m, ds = [x, lsI cs, .int m] ∧ isLp x = true ∧ CtOk 60000 cs ∧ 0 ≤ m ∧ cs.sum < m
def F_xPl2 : List PyData → Prop := fun ds => ∃ x y, ds = [x, y] ∧ isLp x = true ∧ isPl y = false
theorem ok_x_need_leap {CL : Addr} (T : Th K mg "need_leap" s_need_leap ["thing"]) (BX : Bc K mg "BadLeap" CL) (d1 : Df P w K mg base CX0 "is_leap" 3 ["thing"] (spD K F_is_leap)) : Df P w K mg base (L2.CX P w) "need_leap" 4 ["thing"] (spE K F_xLp CL) := by
  refine Df.goX 3 T sc_need_leap (fun ds ⟨_, h, _⟩ => by rw [h]; rfl) fun f cdv A outer s H0 E hr hn nd tk ds vs H Q ⟨x, h, hx⟩ ha k => ?_
  subst h
  obtain ⟨n0, _⟩ := hn
  obtain ⟨v, rfl, hv⟩ := dp1 ha
  exact g_when (t := !isLp x) (t_not (t_val (x_call d1 hr (by decide) pass0 (s_cons (x_var 0 n0 rfl hv) s_nil) ⟨_, rfl, rfl⟩))) (fun _ H1 e1 => g_raise BX tk (k H1 e1)) fun z => by rw [hx] at z; cases z
theorem ok_x_need_place {CP : Addr} (T : Th K mg "need_place" s_need_place ["thing"]) (BX : Bc K mg "BadPlace" CP) (d1 : Df P w K mg base CX0 "is_place" 2 ["thing"] (spD K F_is_place)) : Df P w K mg base (L2.CX P w) "need_place" 3 ["thing"] (spE K F_xPl CP) := by
  refine Df.goX 2 T sc_need_place (fun ds ⟨_, h, _⟩ => by rw [h]; rfl) fun f cdv A outer s H0 E hr hn nd tk ds vs H Q ⟨x, h, hx⟩ ha k => ?_
  subst h
  obtain ⟨n0, _⟩ := hn
  obtain ⟨v, rfl, hv⟩ := dp1 ha
  exact g_when (t := !isPl x) (t_not (t_val (x_call d1 hr (by decide) pass0 (s_cons (x_var 0 n0 rfl hv) s_nil) ⟨_, rfl, rfl⟩))) (fun _ H1 e1 => g_raise BX tk (k H1 e1)) fun z => by rw [hx] at z; cases z
theorem ok_x_need_counts {CC : Addr} (T : Th K mg "need_counts" s_need_counts ["thing"]) (BX : Bc K mg "BadCount" CC) (d1 : Df P w K mg base CX0 "is_counts" 3 ["thing"] (spD K F_is_counts)) : Df P w K mg base (L2.CX P w) "need_counts" 4 ["thing"] (spE K F_xCt CC) := by
  refine Df.goX 3 T sc_need_counts (fun ds ⟨_, h, _, _⟩ => by rw [h]; rfl) fun f cdv A outer s H0 E hr hn nd tk ds vs H Q ⟨x, h, hl, hx⟩ ha k => ?_
  subst h
  obtain ⟨n0, _⟩ := hn
  obtain ⟨v, rfl, hv⟩ := dp1 ha
  exact g_when (t := !isCt x) (t_not (t_val (x_call d1 hr (by decide) pass0 (s_cons (x_var 0 n0 rfl hv) s_nil) ⟨_, rfl, hl, rfl⟩))) (fun _ H1 e1 => g_raise BX tk (k H1 e1)) fun z => by rw [hx] at z; cases z
theorem ok_x_need_amount {CC : Addr} (T : Th K mg "need_amount" s_need_amount ["thing"]) (BX : Bc K mg "BadCount" CC) (d1 : Df P w K mg base CX0 "is_amount" 2 ["thing"] (spD K F_is_amount)) : Df P w K mg base (L2.CX P w) "need_amount" 3 ["thing"] (spE K F_xAm CC) := by
  refine Df.goX 2 T sc_need_amount (fun ds ⟨_, h, _⟩ => by rw [h]; rfl) fun f cdv A outer s H0 E hr hn nd tk ds vs H Q ⟨x, h, hx⟩ ha k => ?_
  subst h
  obtain ⟨n0, _⟩ := hn
  obtain ⟨v, rfl, hv⟩ := dp1 ha
  exact g_when (t := !isAmt x) (t_not (t_val (x_call d1 hr (by decide) pass0 (s_cons (x_var 0 n0 rfl hv) s_nil) ⟨_, rfl, rfl⟩))) (fun _ H1 e1 => g_raise BX tk (k H1 e1)) fun z => by rw [hx] at z; cases z
theorem ok_x_eight {CL : Addr} (T : Th K mg "eight" s_eight ["leap"]) (d1 : Df P w K mg base (L2.CX P w) "need_leap" 4 ["thing"] (spE K F_xLp CL)) : Df P w K mg base (L2.CX P w) "eight" 5 ["leap"] (spE K F_xLp CL) := by
  refine Df.goX 4 T sc_eight (fun ds ⟨_, h, _⟩ => by rw [h]; rfl) fun f cdv A outer s H0 E hr hn nd tk ds vs H Q ⟨x, h, hx⟩ ha k => ?_
  subst h
  obtain ⟨n0, n1, n2, _⟩ := hn
  obtain ⟨v, rfl, hv⟩ := dp1 ha
  exact g_expr (R := fun _ _ => False) (x_callX d1 hr (by decide) tk k (s_cons (x_var 0 n0 rfl hv) s_nil) ⟨x, rfl, hx⟩) fun _ _ _ z => z.elim
theorem ok_x_fewest {CP : Addr} (T : Th K mg "fewest" s_fewest ["place"]) (d1 : Df P w K mg base (L2.CX P w) "need_place" 3 ["thing"] (spE K F_xPl CP)) : Df P w K mg base (L2.CX P w) "fewest" 4 ["place"] (spE K F_xPl CP) := by
  refine Df.goX 3 T sc_fewest (fun ds ⟨_, h, _⟩ => by rw [h]; rfl) fun f cdv A outer s H0 E hr hn nd tk ds vs H Q ⟨x, h, hx⟩ ha k => ?_
  subst h
  obtain ⟨n0, n1, n2, _⟩ := hn
  obtain ⟨v, rfl, hv⟩ := dp1 ha
  exact g_expr (R := fun _ _ => False) (x_callX d1 hr (by decide) tk k (s_cons (x_var 0 n0 rfl hv) s_nil) ⟨x, rfl, hx⟩) fun _ _ _ z => z.elim
theorem ok_x_shortest {CP : Addr} (T : Th K mg "shortest" s_shortest ["place"]) (d1 : Df P w K mg base (L2.CX P w) "need_place" 3 ["thing"] (spE K F_xPl CP)) : Df P w K mg base (L2.CX P w) "shortest" 6 ["place"] (spE K F_xPl CP) := by
  refine Df.goX 5 T sc_shortest (fun ds ⟨_, h, _⟩ => by rw [h]; rfl) fun f cdv A outer s H0 E hr hn nd tk ds vs H Q ⟨x, h, hx⟩ ha k => ?_
  subst h
  obtain ⟨n0, n1, n2, n3, n4, n5, n6, _⟩ := hn
  obtain ⟨v, rfl, hv⟩ := dp1 ha
  exact g_expr (R := fun _ _ => False) (x_callX d1 hr (by decide) tk k (s_cons (x_var 0 n0 rfl hv) s_nil) ⟨x, rfl, hx⟩) fun _ _ _ z => z.elim
theorem ok_x_places {CC : Addr} (T : Th K mg "places" s_places ["many"]) (d1 : Df P w K mg base (L2.CX P w) "need_amount" 3 ["thing"] (spE K F_xAm CC)) : Df P w K mg base (L2.CX P w) "places" 4 ["many"] (spE K F_xAm CC) := by
  refine Df.goX 3 T sc_places (fun ds ⟨_, h, _⟩ => by rw [h]; rfl) fun f cdv A outer s H0 E hr hn nd tk ds vs H Q ⟨x, h, hx⟩ ha k => ?_
  subst h
  obtain ⟨n0, _⟩ := hn
  obtain ⟨v, rfl, hv⟩ := dp1 ha
  exact g_expr (R := fun _ _ => False) (x_callX d1 hr (by decide) tk k (s_cons (x_var 0 n0 rfl hv) s_nil) ⟨x, rfl, hx⟩) fun _ _ _ z => z.elim
theorem ok_x_within {CC : Addr} (T : Th K mg "within" s_within ["many"]) (d1 : Df P w K mg base (L2.CX P w) "need_amount" 3 ["thing"] (spE K F_xAm CC)) : Df P w K mg base (L2.CX P w) "within" 4 ["many"] (spE K F_xAm CC) := by
  refine Df.goX 3 T sc_within (fun ds ⟨_, h, _⟩ => by rw [h]; rfl) fun f cdv A outer s H0 E hr hn nd tk ds vs H Q ⟨x, h, hx⟩ ha k => ?_
  subst h
  obtain ⟨n0, _⟩ := hn
  obtain ⟨v, rfl, hv⟩ := dp1 ha
  exact g_expr (R := fun _ _ => False) (x_callX d1 hr (by decide) tk k (s_cons (x_var 0 n0 rfl hv) s_nil) ⟨x, rfl, hx⟩) fun _ _ _ z => z.elim
theorem ok_x_place_of_L {CL : Addr} (T : Th K mg "place_of" s_place_of ["leap", "counts"]) (d1 : Df P w K mg base (L2.CX P w) "need_leap" 4 ["thing"] (spE K F_xLp CL)) : Df P w K mg base (L2.CX P w) "place_of" 6 ["leap", "counts"] (spE K F_xLp2 CL) := by
  refine Df.goX 5 T sc_place_of (fun ds ⟨_, _, h, _⟩ => by rw [h]; rfl) fun f cdv A outer s H0 E hr hn nd tk ds vs H Q ⟨x, y, h, hx⟩ ha k => ?_
  subst h
  obtain ⟨n0, n1, n2, n3, n4, n5, n6, _⟩ := hn
  obtain ⟨v0, v1, rfl, hv, _⟩ := dp2 ha
  exact g_expr (R := fun _ _ => False) (x_callX d1 hr (by decide) tk k (s_cons (x_var 0 n0 rfl hv) s_nil) ⟨x, rfl, hx⟩) fun _ _ _ z => z.elim
theorem ok_x_behind_L {CL : Addr} (T : Th K mg "behind" s_behind ["leap", "counts", "many"]) (d1 : Df P w K mg base (L2.CX P w) "need_leap" 4 ["thing"] (spE K F_xLp CL)) : Df P w K mg base (L2.CX P w) "behind" 7 ["leap", "counts", "many"] (spE K F_xLp3 CL) := by
  refine Df.goX 6 T sc_behind (fun ds ⟨_, _, _, h, _⟩ => by rw [h]; rfl) fun f cdv A outer s H0 E hr hn nd tk ds vs H Q ⟨x, y, z, h, hx⟩ ha k => ?_
  subst h
  obtain ⟨n0, n1, n2, _⟩ := hn
  obtain ⟨v0, v1, v2, rfl, hv, _⟩ := dqa3 ha
  exact g_expr (R := fun _ _ => False) (x_callX d1 hr (by decide) tk k (s_cons (x_var 0 n0 rfl hv) s_nil) ⟨x, rfl, hx⟩) fun _ _ _ z => z.elim
theorem ok_x_told_L {CL : Addr} (T : Th K mg "told" s_told ["leap", "place"]) (d1 : Df P w K mg base (L2.CX P w) "need_leap" 4 ["thing"] (spE K F_xLp CL)) : Df P w K mg base (L2.CX P w) "told" 5 ["leap", "place"] (spE K F_xLp2 CL) := by
  refine Df.goX 4 T sc_told (fun ds ⟨_, _, h, _⟩ => by rw [h]; rfl) fun f cdv A outer s H0 E hr hn nd tk ds vs H Q ⟨x, y, h, hx⟩ ha k => ?_
  subst h
  obtain ⟨n0, n1, n2, n3, n4, n5, n6, n7, n8, _⟩ := hn
  obtain ⟨v0, v1, rfl, hv, _⟩ := dp2 ha
  exact g_expr (R := fun _ _ => False) (x_callX d1 hr (by decide) tk k (s_cons (x_var 0 n0 rfl hv) s_nil) ⟨x, rfl, hx⟩) fun _ _ _ z => z.elim
theorem ok_x_place_of_C {CC : Addr} (T : Th K mg "place_of" s_place_of ["leap", "counts"]) (d1 : Df P w K mg base CX0 "need_leap" 4 ["thing"] (spD K F_need_leap)) (d2 : Df P w K mg base (L2.CX P w) "need_counts" 4 ["thing"] (spE K F_xCt CC)) : Df P w K mg base (L2.CX P w) "place_of" 6 ["leap", "counts"] (spE K F_xCt2 CC) := by
  refine Df.goX 5 T sc_place_of (fun ds ⟨_, _, h, _⟩ => by rw [h]; rfl) fun f cdv A outer s H0 E hr hn nd tk ds vs H Q ⟨x, y, h, h0, hl, hx⟩ ha k => ?_
  subst h
  obtain ⟨n0, n1, n2, n3, n4, n5, n6, _⟩ := hn
  obtain ⟨v0, v1, rfl, hv, hu⟩ := dp2 ha
  refine g_expr (R := fun v' H' => Dq K H' v' .none) (x_call d1 hr (by decide) pass0 (s_cons (x_var 0 n0 rfl hv) s_nil) ⟨_, rfl, h0, rfl⟩) fun _ H1 e1 _ => ?_
  exact g_expr (R := fun _ _ => False) (x_callX d2 hr (by decide) tk (fun H2 z => k H2 (e1.trans z)) (s_cons (x_var 1 n1 rfl (dp_mono e1 hu)) s_nil) ⟨y, rfl, hl, hx⟩) fun _ _ _ z => z.elim
theorem ok_x_behind_C {CC : Addr} (T : Th K mg "behind" s_behind ["leap", "counts", "many"]) (d1 : Df P w K mg base CX0 "need_leap" 4 ["thing"] (spD K F_need_leap)) (d2 : Df P w K mg base (L2.CX P w) "need_counts" 4 ["thing"] (spE K F_xCt CC)) : Df P w K mg base (L2.CX P w) "behind" 7 ["leap", "counts", "many"] (spE K F_xCt3 CC) := by
  refine Df.goX 6 T sc_behind (fun ds ⟨_, _, _, h, _⟩ => by rw [h]; rfl) fun f cdv A outer s H0 E hr hn nd tk ds vs H Q ⟨x, y, z, h, h0, hl, hx⟩ ha k => ?_
  subst h
  obtain ⟨n0, n1, n2, _⟩ := hn
  obtain ⟨v0, v1, v2, rfl, hv, hu, _⟩ := dqa3 ha
  refine g_expr (R := fun v' H' => Dq K H' v' .none) (x_call d1 hr (by decide) pass0 (s_cons (x_var 0 n0 rfl hv) s_nil) ⟨_, rfl, h0, rfl⟩) fun _ H1 e1 _ => ?_
  exact g_expr (R := fun _ _ => False) (x_callX d2 hr (by decide) tk (fun H2 z => k H2 (e1.trans z)) (s_cons (x_var 1 n1 rfl (dp_mono e1 hu)) s_nil) ⟨y, rfl, hl, hx⟩) fun _ _ _ z => z.elim
theorem ok_x_told_P {CP : Addr} (T : Th K mg "told" s_told ["leap", "place"]) (d1 : Df P w K mg base CX0 "need_leap" 4 ["thing"] (spD K F_need_leap)) (d2 : Df P w K mg base (L2.CX P w) "need_place" 3 ["thing"] (spE K F_xPl CP)) : Df P w K mg base (L2.CX P w) "told" 5 ["leap", "place"] (spE K F_xPl2 CP) := by
  refine Df.goX 4 T sc_told (fun ds ⟨_, _, h, _⟩ => by rw [h]; rfl) fun f cdv A outer s H0 E hr hn nd tk ds vs H Q ⟨x, y, h, h0, hx⟩ ha k => ?_
  subst h
  obtain ⟨n0, n1, n2, n3, n4, n5, n6, n7, n8, _⟩ := hn
  obtain ⟨v0, v1, rfl, hv, hu⟩ := dp2 ha
  refine g_expr (R := fun v' H' => Dq K H' v' .none) (x_call d1 hr (by decide) pass0 (s_cons (x_var 0 n0 rfl hv) s_nil) ⟨_, rfl, h0, rfl⟩) fun _ H1 e1 _ => ?_
  exact g_expr (R := fun _ _ => False) (x_callX d2 hr (by decide) tk (fun H2 z => k H2 (e1.trans z)) (s_cons (x_var 1 n1 rfl (dp_mono e1 hu)) s_nil) ⟨y, rfl, hx⟩) fun _ _ _ z => z.elim
theorem ok_x_behind_M {CC : Addr} (T : Th K mg "behind" s_behind ["leap", "counts", "many"]) (d1 : Df P w K mg base CX0 "need_leap" 4 ["thing"] (spD K F_need_leap)) (d2 : Df P w K mg base CX0 "need_counts" 4 ["thing"] (spD K F_need_counts)) (d3 : Df P w K mg base (L2.CX P w) "need_amount" 3 ["thing"] (spE K F_xAm CC)) : Df P w K mg base (L2.CX P w) "behind" 7 ["leap", "counts", "many"] (spE K F_xAm3 CC) := by
  refine Df.goX 6 T sc_behind (fun ds ⟨_, _, _, h, _⟩ => by rw [h]; rfl) fun f cdv A outer s H0 E hr hn nd tk ds vs H Q ⟨x, y, z, h, h0, hl, hc, hx⟩ ha k => ?_
  subst h
  obtain ⟨n0, n1, n2, _⟩ := hn
  obtain ⟨v0, v1, v2, rfl, hv, hu, hz⟩ := dqa3 ha
  refine g_expr (R := fun v' H' => Dq K H' v' .none) (x_call d1 hr (by decide) pass0 (s_cons (x_var 0 n0 rfl hv) s_nil) ⟨_, rfl, h0, rfl⟩) fun _ H1 e1 _ => ?_
  refine g_expr (R := fun v' H' => Dq K H' v' .none) (x_call d2 hr (by decide) pass0 (s_cons (x_var 1 n1 rfl (dp_mono e1 hu)) s_nil) ⟨_, rfl, ⟨hl, hc⟩, rfl⟩) fun _ H2 e2 _ => ?_
  exact g_expr (R := fun _ _ => False) (x_callX d3 hr (by decide) tk (fun H3 z => k H3 ((e1.trans e2).trans z)) (s_cons (x_var 2 n2 rfl (dp_mono (e1.trans e2) hz)) s_nil) ⟨z, rfl, hx⟩) fun _ _ _ z => z.elim
theorem ok_x_behind_S {CC : Addr} (B : Bu mg) (T : Th K mg "behind" s_behind ["leap", "counts", "many"]) (BX : Bc K mg "BadCount" CC) (d1 : Df P w K mg base CX0 "need_leap" 4 ["thing"] (spD K F_need_leap)) (d2 : Df P w K mg base CX0 "need_counts" 4 ["thing"] (spD K F_need_counts)) (d3 : Df P w K mg base CX0 "need_amount" 3 ["thing"] (spD K F_need_amount)) : Df P w K mg base (L2.CX P w) "behind" 7 ["leap", "counts", "many"] (spE K F_xSm3 CC) := by
  refine Df.goX 6 T sc_behind (fun ds ⟨_, _, _, h, _⟩ => by rw [h]; rfl) fun f cdv A outer s H0 E hr hn nd tk ds vs H Q ⟨x, cs, m, h, h0, hc, m0, m1⟩ ha k => ?_
  subst h
  obtain ⟨n0, n1, n2, _⟩ := hn
  obtain ⟨v0, v1, v2, rfl, hv, hu, hz⟩ := dqa3 ha
  have hz' := dp_int hz
  subst hz'
  refine g_expr (R := fun v' H' => Dq K H' v' .none) (x_call d1 hr (by decide) pass0 (s_cons (x_var 0 n0 rfl hv) s_nil) ⟨_, rfl, h0, rfl⟩) fun _ H1 e1 _ => ?_
  refine g_expr (R := fun v' H' => Dq K H' v' .none) (x_call d2 hr (by decide) pass0 (s_cons (x_var 1 n1 rfl (dp_mono e1 hu)) s_nil) ⟨_, rfl, ⟨by show (cs.map PyData.int).length ≤ _; rw [List.length_map, hc.1]; decide, isCt_ok hc⟩, rfl⟩) fun _ H2 e2 _ => ?_
  refine g_expr (R := fun v' H' => Dq K H' v' .none) (x_call d3 hr (by decide) pass0 (s_cons (x_var 2 n2 rfl (.int m)) s_nil) ⟨_, rfl, m0, rfl⟩) fun _ H3 e3 _ => ?_
  have e13 := (e1.trans e2).trans e3
  exact g_when (t := decide (cs.sum < m)) (t_cmpR op_gt (rd_I0 fun _ => .bl _) (x_var 2 n2 rfl (.int m)) (x_sum (x_var 1 n1 rfl (dp_mono e13 hu)) B.sum) (nomark _)) (fun _ H4 e4 => g_raise BX tk (k H4 (e13.trans e4))) fun z => by rw [decide_eq_true m1] at z; cases z

theorem goW {nm : Str} {st : Stmt} {N ps : List Str} {F : List PyData → PyData → Prop} (k : Nat) (T : Th K mg nm st ps) (S : FnScope N ps (defScope st)) (len : ∀ ds d, F ds d → ds.length = ps.length)
    (body : ∀ f cdv A outer s H0 E, Room k (cxB P w K mg base N nm (defScope st) f cdv A outer s H0 E).A → Names (cxB P w K mg base N nm (defScope st) f cdv A outer s H0 E) N 0 → (cxB P w K mg base N nm (defScope st) f cdv A outer s H0 E).N.Nodup → ∀ ds d vs H (Q : VK), F ds d → DqAll K H vs ds → (∀ v H2, Ex H H2 → Dq K H2 v d → Q v H2) →
      cSS (cxB P w K mg base N nm (defScope st) f cdv A outer s H0 E) (defBody st) { nx := fun _ H' => Q .non H', rt := Q } (start N vs) H) : Df P w K mg base CX0 nm (k + 1) ps (spD K F) :=
  Df.go k T S len fun f cdv A outer s H0 E hr hn nd ds d vs H Q h1 h2 h3 => (body f cdv A outer s H0 E hr hn nd ds d vs H Q h1 h2 h3).h
theorem sc_law_pairs : FnScope ["_law_which", "_law_more", "_law_bad"] ["_law_which", "_law_more"] (defScope s_law_pairs) := ⟨rfl, rfl, rfl, by decide +kernel, rfl, by decide +kernel, by decide +kernel⟩
def pairsA : List PyData := [.none, .tuple [], .tuple [.int 1], .tuple [.int 1, .int 2, .int 3], .list [.int 1, .int 2], .str "12", .int 5, .dict [], .tuple [.none, .int 1], .tuple [.int 1, .str "2"], .tuple [.bool true, .int 2], .tuple [.int 1, .bool false]]
def pairsB (m : Int) : List PyData := [.tuple [.list [.int 1], .int 2], .tuple [.int 1, .tuple [.int 2]], .tuple [.int m, .none]]
theorem pairs_bad {m : Int} : ∀ d ∈ pairsA ++ pairsB m, isPl d = false := fun d h => by
  simp only [pairsA, pairsB, List.cons_append, List.nil_append, List.mem_cons, List.not_mem_nil, or_false] at h
  rcases h with rfl | rfl | rfl | rfl | rfl | rfl | rfl | rfl | rfl | rfl | rfl | rfl | rfl | rfl | rfl <;> rfl
theorem get_some {l : List PyData} {n : Nat} (h : n < l.length) : l[n]? = some (l.getD n .none) := by
  rw [List.getD_eq_getElem?_getD, List.getElem?_eq_getElem h]
  rfl
def F_law_pairs : List PyData → PyData → Prop := fun ds d => ∃ k m, ds = [.int k, .int m] ∧ (pairsA ++ pairsB m)[(k % 15).toNat]? = some d
theorem ok_law_pairs (T : Th K mg "_law_pairs" s_law_pairs ["_law_which", "_law_more"]) : Df P w K mg base CX0 "_law_pairs" 1 ["_law_which", "_law_more"] (spD K F_law_pairs) := by
  refine goW 0 T sc_law_pairs (fun ds d ⟨_, _, h, _⟩ => by rw [h]; rfl) fun f cdv A outer s H0 E hr hn nd ds d vs H Q ⟨k, m, h1, h2⟩ ha q => ?_
  subst h1
  obtain ⟨n0, n1, n2, _⟩ := hn
  have hvs : vs = [.int k, .int m] := dpa_ints [k, m] ha
  subst hvs
  refine w_set 2 nd n2 (f_lst (ds := pairsA) (s_cons (by keq_hits) (s_cons (by keq_hits) (s_cons (by keq_hits) (s_cons (by keq_hits) (s_cons (by keq_hits) (s_cons (by keq_hits) (s_cons (by keq_hits) (s_cons x_dict0 (by ke_read))))))))) (by decide)) fun v2 H1 e1 hv2 => ?_
  exact g_retD (x_ixL (f_cat (k_var 2 n2 rfl hv2.tq) (f_lst (ds := pairsB m) (by ke_read) (by simp [pairsB])).fk (by simp [pairsA, pairsB])).fk.kd (by keq_hits) (atI_nat (by omega) h2)) rfl fun v3 H2 e2 r => q v3 H2 (e1.trans e2) r
theorem sc_law_with_leap : FnScope ["_law_door", "_law_leap"] ["_law_door", "_law_leap"] (defScope s_law_with_leap) := ⟨rfl, rfl, rfl, by decide +kernel, rfl, by decide +kernel, by decide +kernel⟩
def F_xwl : List PyData → Prop := fun ds => ∃ (k : Int) (x : PyData), ds = [.int k, x] ∧ isLp x = false
theorem ok_law_with_leap {CL : Addr} (T : Th K mg "_law_with_leap" s_law_with_leap ["_law_door", "_law_leap"]) (d1 : Df P w K mg base (L2.CX P w) "eight" 5 ["leap"] (spE K F_xLp CL)) (d2 : Df P w K mg base (L2.CX P w) "place_of" 6 ["leap", "counts"] (spE K F_xLp2 CL))
    (d3 : Df P w K mg base (L2.CX P w) "behind" 7 ["leap", "counts", "many"] (spE K F_xLp3 CL)) (d4 : Df P w K mg base (L2.CX P w) "told" 5 ["leap", "place"] (spE K F_xLp2 CL)) : Df P w K mg base (L2.CX P w) "_law_with_leap" 8 ["_law_door", "_law_leap"] (spE K F_xwl CL) := by
  refine Df.goX 7 T sc_law_with_leap (fun ds ⟨_, _, h, _⟩ => by rw [h]; rfl) fun f cdv A outer s H0 E hr hn nd tk ds vs H Q ⟨k, x, h, hx⟩ ha q => ?_
  subst h
  obtain ⟨n0, n1, _⟩ := hn
  obtain ⟨v0, v1, rfl, hv0, hv1⟩ := dp2 ha
  have hv0' := dp_int hv0
  subst hv0'
  refine g_when (t := decide (k < 2)) (by kcf_m) (fun _ H1 e1 => ?_) fun _ H1 e1 => ?_
  · have g1 := dp_mono e1 hv1
    exact g_ret (R := fun _ _ => False) (x_ifR (c := decide (k = 0)) (by kcf_m) (fun _ => x_callX d1 hr (by decide) tk (fun H2 z => q H2 (e1.trans z)) (s_cons (x_var 1 n1 rfl g1) s_nil) ⟨x, rfl, hx⟩) fun _ => x_callX d2 hr (by decide) tk (fun H2 z => q H2 (e1.trans z)) (s_cons (x_var 1 n1 rfl g1) (by ke_read)) ⟨x, _, rfl, hx⟩) fun _ _ _ z => z.elim
  · have g1 := dp_mono e1 hv1
    exact g_ret (R := fun _ _ => False) (x_ifR (c := decide (k = 2)) (by kcf_m) (fun _ => x_callX d3 hr (by decide) tk (fun H2 z => q H2 (e1.trans z)) (s_cons (x_var 1 n1 rfl g1) (by ke_read)) ⟨x, _, _, rfl, hx⟩) fun _ => x_callX d4 hr (by decide) tk (fun H2 z => q H2 (e1.trans z)) (s_cons (x_var 1 n1 rfl g1) (by ke_read)) ⟨x, _, rfl, hx⟩) fun _ _ _ z => z.elim
theorem sc_law_with_place : FnScope ["_law_door", "_law_place"] ["_law_door", "_law_place"] (defScope s_law_with_place) := ⟨rfl, rfl, rfl, by decide +kernel, rfl, by decide +kernel, by decide +kernel⟩
def F_xwp : List PyData → Prop := fun ds => ∃ (k : Int) (x : PyData), ds = [.int k, x] ∧ isPl x = false
theorem ok_law_with_place {CP : Addr} (T : Th K mg "_law_with_place" s_law_with_place ["_law_door", "_law_place"]) (d1 : Df P w K mg base (L2.CX P w) "told" 5 ["leap", "place"] (spE K F_xPl2 CP)) (d2 : Df P w K mg base (L2.CX P w) "fewest" 4 ["place"] (spE K F_xPl CP))
    (d3 : Df P w K mg base (L2.CX P w) "shortest" 6 ["place"] (spE K F_xPl CP)) : Df P w K mg base (L2.CX P w) "_law_with_place" 8 ["_law_door", "_law_place"] (spE K F_xwp CP) := by
  refine Df.goX 7 T sc_law_with_place (fun ds ⟨_, _, h, _⟩ => by rw [h]; rfl) fun f cdv A outer s H0 E hr hn nd tk ds vs H Q ⟨k, x, h, hx⟩ ha q => ?_
  subst h
  obtain ⟨n0, n1, _⟩ := hn
  obtain ⟨v0, v1, rfl, hv0, g1⟩ := dp2 ha
  have hv0' := dp_int hv0
  subst hv0'
  exact g_ret (R := fun _ _ => False) (x_ifR (c := decide (k = 0)) (by kcf_m) (fun _ => x_callX d1 hr (by decide) tk q (s_cons (by keq_hits) (s_cons (x_var 1 n1 rfl g1) s_nil)) ⟨pr 1 2, x, rfl, by decide +kernel, hx⟩) fun _ => x_ifR (c := decide (k = 1)) (by kcf_m) (fun _ => x_callX d2 hr (by decide) tk q (s_cons (x_var 1 n1 rfl g1) s_nil) ⟨x, rfl, hx⟩) fun _ => x_callX d3 hr (by decide) tk q (s_cons (x_var 1 n1 rfl g1) s_nil) ⟨x, rfl, hx⟩) fun _ _ _ z => z.elim
theorem sc_law_bad_counts : FnScope ["_law_which", "_law_more", "_law_bad", "_law_counts"] ["_law_which", "_law_more"] (defScope s_law_bad_counts) := ⟨rfl, rfl, rfl, by decide +kernel, rfl, by decide +kernel, by decide +kernel⟩
def badA : List PyData := [.none, .tuple [.int 1, .int 1, .int 1, .int 1, .int 1, .int 1, .int 1, .int 1], .str "12345678", .dict [], .int 8, .list [], lsI [1, 1, 1, 1, 1, 1, 1], lsI [1, 1, 1, 1, 1, 1, 1, 1, 1]]
def badB (m : Int) : List PyData := [.none, .int (-1), .int (-1 - m), .bool true, .str "1", .list [.int 1], .tuple [.int 1], .dict []]
def cellsB (m : Int) : List Int := [m, 0, 2, 1, 0, 0, 3, 1]
def badC (k m : Int) : PyData := if k % 16 < 8 then badA.getD (k % 16).toNat .none else .list (((cellsB m).map PyData.int).set (k / 16 % 8).toNat ((badB m).getD (k % 16 - 8).toNat .none))
theorem badC_ok {k m : Int} (hm : 0 ≤ m) : lenOk (badC k m) ∧ isCt (badC k m) = false := by
  unfold badC
  have b0 := Int.emod_nonneg k (show (16 : Int) ≠ 0 by decide)
  have b1 := Int.emod_lt_of_pos k (show (0 : Int) < 16 by decide)
  split
  · obtain ⟨n, hn, n8⟩ : ∃ n : Nat, (k % 16).toNat = n ∧ n < 8 := ⟨_, rfl, by omega⟩
    rw [hn]
    match n, n8 with
    | 0, _ => exact ⟨trivial, rfl⟩
    | 1, _ => exact ⟨by show 8 ≤ 100000; decide, rfl⟩
    | 2, _ => exact ⟨trivial, rfl⟩
    | 3, _ => exact ⟨trivial, rfl⟩
    | 4, _ => exact ⟨trivial, rfl⟩
    | 5, _ => exact ⟨by show 0 ≤ 100000; decide, rfl⟩
    | 6, _ => exact ⟨by show 7 ≤ 100000; decide, rfl⟩
    | 7, _ => exact ⟨by show 9 ≤ 100000; decide, rfl⟩
  · obtain ⟨n, hn, n8⟩ : ∃ n : Nat, (k % 16 - 8).toNat = n ∧ n < 8 := ⟨_, rfl, by omega⟩
    obtain ⟨j, hj, j8⟩ : ∃ j : Nat, (k / 16 % 8).toNat = j ∧ j < 8 := ⟨_, rfl, by omega⟩
    rw [hn, hj]
    have hb : isAmt ((badB m).getD n .none) = false := by
      match n, n8 with
      | 0, _ => rfl
      | 1, _ => rfl
      | 2, _ => exact decide_eq_false (show ¬ (0 ≤ -1 - m) by omega)
      | 3, _ => rfl
      | 4, _ => rfl
      | 5, _ => rfl
      | 6, _ => rfl
      | 7, _ => rfl
    generalize (badB m).getD n .none = d at *
    refine ⟨by show (((cellsB m).map PyData.int).set j d).length ≤ _; rw [List.length_set, List.length_map]; simp [cellsB], ?_⟩
    show (decide (_ = 8) && ((((cellsB m).map PyData.int).set j d).map isAmt).all id) = false
    rw [Bool.and_eq_false_iff]
    right
    rw [List.all_eq_false]
    refine ⟨false, ?_, by decide⟩
    rw [List.mem_map]
    refine ⟨d, List.mem_iff_getElem?.mpr ⟨j, ?_⟩, hb⟩
    rw [List.getElem?_set_self (by rw [List.length_map]; exact j8)]
def F_law_bad_counts : List PyData → PyData → Prop := fun ds d => ∃ k m, ds = [.int k, .int m] ∧ d = badC k m
theorem ok_law_bad_counts (T : Th K mg "_law_bad_counts" s_law_bad_counts ["_law_which", "_law_more"]) : Df P w K mg base CX0 "_law_bad_counts" 1 ["_law_which", "_law_more"] (spD K F_law_bad_counts) := by
  refine goW 0 T sc_law_bad_counts (fun ds d ⟨_, _, h, _⟩ => by rw [h]; rfl) fun f cdv A outer s H0 E hr hn nd ds d vs H Q ⟨k, m, h1, h2⟩ ha q => ?_
  subst h1 h2
  obtain ⟨n0, n1, n2, n3, _⟩ := hn
  have hvs : vs = [.int k, .int m] := dpa_ints [k, m] ha
  subst hvs
  have b0 := Int.emod_nonneg k (show (16 : Int) ≠ 0 by decide)
  have b1 := Int.emod_lt_of_pos k (show (0 : Int) < 16 by decide)
  refine w_set 2 nd n2 (f_lst (ds := badA) (s_cons (by keq_hits) (s_cons (x_repT (n := 8) (ds := [.int 1]) (by keq_hits) x_int ⟨by simp, by decide, by decide, by decide⟩) (s_cons (by keq_hits) (s_cons x_dict0 (s_cons (by keq_hits) (s_cons (by keq_hits)
    (s_cons (gd_is (f_rep (n := 7) (f_lst (ds := [.int 1]) (by ke_read) (by simp)).fk x_int (by decide)).fk.kd (by rfl)) (s_cons (gd_is (f_rep (n := 9) (f_lst (ds := [.int 1]) (by ke_read) (by simp)).fk x_int (by decide)).fk.kd (by rfl)) s_nil)))))))) (by decide)) fun v2 H1 e1 hv2 => ?_
  refine g_when (t := decide (k % 16 < 8)) (by kcf_m) (fun z H2 e2 => ?_) fun z H2 e2 => ?_
  · have z' := of_dec z
    have e : badC k m = badA.getD (k % 16).toNat .none := by unfold badC; rw [if_pos z']
    rw [e] at q
    exact g_retD (x_ixL (x_var 2 n2 rfl (dp_mono e2 hv2.tq.dq)) (by keq_hits) (atI_nat b0 (get_some (by show _ < 8; omega)))) rfl fun v3 H3 e3 r => q v3 H3 ((e1.trans e2).trans e3) r
  · have z' := of_ndec z
    have e : badC k m = .list (((cellsB m).map PyData.int).set (k / 16 % 8).toNat ((badB m).getD (k % 16 - 8).toNat .none)) := by unfold badC; rw [if_neg z']
    rw [e] at q
    clear e
    refine g_set 3 nd n3 (f_lst (ds := (cellsB m).map .int) (by ke_read) (by simp [cellsB])) fun v3 H3 e3 ⟨l, ws, ev, hl0, hl1, hws⟩ => ?_
    subst ev
    have hws' := dpa_ints (cellsB m) hws
    subst hws'
    have kd : CDivW k 16 := ⟨by decide, by decide⟩
    obtain ⟨j, hj, j8⟩ : ∃ j : Nat, k / 16 % 8 = (j : Int) ∧ j < 8 := ⟨(k / 16 % 8).toNat, by omega, by omega⟩
    obtain ⟨n, hn', n8⟩ : ∃ n : Nat, k % 16 - 8 = (n : Int) ∧ n < 8 := ⟨(k % 16 - 8).toNat, by omega, by omega⟩
    rw [hj, hn', Int.toNat_natCast, Int.toNat_natCast] at q
    refine g_setItem (l := l) (n := k / 16 % 8) (j := j) (R := fun v H' => Dq K H' v ((badB m).getD n .none)) (x_ixL (ds := badB m) (x_lst (s_cons (by keq_hits) (s_cons (by keq_hits) (s_cons (by keq_hits) (s_cons (by keq_hits) (s_cons (by keq_hits) (s_cons (by keq_hits) (s_cons (by keq_hits) (s_cons x_dict0 s_nil)))))))) (by simp [badB])) (gd_is (by keq_hits) (by rw [hn'])) (atI_nat (by omega) (by rw [Int.toNat_natCast]; exact get_some n8)))
      (x_varV 3 n3 rfl) (by keq_hits) hl1 (by rw [hj, List.length_map]; exact ixN_nat j8) (fun v H1 H2 z r => dp_mono z r) fun v8 H4 e4 hv8 => ?_
    have hl4 := e4 _ _ hl1
    have hset : Dq K (upd H4 l (.lst (((cellsB m).map V.int).set j v8))) v8 ((badB m).getD n .none) := by
      match n, n8, hv8 with
      | 0, _, h => exact dp_mut hl4 _ _ (by rfl) h
      | 1, _, h => exact dp_mut hl4 _ _ (by rfl) h
      | 2, _, h => exact dp_mut hl4 _ _ (by rfl) h
      | 3, _, h => exact dp_mut hl4 _ _ (by rfl) h
      | 4, _, h => exact dp_mut hl4 _ _ (by rfl) h
      | 5, _, h =>
        obtain ⟨p, xs, rfl, h1, h2⟩ := dp_lst h
        have h3 := dpa_mut (ys := ((cellsB m).map V.int).set j (.ref p)) hl4 _ _ (by rfl) h2
        rcases h1 with (h1 | ⟨o, h1⟩) | h1
        · have npl : p ≠ l := fun z => by
            subst z
            rw [hl4] at h1
            have e := HO.lst.inj (Option.some.inj h1)
            have q := dpa_len h2
            rw [← e] at q
            cases q
          exact .lst (SqL.of (by rw [upd_ne npl]; exact h1)) h3
        · have npl : p ≠ l := fun z => by
            subst z
            rw [hl4] at h1
            cases h1
          exact .lst (.inl (.inr ⟨o, by rw [upd_ne npl]; exact h1⟩)) h3
        · exact .lst (.inr h1) h3
      | 6, _, h => exact dp_mut hl4 _ _ (by rfl) h
      | 7, _, h => exact dp_mut hl4 _ _ (by rfl) h
    have hall : DqAll K (upd H4 l (.lst (((cellsB m).map V.int).set j v8))) (((cellsB m).map V.int).set j v8) (((cellsB m).map PyData.int).set j ((badB m).getD n .none)) := dpa_set hset j (dpa_of_ints _)
    have x4 : Ex H (upd H4 l (.lst (((cellsB m).map V.int).set j v8))) := ((e1.trans e2)).trans (Ex.mut (e3.trans e4) hl0)
    exact g_retD (x_var 3 n3 rfl (.lst (SqL.of upd_same) hall)) rfl fun v9 H5 e5 r => q v9 H5 (x4.trans e5) r

theorem sc_law_told : FnScope ["_law_kind", "_law_which", "_law_more", "_law_bad", "_law_counts", "_law_door", "error", "_law_found"] ["_law_kind", "_law_which", "_law_more"] (defScope s_law_told) := ⟨rfl, rfl, rfl, by decide +kernel, rfl, by decide +kernel, by decide +kernel⟩
def badLp (m : Int) : List PyData := [pr 0 0, pr (-1 - m) 2, pr 1 (-1 - m)]
def badM (m : Int) : List PyData := [.none, .str "1", .bool true, .bool false, .list [.int 1], .tuple [.int 1], .dict [], .int (-1), .int (-1 - m), .int (9 + m)]
theorem badLp_at {m : Int} (hm : 0 ≤ m) {n : Nat} (h : n < 3) : isLp ((badLp m).getD n .none) = false := by
  match n, h with
  | 0, _ => rfl
  | 1, _ =>
    show (decide _ && _) = false
    rw [decide_eq_false (by split <;> omega)]
    rfl
  | 2, _ =>
    show (decide _ && _) = false
    rw [decide_eq_false (by split <;> omega)]
    rfl
theorem badM_at {m : Int} (hm : 0 ≤ m) {n : Nat} (h : n < 9) : isAmt ((badM m).getD n .none) = false := by
  match n, h with
  | 0, _ => rfl
  | 1, _ => rfl
  | 2, _ => rfl
  | 3, _ => rfl
  | 4, _ => rfl
  | 5, _ => rfl
  | 6, _ => rfl
  | 7, _ => rfl
  | 8, _ => exact decide_eq_false (show ¬ (0 ≤ -1 - m) by omega)
def sumC : List Int := [0, 1, 2, 0, 0, 3, 1, 1]
theorem sumC_ok : CtOk 60000 sumC := ⟨rfl, fun c hc => by
  have z : (sumC.all fun c => decide (0 ≤ c) && decide (c.natAbs < 100)) = true := by decide +kernel
  have q := List.all_eq_true.mp z c hc
  rw [Bool.and_eq_true] at q
  exact ⟨of_decide_eq_true q.1, bdS (of_decide_eq_true q.2)⟩⟩
def F_law_told : List PyData → PyData → Prop := fun ds d => ∃ k h m, ds = [.int k, .int h, .int m] ∧ (0 ≤ k ∧ k < 4 ∧ 0 ≤ h ∧ h < 100000 ∧ 0 ≤ m ∧ m < 1000) ∧ d = .list [.bool (decide (k = 0)), .bool (decide (k = 1)), .bool (decide (1 < k)), .bool true]
theorem ok_law_told {CE CL CP CC : Addr} (B : Bu mg) (T : Th K mg "_law_told" s_law_told ["_law_kind", "_law_which", "_law_more"]) (EC : Ec K mg CE CL CP CC) (BL : Bc K mg "BadLeap" CL) (BP : Bc K mg "BadPlace" CP) (BC : Bc K mg "BadCount" CC)
    (d1 : Df P w K mg base CX0 "_law_pairs" 1 ["_law_which", "_law_more"] (spD K F_law_pairs)) (d2 : Df P w K mg base (L2.CX P w) "_law_with_leap" 8 ["_law_door", "_law_leap"] (spE K F_xwl CL)) (d3 : Df P w K mg base (L2.CX P w) "_law_with_place" 8 ["_law_door", "_law_place"] (spE K F_xwp CP))
    (d4 : Df P w K mg base CX0 "_law_bad_counts" 1 ["_law_which", "_law_more"] (spD K F_law_bad_counts)) (d5 : Df P w K mg base (L2.CX P w) "place_of" 6 ["leap", "counts"] (spE K F_xCt2 CC)) (d6 : Df P w K mg base (L2.CX P w) "behind" 7 ["leap", "counts", "many"] (spE K F_xCt3 CC))
    (d7 : Df P w K mg base (L2.CX P w) "behind" 7 ["leap", "counts", "many"] (spE K F_xAm3 CC)) (d8 : Df P w K mg base (L2.CX P w) "behind" 7 ["leap", "counts", "many"] (spE K F_xSm3 CC)) (d9 : Df P w K mg base (L2.CX P w) "places" 4 ["many"] (spE K F_xAm CC)) (d10 : Df P w K mg base (L2.CX P w) "within" 4 ["many"] (spE K F_xAm CC)) :
    Df P w K mg base CX0 "_law_told" 9 ["_law_kind", "_law_which", "_law_more"] (spD K F_law_told) := by
  refine Df.go 8 T sc_law_told (fun ds d ⟨_, _, _, h, _⟩ => by rw [h]; rfl) fun f cdv A outer s H0 E hr hn nd ds d vs H Q ⟨k, h, m, h1, ⟨k0, k4, h0, h5, m0, m3⟩, h2⟩ ha q => ?_
  subst h1 h2
  obtain ⟨n0, n1, n2, n3, n4, n5, n6, n7, _⟩ := hn
  have hvs : vs = [.int k, .int h, .int m] := dpa_ints [k, h, m] ha
  subst hvs
  refine g_try (n := "error") (x := "LeapError") (c := .ref CE) nd n6 ⟨rfl, by decide, .inl EC.gE⟩ fun W pn xe tk po hW => ?_
  have suite : ∀ {C : Addr} {nm : Str} (BX : Bc K mg nm C) {b1 b2 b3 : Bool} (em : PySem.W.exmOne K (.ref C) (.ref CE) = some true) (k1 : PySem.W.kitOne K (.ref C) (.ref CL) = some b1) (k2 : PySem.W.kitOne K (.ref C) (.ref CP) = some b2) (k3 : PySem.W.kitOne K (.ref C) (.ref CC) = some b3) (kv : PySem.W.kitOne K (.ref C) (.type "ValueError") = some true)
      (e1 : b1 = decide (k = 0)) (e2 : b2 = decide (k = 1)) (e3 : b3 = decide (1 < k)) {s0 s1 s2 s3 s4 s5 s6 s7 : Option V} {H' : Hp}, Ex H H' → W (.ref C) none [s0, s1, s2, s3, s4, s5, s6, s7] H' := by
    intro C nm BX b1 b2 b3 em k1 k2 k3 kv e1 e2 e3 s0 s1 s2 s3 s4 s5 s6 s7 H' x'
    subst e1 e2 e3
    refine hW (.ref C) none _ H' em fun a oe pn' hna hz hf => ?_
    refine g_set 7 nd n7 (f_lst (ds := [.bool (decide (k = 0)), .bool (decide (k = 1)), .bool (decide (1 < k))]) (s_cons (x_isE BX.xc hz hf (x_varV 6 n6 rfl) (x_cls BL.gC) (fun u r => r) k1 B.isinstance) (s_cons (x_isE BX.xc hz hf (x_varV 6 n6 rfl) (x_cls BP.gC) (fun u r => r) k2 B.isinstance) (s_cons (x_isE BX.xc hz hf (x_varV 6 n6 rfl) (x_cls BC.gC) (fun u r => r) k3 B.isinstance) s_nil))) (by simp)) fun v7 H2 z2 hv7 => ?_
    exact g_ret (f_cat (k_var 7 n7 rfl hv7.tq) (f_lst (ds := [.bool true]) (s_cons (x_isE BX.xc hz hf (x_varV 6 n6 rfl) (x_ty EC.zV boot_ValueError) (fun u r => r) kv B.isinstance) s_nil) (by simp)).fk (by simp)) fun v8 H3 z3 r => q v8 H3 ((x'.trans z2).trans z3) r.tq.dq
  have lk : (pairsA ++ pairsB m).length = 15 := rfl
  have pget : (pairsA ++ pairsB m)[(h % 15).toNat]? = some ((pairsA ++ pairsB m).getD (h % 15).toNat .none) := get_some (by rw [lk]; omega)
  have pbad : isPl ((pairsA ++ pairsB m).getD (h % 15).toNat .none) = false := pairs_bad _ (List.mem_of_getElem? pget)
  generalize (pairsA ++ pairsB m).getD (h % 15).toNat .none = pd at *
  refine g_if (t := decide (k = 0)) (by kcf_m) (fun z H1 e1 => ?_) fun z H1 e1 => ?_
  · have z' := of_dec z
    have kd64 : CDivW h 64 := ⟨by decide, by decide⟩
    have kd16 : CDivW h 16 := ⟨by decide, by decide⟩
    refine g_set 3 nd n3 (R := fun v H' => Dq K H' v pd) (x_call d1 hr (by decide) pass0 (by ke_read) ⟨h, m, rfl, pget⟩) fun v3 H2 e2 hv3 => ?_
    refine g_ifC (t := decide (h % 16 = 15)) (fun σ' H' => ∃ v d, σ' = [some (.int k), some (.int h), some (.int m), some v, none, none, none, none] ∧ Ex H H' ∧ Dq K H' v d ∧ isLp d = false) (by kcf_m) (fun _ H3 e3 => ?_) (fun _ H3 e3 => g_nil ⟨v3, pd, rfl, (e1.trans e2).trans e3, dp_mono e3 hv3, isLp_of pbad⟩) fun σ' H3 ⟨v, d, hσ, x3, hd, hb⟩ => ?_
    · obtain ⟨n, hn', n3'⟩ : ∃ n : Nat, h / 64 % 3 = (n : Int) ∧ n < 3 := ⟨(h / 64 % 3).toNat, by omega, by omega⟩
      refine g_set 3 nd n3 (R := fun v H' => Dq K H' v ((badLp m).getD n .none)) (x_ixL (ds := badLp m) (x_lst (by ke_read) (by simp [badLp])) (gd_is (by keq_hits) (by rw [hn'])) (atI_nat (by omega) (by rw [Int.toNat_natCast]; exact get_some n3'))) fun v4 H4 e4 hv4 => g_nil ⟨v4, _, rfl, ((e1.trans e2).trans e3).trans e4, hv4, badLp_at m0 n3'⟩
    · subst hσ
      exact g_expr (R := fun _ _ => False) (x_callX d2 hr (by decide) tk (fun H4 x4 => suite BL EC.eL EC.kLL EC.kLP EC.kLC EC.vL (by rw [z']; rfl) (by rw [z']; rfl) (by rw [z']; rfl) (x3.trans x4)) (s_cons (by keq_hits) (s_cons (x_var 3 n3 rfl hd) s_nil)) ⟨_, d, rfl, hb⟩) fun _ _ _ z => z.elim
  · have z0 := of_ndec z
    refine g_if (t := decide (k = 1)) (by kcf_m) (fun z H2 e2 => ?_) fun z H2 e2 => ?_
    · have z' := of_dec z
      have kd15 : CDivW h 15 := ⟨by decide, by decide⟩
      exact g_expr (R := fun _ _ => False) (x_callX d3 hr (by decide) tk (fun H4 x4 => suite BP EC.eP EC.kPL EC.kPP EC.kPC EC.vP (by rw [z']; rfl) (by rw [z']; rfl) (by rw [z']; rfl) ((e1.trans e2).trans x4)) (s_cons (by keq_hits) (s_cons (x_call d1 hr (by decide) pass0 (by ke_read) ⟨h, m, rfl, pget⟩) s_nil)) ⟨_, pd, rfl, pbad⟩) fun _ _ _ z => z.elim
    · have z1 := of_ndec z
      have hC : ∀ {s0 s1 s2 s3 s4 s5 s6 s7 : Option V} {H' : Hp}, Ex H H' → W (.ref CC) none [s0, s1, s2, s3, s4, s5, s6, s7] H' := fun {_ _ _ _ _ _ _ _ _} x => suite BC EC.eC EC.kCL EC.kCP EC.kCC EC.vC (decide_eq_false z0).symm (decide_eq_false z1).symm (decide_eq_true (show 1 < k by omega)).symm x
      refine g_ifW (c := decide (k = 2)) (by kcf_m) (fun z H3 e3 => ?_) fun z H3 e3 => ?_
      · obtain ⟨b1, b2⟩ := badC_ok (k := h) m0
        have kd128 : CDivW h 128 := ⟨by decide, by decide⟩
        refine g_set 4 nd n4 (R := fun v H' => Dq K H' v (badC h m)) (x_call d4 hr (by decide) pass0 (by ke_read) ⟨h, m, rfl, rfl⟩) fun v4 H4 e4 hv4 => ?_
        have x14 := ((e1.trans e2).trans e3).trans e4
        exact g_expr (R := fun _ _ => False) (x_ifR (c := decide (h / 128 % 2 = 0)) (by kcf_m) (fun _ => x_callX d5 hr (by decide) tk (fun H5 x5 => hC (x14.trans x5)) (s_cons (by keq_hits) (s_cons (x_var 4 n4 rfl hv4) s_nil)) ⟨pr 1 2, _, rfl, by decide +kernel, b1, b2⟩)
          fun _ => x_callX d6 hr (by decide) tk (fun H5 x5 => hC (x14.trans x5)) (s_cons (by keq_hits) (s_cons (x_var 4 n4 rfl hv4) (by ke_read))) ⟨pr 1 2, _, _, rfl, by decide +kernel, b1, b2⟩) fun _ _ _ z => z.elim
      · obtain ⟨n, hn', n10⟩ : ∃ n : Nat, h % 10 = (n : Int) ∧ n < 10 := ⟨(h % 10).toNat, by omega, by omega⟩
        have kd10 : CDivW h 10 := ⟨by decide, by decide⟩
        refine w_set 3 nd n3 (R := fun v H' => Dq K H' v ((badM m).getD n .none)) (x_ixL (ds := badM m) (x_lst (s_cons (by keq_hits) (s_cons (by keq_hits) (s_cons (by keq_hits) (s_cons (by keq_hits) (s_cons (by keq_hits) (s_cons (by keq_hits) (s_cons x_dict0 (by ke_read)))))))) (by simp [badM])) (gd_is (by keq_hits) (by rw [hn'])) (atI_nat (by omega) (by rw [Int.toNat_natCast]; exact get_some n10))) fun v3 H4 e4 hv3 => ?_
        refine g_setI 5 nd n5 (n := h / 10 % 3) (by keq_hits) fun H5 e5 => ?_
        have x15 := (((e1.trans e2).trans e3).trans e4).trans e5
        have hv3' := dp_mono e5 hv3
        have lp1 : isLp (pr (1 + m) 2) = true := isLp_ok (by omega) (by omega) (by omega)
        refine g_if (t := decide (h / 10 % 3 = 0) || decide (h % 10 = 9)) (by kcf_m) (fun z H6 e6 => ?_) fun z H6 e6 => ?_
        · have g3 := dp_mono e6 hv3'
          by_cases n9 : n = 9
          · subst n9
            exact g_expr (R := fun _ _ => False) (x_callX d8 hr (by decide) tk (fun H7 x7 => hC ((x15.trans e6).trans x7)) (s_cons (by keq_hits) (s_cons (x_lst (ds := sumC.map .int) (by ke_read) (by decide)) (s_cons (x_var 3 n3 rfl g3) s_nil))) ⟨pr (1 + m) 2, sumC, 9 + m, rfl, lp1, sumC_ok, by omega, by show (8 : Int) < 9 + m; omega⟩) fun _ _ _ z => z.elim
          · exact g_expr (R := fun _ _ => False) (x_callX d7 hr (by decide) tk (fun H7 x7 => hC ((x15.trans e6).trans x7)) (s_cons (by keq_hits) (s_cons (x_lst (ds := sumC.map .int) (by ke_read) (by decide)) (s_cons (x_var 3 n3 rfl g3) s_nil))) ⟨pr (1 + m) 2, lsI sumC, _, rfl, lp1, by show 8 ≤ 100000; decide, isCt_ok sumC_ok, badM_at m0 (by omega)⟩) fun _ _ _ z => z.elim
        · rw [Bool.or_eq_false_iff] at z
          have n9 := of_decide_eq_false z.2
          have am := badM_at m0 (n := n) (by omega)
          refine g_if (t := decide (h / 10 % 3 = 1)) (by kcf_m) (fun _ H7 e7 => ?_) fun _ H7 e7 => ?_
          · exact g_expr (R := fun _ _ => False) (x_callX d9 hr (by decide) tk (fun H8 x8 => hC (((x15.trans e6).trans e7).trans x8)) (s_cons (x_var 3 n3 rfl (dp_mono (e6.trans e7) hv3')) s_nil) ⟨_, rfl, am⟩) fun _ _ _ z => z.elim
          · exact g_expr (R := fun _ _ => False) (x_callX d10 hr (by decide) tk (fun H8 x8 => hC (((x15.trans e6).trans e7).trans x8)) (s_cons (x_var 3 n3 rfl (dp_mono (e6.trans e7) hv3')) s_nil) ⟨_, rfl, am⟩) fun _ _ _ z => z.elim

theorem sc_law : FnScope ["_law_script", "_law_cell", "_law_kind", "_law_due"] ["_law_script"] (defScope s_law) := ⟨rfl, rfl, rfl, by decide +kernel, rfl, by decide +kernel, by decide +kernel⟩
def ScOk (ns : List Int) : Prop := ns.length ≤ 63 ∧ ∀ c ∈ ns, Bd bitsL c
def zeroC : List Int := [0, 0, 0, 0, 0, 0, 0, 0]
def threeC : List Int := [3, 0, 0, 0, 0, 0, 0, 0]
theorem smC_ok {cs : List Int} (hl : cs.length = 8) (z : (cs.all fun c => decide (0 ≤ c) && decide (c.natAbs < 100)) = true) : CtOk 60000 cs := ⟨hl, fun c hc => by
  have q := List.all_eq_true.mp z c hc
  rw [Bool.and_eq_true] at q
  exact ⟨of_decide_eq_true q.1, bdS (of_decide_eq_true q.2)⟩⟩
theorem told_shaped (b1 b2 b3 : Bool) : SeqAt.shaped (.list [.bool b1, .bool b2, .bool b3, .bool true]) = true ∧ PyData.eqv (.list [.bool b1, .bool b2, .bool b3, .bool true]) (.list [.bool b1, .bool b2, .bool b3, .bool true]) = true := by
  cases b1 <;> cases b2 <;> cases b3 <;> decide +kernel
def F_law : List PyData → PyData → Prop := fun ds d => ∃ ns, ds = [lsI ns] ∧ ScOk ns ∧ d = .bool true
theorem ok_law {f : Addr} {fd : FuncData} (B : Bu mg) (Fu : Fun K "law" "law" s_law f fd)
    (d1 : Df P w K mg base CX0 "_law_told" 9 ["_law_kind", "_law_which", "_law_more"] (spD K F_law_told)) (d2 : Df P w K mg base CX0 "behind" 7 ["leap", "counts", "many"] (spD K F_behind)) (d3 : Df P w K mg base CX0 "places" 4 ["many"] (spD K F_places)) :
    FnOk P w K mg base CX0 10 f fd ["_law_script"] (spD K F_law) := by
  refine fn_goD 9 Fu sc_law (fun ds d ⟨_, h, _⟩ => by rw [h]; rfl) fun cdv A outer s H0 E hr hn nd ds d vs H Q ⟨ns, h1, sc, h2⟩ ha k => ?_
  subst h1 h2
  obtain ⟨n0, n1, n2, n3, _⟩ := hn
  obtain ⟨v0, rfl, hv0⟩ := dp1 ha
  refine g_forLn 1 nd n1 (ds := ns.map .int) (x_var 0 n0 rfl hv0) (fun _ σ' _ => ∃ o1 o2 o3, σ' = [some v0, o1, o2, o3]) (fun _ _ => ⟨_, _, _, rfl⟩) PassesOwn.never (fun i d v σ' H1 hi x1 hd ⟨o1, o2, o3, hσ⟩ => ?_) fun σ' H1 x1 ⟨o1, o2, o3, hσ⟩ => ?_
  · subst hσ
    rw [List.getElem?_map] at hi
    obtain ⟨c, hc, rfl⟩ := Option.map_eq_some_iff.mp hi
    have hv := dp_int hd
    subst hv
    refine g_setI 2 nd n2 (n := c % 4) (by keq_hits) fun H2 e2 => ?_
    have kd4 : CDivW c 4 := ⟨by decide, by decide⟩
    have kd400 : CDivW c 400000 := ⟨by decide, by decide⟩
    have r4 : 0 ≤ c % 4 ∧ c % 4 < 4 := by omega
    have rh : 0 ≤ c / 4 % 100000 ∧ c / 4 % 100000 < 100000 := by omega
    have rm : 0 ≤ c / 400000 % 1000 ∧ c / 400000 % 1000 < 1000 := by omega
    have sh := told_shaped (decide (c % 4 = 0)) (decide (c % 4 = 1)) (decide (1 < c % 4))
    refine g_set 3 nd n3 (R := fun v H' => Dq K H' v (.list [.bool (decide (c % 4 = 0)), .bool (decide (c % 4 = 1)), .bool (decide (1 < c % 4)), .bool true])) (x_lst (by ke_read) (by simp)) fun v3 H3 e3 hv3 => ?_
    refine g_when (t := !PyData.eqv (.list [.bool (decide (c % 4 = 0)), .bool (decide (c % 4 = 1)), .bool (decide (1 < c % 4)), .bool true]) (.list [.bool (decide (c % 4 = 0)), .bool (decide (c % 4 = 1)), .bool (decide (1 < c % 4)), .bool true])) (t_cmpR (op_neD hr.units) (rd_neD sh.1 sh.1) (x_call d1 hr (by decide) pass0 (s_cons (by keq_hits) (s_cons (by keq_hits) (s_cons (by keq_hits) s_nil))) ⟨c % 4, c / 4 % 100000, c / 400000 % 1000, rfl, ⟨r4.1, r4.2, rh.1, rh.2, rm.1, rm.2⟩, rfl⟩) (x_var 3 n3 rfl hv3) (nomark _)) (fun z => ?_) fun _ H4 e4 => g_nil ⟨(e2.trans e3).trans e4, _, _, _, rfl⟩
    rw [sh.2] at z
    cases z
  · subst hσ
    refine g_retD (d := .bool (PyData.eqv (pr (led 1 2 (firstL zeroC 0)).1 (led 1 2 (firstL zeroC 0)).2) (pr 0 0) && (PyData.eqv (pr (led 0 5 (firstL threeC 3)).1 (led 0 5 (firstL threeC 3)).2) (pr 0 15) && decide (placesN 0 = 1)))) (x_and (x_eqD hr.units
      (x_call d2 hr (by decide) pass0 (s_cons (by keq_hits) (s_cons (gd_is (d' := lsI zeroC) (f_rep (n := 8) (f_lst (ds := [.int 0]) (by ke_read) (by simp)).fk x_int (by decide)).fk.kd (by rfl)) (s_cons x_int s_nil))) ⟨1, 2, zeroC, 0, rfl, ⟨by decide +kernel, bdS (by decide), bdS (by decide), smC_ok rfl (by decide +kernel), by decide, by decide⟩, rfl⟩) (by keq_hits) (by decide +kernel) (by decide +kernel))
      fun _ => x_and (x_eqD hr.units
      (x_call d2 hr (by decide) pass0 (s_cons (by keq_hits) (s_cons (gd_is (d' := lsI threeC) (f_cat (f_lst (ds := [.int 3]) (by ke_read) (by simp)).fk (f_rep (n := 7) (f_lst (ds := [.int 0]) (by ke_read) (by simp)).fk x_int (by decide)).fk (by decide)).fk.kd (by rfl)) (s_cons x_int s_nil))) ⟨0, 5, threeC, 3, rfl, ⟨by decide +kernel, bdS (by decide), bdS (by decide), smC_ok rfl (by decide +kernel), by decide, by decide⟩, rfl⟩) (by keq_hits) (by decide +kernel) (by decide +kernel))
      fun _ => x_and1 (x_eqI (x_call d3 hr (by decide) pass0 (by ke_read) ⟨0, rfl, ⟨by decide, bdS (by decide)⟩, rfl⟩) x_int)) (congrArg PyData.bool (by decide +kernel)) fun v2 H5 e5 r => k v2 H5 (x1.trans e5) r
/-! ### what the top has written -/
theorem all_mk {l : PySem.W.OpenLaw} {w : World} {K : PySem.W.Frag} {h : Heap} {mg : Str → Option Value} {fa f_0 f_1 f_2 f_3 f_4 f_5 f_6 f_7 f_8 f_9 f_10 f_11 f_12 f_13 f_14 f_15 f_16 f_17 f_18 f_19 f_20 f_21 f_22 f_23 CE CL CP CC dP : Addr} (X : K.In h) (G : h.Ns mainGlobals mg) (hfa : mg "law" = some (.ref fa))
    {oc_0 kV_0 dc_0 pm_0 cd_0 ct_0 : Value} {od_0 an_0 : Option Addr} {sl_0 : Array (Option Value)}
    {oc_1 kV_1 dc_1 pm_1 cd_1 ct_1 : Value} {od_1 an_1 : Option Addr} {sl_1 : Array (Option Value)}
    {oc_2 kV_2 dc_2 pm_2 cd_2 ct_2 : Value} {od_2 an_2 : Option Addr} {sl_2 : Array (Option Value)}
    {oc_3 kV_3 dc_3 pm_3 cd_3 ct_3 : Value} {od_3 an_3 : Option Addr} {sl_3 : Array (Option Value)}
    {oc_4 kV_4 dc_4 pm_4 cd_4 ct_4 : Value} {od_4 an_4 : Option Addr} {sl_4 : Array (Option Value)}
    {oc_5 kV_5 dc_5 pm_5 cd_5 ct_5 : Value} {od_5 an_5 : Option Addr} {sl_5 : Array (Option Value)}
    {oc_6 kV_6 dc_6 pm_6 cd_6 ct_6 : Value} {od_6 an_6 : Option Addr} {sl_6 : Array (Option Value)}
    {oc_7 kV_7 dc_7 pm_7 cd_7 ct_7 : Value} {od_7 an_7 : Option Addr} {sl_7 : Array (Option Value)}
    {oc_8 kV_8 dc_8 pm_8 cd_8 ct_8 : Value} {od_8 an_8 : Option Addr} {sl_8 : Array (Option Value)}
    {oc_9 kV_9 dc_9 pm_9 cd_9 ct_9 : Value} {od_9 an_9 : Option Addr} {sl_9 : Array (Option Value)}
    {oc_10 kV_10 dc_10 pm_10 cd_10 ct_10 : Value} {od_10 an_10 : Option Addr} {sl_10 : Array (Option Value)}
    {oc_11 kV_11 dc_11 pm_11 cd_11 ct_11 : Value} {od_11 an_11 : Option Addr} {sl_11 : Array (Option Value)}
    {oc_12 kV_12 dc_12 pm_12 cd_12 ct_12 : Value} {od_12 an_12 : Option Addr} {sl_12 : Array (Option Value)}
    {oc_13 kV_13 dc_13 pm_13 cd_13 ct_13 : Value} {od_13 an_13 : Option Addr} {sl_13 : Array (Option Value)}
    {oc_14 kV_14 dc_14 pm_14 cd_14 ct_14 : Value} {od_14 an_14 : Option Addr} {sl_14 : Array (Option Value)}
    {oc_15 kV_15 dc_15 pm_15 cd_15 ct_15 : Value} {od_15 an_15 : Option Addr} {sl_15 : Array (Option Value)}
    {oc_16 kV_16 dc_16 pm_16 cd_16 ct_16 : Value} {od_16 an_16 : Option Addr} {sl_16 : Array (Option Value)}
    {oc_17 kV_17 dc_17 pm_17 cd_17 ct_17 : Value} {od_17 an_17 : Option Addr} {sl_17 : Array (Option Value)}
    {oc_18 kV_18 dc_18 pm_18 cd_18 ct_18 : Value} {od_18 an_18 : Option Addr} {sl_18 : Array (Option Value)}
    {oc_19 kV_19 dc_19 pm_19 cd_19 ct_19 : Value} {od_19 an_19 : Option Addr} {sl_19 : Array (Option Value)}
    {oc_20 kV_20 dc_20 pm_20 cd_20 ct_20 : Value} {od_20 an_20 : Option Addr} {sl_20 : Array (Option Value)}
    {oc_21 kV_21 dc_21 pm_21 cd_21 ct_21 : Value} {od_21 an_21 : Option Addr} {sl_21 : Array (Option Value)}
    {oc_22 kV_22 dc_22 pm_22 cd_22 ct_22 : Value} {od_22 an_22 : Option Addr} {sl_22 : Array (Option Value)}
    {oc_23 kV_23 dc_23 pm_23 cd_23 ct_23 : Value} {od_23 an_23 : Option Addr} {sl_23 : Array (Option Value)}
    (jn : PySem.W.specialIn K (.builtin "object.__class__") "__get__" = some (some (.builtin "getset_descriptor.__get__"))) (jt : PySem.W.takesIn K (.builtin "object.__class__") = some true)
    (a_0 : PySem.W.nsIn K mainGlobals "behind" = some (some (.ref f_0)))
    (l_0 : K.lookup f_0 = some ⟨oc_0, od_0, .func (PySem.W.fnOf "behind" "behind" (defArgs s_behind) (defBody s_behind) (defScope s_behind) .none kV_0 dc_0 pm_0 an_0 cd_0 ct_0), sl_0⟩) (c_0 : PySem.W.codeIn K cd_0 "behind" = true) (k_0 : PySem.W.keepIn K (.ref f_0) = true)
    (a_1 : PySem.W.nsIn K mainGlobals "eight" = some (some (.ref f_1)))
    (l_1 : K.lookup f_1 = some ⟨oc_1, od_1, .func (PySem.W.fnOf "eight" "eight" (defArgs s_eight) (defBody s_eight) (defScope s_eight) .none kV_1 dc_1 pm_1 an_1 cd_1 ct_1), sl_1⟩) (c_1 : PySem.W.codeIn K cd_1 "eight" = true) (k_1 : PySem.W.keepIn K (.ref f_1) = true)
    (a_2 : PySem.W.nsIn K mainGlobals "fewest" = some (some (.ref f_2)))
    (l_2 : K.lookup f_2 = some ⟨oc_2, od_2, .func (PySem.W.fnOf "fewest" "fewest" (defArgs s_fewest) (defBody s_fewest) (defScope s_fewest) .none kV_2 dc_2 pm_2 an_2 cd_2 ct_2), sl_2⟩) (c_2 : PySem.W.codeIn K cd_2 "fewest" = true) (k_2 : PySem.W.keepIn K (.ref f_2) = true)
    (a_3 : PySem.W.nsIn K mainGlobals "first_of" = some (some (.ref f_3)))
    (l_3 : K.lookup f_3 = some ⟨oc_3, od_3, .func (PySem.W.fnOf "first_of" "first_of" (defArgs s_first_of) (defBody s_first_of) (defScope s_first_of) .none kV_3 dc_3 pm_3 an_3 cd_3 ct_3), sl_3⟩) (c_3 : PySem.W.codeIn K cd_3 "first_of" = true) (k_3 : PySem.W.keepIn K (.ref f_3) = true)
    (a_4 : PySem.W.nsIn K mainGlobals "is_amount" = some (some (.ref f_4)))
    (l_4 : K.lookup f_4 = some ⟨oc_4, od_4, .func (PySem.W.fnOf "is_amount" "is_amount" (defArgs s_is_amount) (defBody s_is_amount) (defScope s_is_amount) .none kV_4 dc_4 pm_4 an_4 cd_4 ct_4), sl_4⟩) (c_4 : PySem.W.codeIn K cd_4 "is_amount" = true) (k_4 : PySem.W.keepIn K (.ref f_4) = true)
    (a_5 : PySem.W.nsIn K mainGlobals "is_counts" = some (some (.ref f_5)))
    (l_5 : K.lookup f_5 = some ⟨oc_5, od_5, .func (PySem.W.fnOf "is_counts" "is_counts" (defArgs s_is_counts) (defBody s_is_counts) (defScope s_is_counts) .none kV_5 dc_5 pm_5 an_5 cd_5 ct_5), sl_5⟩) (c_5 : PySem.W.codeIn K cd_5 "is_counts" = true) (k_5 : PySem.W.keepIn K (.ref f_5) = true)
    (a_6 : PySem.W.nsIn K mainGlobals "is_leap" = some (some (.ref f_6)))
    (l_6 : K.lookup f_6 = some ⟨oc_6, od_6, .func (PySem.W.fnOf "is_leap" "is_leap" (defArgs s_is_leap) (defBody s_is_leap) (defScope s_is_leap) .none kV_6 dc_6 pm_6 an_6 cd_6 ct_6), sl_6⟩) (c_6 : PySem.W.codeIn K cd_6 "is_leap" = true) (k_6 : PySem.W.keepIn K (.ref f_6) = true)
    (a_7 : PySem.W.nsIn K mainGlobals "is_place" = some (some (.ref f_7)))
    (l_7 : K.lookup f_7 = some ⟨oc_7, od_7, .func (PySem.W.fnOf "is_place" "is_place" (defArgs s_is_place) (defBody s_is_place) (defScope s_is_place) .none kV_7 dc_7 pm_7 an_7 cd_7 ct_7), sl_7⟩) (c_7 : PySem.W.codeIn K cd_7 "is_place" = true) (k_7 : PySem.W.keepIn K (.ref f_7) = true)
    (a_8 : PySem.W.nsIn K mainGlobals "is_whole" = some (some (.ref f_8)))
    (l_8 : K.lookup f_8 = some ⟨oc_8, od_8, .func (PySem.W.fnOf "is_whole" "is_whole" (defArgs s_is_whole) (defBody s_is_whole) (defScope s_is_whole) .none kV_8 dc_8 pm_8 an_8 cd_8 ct_8), sl_8⟩) (c_8 : PySem.W.codeIn K cd_8 "is_whole" = true) (k_8 : PySem.W.keepIn K (.ref f_8) = true)
    (a_9 : PySem.W.nsIn K mainGlobals "_law_bad_counts" = some (some (.ref f_9)))
    (l_9 : K.lookup f_9 = some ⟨oc_9, od_9, .func (PySem.W.fnOf "_law_bad_counts" "_law_bad_counts" (defArgs s_law_bad_counts) (defBody s_law_bad_counts) (defScope s_law_bad_counts) .none kV_9 dc_9 pm_9 an_9 cd_9 ct_9), sl_9⟩) (c_9 : PySem.W.codeIn K cd_9 "_law_bad_counts" = true) (k_9 : PySem.W.keepIn K (.ref f_9) = true)
    (a_10 : PySem.W.nsIn K mainGlobals "_law_pairs" = some (some (.ref f_10)))
    (l_10 : K.lookup f_10 = some ⟨oc_10, od_10, .func (PySem.W.fnOf "_law_pairs" "_law_pairs" (defArgs s_law_pairs) (defBody s_law_pairs) (defScope s_law_pairs) .none kV_10 dc_10 pm_10 an_10 cd_10 ct_10), sl_10⟩) (c_10 : PySem.W.codeIn K cd_10 "_law_pairs" = true) (k_10 : PySem.W.keepIn K (.ref f_10) = true)
    (a_11 : PySem.W.nsIn K mainGlobals "_law_told" = some (some (.ref f_11)))
    (l_11 : K.lookup f_11 = some ⟨oc_11, od_11, .func (PySem.W.fnOf "_law_told" "_law_told" (defArgs s_law_told) (defBody s_law_told) (defScope s_law_told) .none kV_11 dc_11 pm_11 an_11 cd_11 ct_11), sl_11⟩) (c_11 : PySem.W.codeIn K cd_11 "_law_told" = true) (k_11 : PySem.W.keepIn K (.ref f_11) = true)
    (a_12 : PySem.W.nsIn K mainGlobals "_law_with_leap" = some (some (.ref f_12)))
    (l_12 : K.lookup f_12 = some ⟨oc_12, od_12, .func (PySem.W.fnOf "_law_with_leap" "_law_with_leap" (defArgs s_law_with_leap) (defBody s_law_with_leap) (defScope s_law_with_leap) .none kV_12 dc_12 pm_12 an_12 cd_12 ct_12), sl_12⟩) (c_12 : PySem.W.codeIn K cd_12 "_law_with_leap" = true) (k_12 : PySem.W.keepIn K (.ref f_12) = true)
    (a_13 : PySem.W.nsIn K mainGlobals "_law_with_place" = some (some (.ref f_13)))
    (l_13 : K.lookup f_13 = some ⟨oc_13, od_13, .func (PySem.W.fnOf "_law_with_place" "_law_with_place" (defArgs s_law_with_place) (defBody s_law_with_place) (defScope s_law_with_place) .none kV_13 dc_13 pm_13 an_13 cd_13 ct_13), sl_13⟩) (c_13 : PySem.W.codeIn K cd_13 "_law_with_place" = true) (k_13 : PySem.W.keepIn K (.ref f_13) = true)
    (a_14 : PySem.W.nsIn K mainGlobals "need_amount" = some (some (.ref f_14)))
    (l_14 : K.lookup f_14 = some ⟨oc_14, od_14, .func (PySem.W.fnOf "need_amount" "need_amount" (defArgs s_need_amount) (defBody s_need_amount) (defScope s_need_amount) .none kV_14 dc_14 pm_14 an_14 cd_14 ct_14), sl_14⟩) (c_14 : PySem.W.codeIn K cd_14 "need_amount" = true) (k_14 : PySem.W.keepIn K (.ref f_14) = true)
    (a_15 : PySem.W.nsIn K mainGlobals "need_counts" = some (some (.ref f_15)))
    (l_15 : K.lookup f_15 = some ⟨oc_15, od_15, .func (PySem.W.fnOf "need_counts" "need_counts" (defArgs s_need_counts) (defBody s_need_counts) (defScope s_need_counts) .none kV_15 dc_15 pm_15 an_15 cd_15 ct_15), sl_15⟩) (c_15 : PySem.W.codeIn K cd_15 "need_counts" = true) (k_15 : PySem.W.keepIn K (.ref f_15) = true)
    (a_16 : PySem.W.nsIn K mainGlobals "need_leap" = some (some (.ref f_16)))
    (l_16 : K.lookup f_16 = some ⟨oc_16, od_16, .func (PySem.W.fnOf "need_leap" "need_leap" (defArgs s_need_leap) (defBody s_need_leap) (defScope s_need_leap) .none kV_16 dc_16 pm_16 an_16 cd_16 ct_16), sl_16⟩) (c_16 : PySem.W.codeIn K cd_16 "need_leap" = true) (k_16 : PySem.W.keepIn K (.ref f_16) = true)
    (a_17 : PySem.W.nsIn K mainGlobals "need_place" = some (some (.ref f_17)))
    (l_17 : K.lookup f_17 = some ⟨oc_17, od_17, .func (PySem.W.fnOf "need_place" "need_place" (defArgs s_need_place) (defBody s_need_place) (defScope s_need_place) .none kV_17 dc_17 pm_17 an_17 cd_17 ct_17), sl_17⟩) (c_17 : PySem.W.codeIn K cd_17 "need_place" = true) (k_17 : PySem.W.keepIn K (.ref f_17) = true)
    (a_18 : PySem.W.nsIn K mainGlobals "place_of" = some (some (.ref f_18)))
    (l_18 : K.lookup f_18 = some ⟨oc_18, od_18, .func (PySem.W.fnOf "place_of" "place_of" (defArgs s_place_of) (defBody s_place_of) (defScope s_place_of) .none kV_18 dc_18 pm_18 an_18 cd_18 ct_18), sl_18⟩) (c_18 : PySem.W.codeIn K cd_18 "place_of" = true) (k_18 : PySem.W.keepIn K (.ref f_18) = true)
    (a_19 : PySem.W.nsIn K mainGlobals "places" = some (some (.ref f_19)))
    (l_19 : K.lookup f_19 = some ⟨oc_19, od_19, .func (PySem.W.fnOf "places" "places" (defArgs s_places) (defBody s_places) (defScope s_places) .none kV_19 dc_19 pm_19 an_19 cd_19 ct_19), sl_19⟩) (c_19 : PySem.W.codeIn K cd_19 "places" = true) (k_19 : PySem.W.keepIn K (.ref f_19) = true)
    (a_20 : PySem.W.nsIn K mainGlobals "shortest" = some (some (.ref f_20)))
    (l_20 : K.lookup f_20 = some ⟨oc_20, od_20, .func (PySem.W.fnOf "shortest" "shortest" (defArgs s_shortest) (defBody s_shortest) (defScope s_shortest) .none kV_20 dc_20 pm_20 an_20 cd_20 ct_20), sl_20⟩) (c_20 : PySem.W.codeIn K cd_20 "shortest" = true) (k_20 : PySem.W.keepIn K (.ref f_20) = true)
    (a_21 : PySem.W.nsIn K mainGlobals "told" = some (some (.ref f_21)))
    (l_21 : K.lookup f_21 = some ⟨oc_21, od_21, .func (PySem.W.fnOf "told" "told" (defArgs s_told) (defBody s_told) (defScope s_told) .none kV_21 dc_21 pm_21 an_21 cd_21 ct_21), sl_21⟩) (c_21 : PySem.W.codeIn K cd_21 "told" = true) (k_21 : PySem.W.keepIn K (.ref f_21) = true)
    (a_22 : PySem.W.nsIn K mainGlobals "within" = some (some (.ref f_22)))
    (l_22 : K.lookup f_22 = some ⟨oc_22, od_22, .func (PySem.W.fnOf "within" "within" (defArgs s_within) (defBody s_within) (defScope s_within) .none kV_22 dc_22 pm_22 an_22 cd_22 ct_22), sl_22⟩) (c_22 : PySem.W.codeIn K cd_22 "within" = true) (k_22 : PySem.W.keepIn K (.ref f_22) = true)
    (a_23 : PySem.W.nsIn K mainGlobals "law" = some (some (.ref f_23)))
    (l_23 : K.lookup f_23 = some ⟨oc_23, od_23, .func (PySem.W.fnOf "law" "law" (defArgs s_law) (defBody s_law) (defScope s_law) .none kV_23 dc_23 pm_23 an_23 cd_23 ct_23), sl_23⟩) (c_23 : PySem.W.codeIn K cd_23 "law" = true) (k_23 : PySem.W.keepIn K (.ref f_23) = true)
    (xAE : PySem.W.nsIn K mainGlobals "LeapError" = some (some (.ref CE)))
    (xRE : PySem.W.subIn K (.ref CE) (.type "BaseException") = some true)
    (xTE : PySem.W.typeIn K (.ref CE) = some (.type "type"))
    (xHE : PySem.W.hasDictIn K CE = true)
    (xAL : PySem.W.nsIn K mainGlobals "BadLeap" = some (some (.ref CL)))
    (xRL : PySem.W.subIn K (.ref CL) (.type "BaseException") = some true)
    (xTL : PySem.W.typeIn K (.ref CL) = some (.type "type"))
    (xHL : PySem.W.hasDictIn K CL = true)
    (xXL : PySem.W.excIn K CL PySem.HandSPX.veTail "ValueError.__new__" = true)
    (xKL : PySem.W.keepIn K (.ref CL) = true)
    (xGL : PySem.W.findIn K (.ref CL) "__getattribute__" = some (some (.builtin "BaseException.__getattribute__")))
    (xNL : PySem.W.findIn K (.ref CL) "__getattr__" = some none)
    (xCL : PySem.W.findIn K (.ref CL) "__class__" = some (some (.builtin "object.__class__")))
    (xML : PySem.W.mroIn K CL (.type "object") = some true)
    (xSL : PySem.W.subIn K (.ref CL) (.ref CE) = some true)
    (xAP : PySem.W.nsIn K mainGlobals "BadPlace" = some (some (.ref CP)))
    (xRP : PySem.W.subIn K (.ref CP) (.type "BaseException") = some true)
    (xTP : PySem.W.typeIn K (.ref CP) = some (.type "type"))
    (xHP : PySem.W.hasDictIn K CP = true)
    (xXP : PySem.W.excIn K CP PySem.HandSPX.veTail "ValueError.__new__" = true)
    (xKP : PySem.W.keepIn K (.ref CP) = true)
    (xGP : PySem.W.findIn K (.ref CP) "__getattribute__" = some (some (.builtin "BaseException.__getattribute__")))
    (xNP : PySem.W.findIn K (.ref CP) "__getattr__" = some none)
    (xCP : PySem.W.findIn K (.ref CP) "__class__" = some (some (.builtin "object.__class__")))
    (xMP : PySem.W.mroIn K CP (.type "object") = some true)
    (xSP : PySem.W.subIn K (.ref CP) (.ref CE) = some true)
    (xAC : PySem.W.nsIn K mainGlobals "BadCount" = some (some (.ref CC)))
    (xRC : PySem.W.subIn K (.ref CC) (.type "BaseException") = some true)
    (xTC : PySem.W.typeIn K (.ref CC) = some (.type "type"))
    (xHC : PySem.W.hasDictIn K CC = true)
    (xXC : PySem.W.excIn K CC PySem.HandSPX.veTail "ValueError.__new__" = true)
    (xKC : PySem.W.keepIn K (.ref CC) = true)
    (xGC : PySem.W.findIn K (.ref CC) "__getattribute__" = some (some (.builtin "BaseException.__getattribute__")))
    (xNC : PySem.W.findIn K (.ref CC) "__getattr__" = some none)
    (xCC : PySem.W.findIn K (.ref CC) "__class__" = some (some (.builtin "object.__class__")))
    (xMC : PySem.W.mroIn K CC (.type "object") = some true)
    (xSC : PySem.W.subIn K (.ref CC) (.ref CE) = some true)
    (xkLL : PySem.W.kitOne K (.ref CL) (.ref CL) = some true)
    (xkLP : PySem.W.kitOne K (.ref CL) (.ref CP) = some false)
    (xkLC : PySem.W.kitOne K (.ref CL) (.ref CC) = some false)
    (xkPL : PySem.W.kitOne K (.ref CP) (.ref CL) = some false)
    (xkPP : PySem.W.kitOne K (.ref CP) (.ref CP) = some true)
    (xkPC : PySem.W.kitOne K (.ref CP) (.ref CC) = some false)
    (xkCL : PySem.W.kitOne K (.ref CC) (.ref CL) = some false)
    (xkCP : PySem.W.kitOne K (.ref CC) (.ref CP) = some false)
    (xkCC : PySem.W.kitOne K (.ref CC) (.ref CC) = some true)
    (xvL : PySem.W.kitOne K (.ref CL) (.type "ValueError") = some true)
    (xvP : PySem.W.kitOne K (.ref CP) (.type "ValueError") = some true)
    (xvC : PySem.W.kitOne K (.ref CC) (.type "ValueError") = some true)
    (zFValueError : PySem.W.nsIn K mainGlobals "ValueError" = some none)
    (aGdP : PySem.W.nsIn K mainGlobals "PLACES_FIRST" = some (some (.ref dP)))
    (tGdP : TupIn K dP [1, 8, 32, 68, 96])
    (zisinstance : PySem.W.nsIn K mainGlobals "isinstance" = some none)
    (zint : PySem.W.nsIn K mainGlobals "int" = some none)
    (zbool : PySem.W.nsIn K mainGlobals "bool" = some none)
    (ztuple : PySem.W.nsIn K mainGlobals "tuple" = some none)
    (zlist : PySem.W.nsIn K mainGlobals "list" = some none)
    (zlen : PySem.W.nsIn K mainGlobals "len" = some none)
    (zall : PySem.W.nsIn K mainGlobals "all" = some none)
    (zany : PySem.W.nsIn K mainGlobals "any" = some none)
    (zsum : PySem.W.nsIn K mainGlobals "sum" = some none)
    (zmin : PySem.W.nsIn K mainGlobals "min" = some none)
    (zmax : PySem.W.nsIn K mainGlobals "max" = some none)
    (zabs : PySem.W.nsIn K mainGlobals "abs" = some none)
    (zzip : PySem.W.nsIn K mainGlobals "zip" = some none)
    (zrange : PySem.W.nsIn K mainGlobals "range" = some none)
    : ∃ fd : FuncData, (∀ (s : Shared) (v : Value), BindsTo s fd ⟨[v], []⟩ [("_law_script", v)]) ∧ ∀ base : Heap, K.In base → base.Ns mainGlobals mg → FnOk l.prog w K mg base CX0 10 fa fd ["_law_script"] (spD K F_law) := by
  have e := hfa.symm.trans (PySem.W.mg_of X G a_23)
  cases e
  have F_behind := fun_mk (st := s_behind) l_0 c_0 k_0
  have T_behind : Th K mg "behind" s_behind ["leap", "counts", "many"] := ⟨_, _, PySem.W.mg_of X G a_0, F_behind, F_behind.binds (ps := ["leap", "counts", "many"]) fun _ _ _ _ _ _ us hl => match us, hl with | [_, _, _], _ => rfl⟩
  have F_eight := fun_mk (st := s_eight) l_1 c_1 k_1
  have T_eight : Th K mg "eight" s_eight ["leap"] := ⟨_, _, PySem.W.mg_of X G a_1, F_eight, F_eight.binds (ps := ["leap"]) fun _ _ _ _ _ _ us hl => match us, hl with | [_], _ => rfl⟩
  have F_fewest := fun_mk (st := s_fewest) l_2 c_2 k_2
  have T_fewest : Th K mg "fewest" s_fewest ["place"] := ⟨_, _, PySem.W.mg_of X G a_2, F_fewest, F_fewest.binds (ps := ["place"]) fun _ _ _ _ _ _ us hl => match us, hl with | [_], _ => rfl⟩
  have F_first_of := fun_mk (st := s_first_of) l_3 c_3 k_3
  have T_first_of : Th K mg "first_of" s_first_of ["counts", "many"] := ⟨_, _, PySem.W.mg_of X G a_3, F_first_of, F_first_of.binds (ps := ["counts", "many"]) fun _ _ _ _ _ _ us hl => match us, hl with | [_, _], _ => rfl⟩
  have F_is_amount := fun_mk (st := s_is_amount) l_4 c_4 k_4
  have T_is_amount : Th K mg "is_amount" s_is_amount ["thing"] := ⟨_, _, PySem.W.mg_of X G a_4, F_is_amount, F_is_amount.binds (ps := ["thing"]) fun _ _ _ _ _ _ us hl => match us, hl with | [_], _ => rfl⟩
  have F_is_counts := fun_mk (st := s_is_counts) l_5 c_5 k_5
  have T_is_counts : Th K mg "is_counts" s_is_counts ["thing"] := ⟨_, _, PySem.W.mg_of X G a_5, F_is_counts, F_is_counts.binds (ps := ["thing"]) fun _ _ _ _ _ _ us hl => match us, hl with | [_], _ => rfl⟩
  have F_is_leap := fun_mk (st := s_is_leap) l_6 c_6 k_6
  have T_is_leap : Th K mg "is_leap" s_is_leap ["thing"] := ⟨_, _, PySem.W.mg_of X G a_6, F_is_leap, F_is_leap.binds (ps := ["thing"]) fun _ _ _ _ _ _ us hl => match us, hl with | [_], _ => rfl⟩
  have F_is_place := fun_mk (st := s_is_place) l_7 c_7 k_7
  have T_is_place : Th K mg "is_place" s_is_place ["thing"] := ⟨_, _, PySem.W.mg_of X G a_7, F_is_place, F_is_place.binds (ps := ["thing"]) fun _ _ _ _ _ _ us hl => match us, hl with | [_], _ => rfl⟩
  have F_is_whole := fun_mk (st := s_is_whole) l_8 c_8 k_8
  have T_is_whole : Th K mg "is_whole" s_is_whole ["thing"] := ⟨_, _, PySem.W.mg_of X G a_8, F_is_whole, F_is_whole.binds (ps := ["thing"]) fun _ _ _ _ _ _ us hl => match us, hl with | [_], _ => rfl⟩
  have F_law_bad_counts := fun_mk (st := s_law_bad_counts) l_9 c_9 k_9
  have T_law_bad_counts : Th K mg "_law_bad_counts" s_law_bad_counts ["_law_which", "_law_more"] := ⟨_, _, PySem.W.mg_of X G a_9, F_law_bad_counts, F_law_bad_counts.binds (ps := ["_law_which", "_law_more"]) fun _ _ _ _ _ _ us hl => match us, hl with | [_, _], _ => rfl⟩
  have F_law_pairs := fun_mk (st := s_law_pairs) l_10 c_10 k_10
  have T_law_pairs : Th K mg "_law_pairs" s_law_pairs ["_law_which", "_law_more"] := ⟨_, _, PySem.W.mg_of X G a_10, F_law_pairs, F_law_pairs.binds (ps := ["_law_which", "_law_more"]) fun _ _ _ _ _ _ us hl => match us, hl with | [_, _], _ => rfl⟩
  have F_law_told := fun_mk (st := s_law_told) l_11 c_11 k_11
  have T_law_told : Th K mg "_law_told" s_law_told ["_law_kind", "_law_which", "_law_more"] := ⟨_, _, PySem.W.mg_of X G a_11, F_law_told, F_law_told.binds (ps := ["_law_kind", "_law_which", "_law_more"]) fun _ _ _ _ _ _ us hl => match us, hl with | [_, _, _], _ => rfl⟩
  have F_law_with_leap := fun_mk (st := s_law_with_leap) l_12 c_12 k_12
  have T_law_with_leap : Th K mg "_law_with_leap" s_law_with_leap ["_law_door", "_law_leap"] := ⟨_, _, PySem.W.mg_of X G a_12, F_law_with_leap, F_law_with_leap.binds (ps := ["_law_door", "_law_leap"]) fun _ _ _ _ _ _ us hl => match us, hl with | [_, _], _ => rfl⟩
  have F_law_with_place := fun_mk (st := s_law_with_place) l_13 c_13 k_13
  have T_law_with_place : Th K mg "_law_with_place" s_law_with_place ["_law_door", "_law_place"] := ⟨_, _, PySem.W.mg_of X G a_13, F_law_with_place, F_law_with_place.binds (ps := ["_law_door", "_law_place"]) fun _ _ _ _ _ _ us hl => match us, hl with | [_, _], _ => rfl⟩
  have F_need_amount := fun_mk (st := s_need_amount) l_14 c_14 k_14
  have T_need_amount : Th K mg "need_amount" s_need_amount ["thing"] := ⟨_, _, PySem.W.mg_of X G a_14, F_need_amount, F_need_amount.binds (ps := ["thing"]) fun _ _ _ _ _ _ us hl => match us, hl with | [_], _ => rfl⟩
  have F_need_counts := fun_mk (st := s_need_counts) l_15 c_15 k_15
  have T_need_counts : Th K mg "need_counts" s_need_counts ["thing"] := ⟨_, _, PySem.W.mg_of X G a_15, F_need_counts, F_need_counts.binds (ps := ["thing"]) fun _ _ _ _ _ _ us hl => match us, hl with | [_], _ => rfl⟩
  have F_need_leap := fun_mk (st := s_need_leap) l_16 c_16 k_16
  have T_need_leap : Th K mg "need_leap" s_need_leap ["thing"] := ⟨_, _, PySem.W.mg_of X G a_16, F_need_leap, F_need_leap.binds (ps := ["thing"]) fun _ _ _ _ _ _ us hl => match us, hl with | [_], _ => rfl⟩
  have F_need_place := fun_mk (st := s_need_place) l_17 c_17 k_17
  have T_need_place : Th K mg "need_place" s_need_place ["thing"] := ⟨_, _, PySem.W.mg_of X G a_17, F_need_place, F_need_place.binds (ps := ["thing"]) fun _ _ _ _ _ _ us hl => match us, hl with | [_], _ => rfl⟩
  have F_place_of := fun_mk (st := s_place_of) l_18 c_18 k_18
  have T_place_of : Th K mg "place_of" s_place_of ["leap", "counts"] := ⟨_, _, PySem.W.mg_of X G a_18, F_place_of, F_place_of.binds (ps := ["leap", "counts"]) fun _ _ _ _ _ _ us hl => match us, hl with | [_, _], _ => rfl⟩
  have F_places := fun_mk (st := s_places) l_19 c_19 k_19
  have T_places : Th K mg "places" s_places ["many"] := ⟨_, _, PySem.W.mg_of X G a_19, F_places, F_places.binds (ps := ["many"]) fun _ _ _ _ _ _ us hl => match us, hl with | [_], _ => rfl⟩
  have F_shortest := fun_mk (st := s_shortest) l_20 c_20 k_20
  have T_shortest : Th K mg "shortest" s_shortest ["place"] := ⟨_, _, PySem.W.mg_of X G a_20, F_shortest, F_shortest.binds (ps := ["place"]) fun _ _ _ _ _ _ us hl => match us, hl with | [_], _ => rfl⟩
  have F_told := fun_mk (st := s_told) l_21 c_21 k_21
  have T_told : Th K mg "told" s_told ["leap", "place"] := ⟨_, _, PySem.W.mg_of X G a_21, F_told, F_told.binds (ps := ["leap", "place"]) fun _ _ _ _ _ _ us hl => match us, hl with | [_, _], _ => rfl⟩
  have F_within := fun_mk (st := s_within) l_22 c_22 k_22
  have T_within : Th K mg "within" s_within ["many"] := ⟨_, _, PySem.W.mg_of X G a_22, F_within, F_within.binds (ps := ["many"]) fun _ _ _ _ _ _ us hl => match us, hl with | [_], _ => rfl⟩
  have F_law := fun_mk (st := s_law) l_23 c_23 k_23
  have BL : Bc K mg "BadLeap" CL := ⟨PySem.W.mg_of X G xAL, xXL, xKL, xRL, xTL, ⟨xGL, xNL, xRL, xHL, xCL, jn, jt, xML⟩⟩
  have BP : Bc K mg "BadPlace" CP := ⟨PySem.W.mg_of X G xAP, xXP, xKP, xRP, xTP, ⟨xGP, xNP, xRP, xHP, xCP, jn, jt, xMP⟩⟩
  have BC : Bc K mg "BadCount" CC := ⟨PySem.W.mg_of X G xAC, xXC, xKC, xRC, xTC, ⟨xGC, xNC, xRC, xHC, xCC, jn, jt, xMC⟩⟩
  have EC : Ec K mg CE CL CP CC := ⟨PySem.W.mg_of X G xAE, PySem.W.exm_ref xRE xHE xTE xSL, PySem.W.exm_ref xRE xHE xTE xSP, PySem.W.exm_ref xRE xHE xTE xSC, xkLL, xkLP, xkLC, xkPL, xkPP, xkPC, xkCL, xkCP, xkCC, xvL, xvP, xvC, PySem.W.mg_none_of X G zFValueError⟩
  have gP := PySem.W.mg_of X G aGdP
  have kP : TupOk K dP [1, 8, 32, 68, 96] := tGdP.ok (by decide)
  have B : Bu mg := ⟨PySem.W.mg_none_of X G zisinstance, PySem.W.mg_none_of X G zint, PySem.W.mg_none_of X G zbool, PySem.W.mg_none_of X G ztuple, PySem.W.mg_none_of X G zlist, PySem.W.mg_none_of X G zlen, PySem.W.mg_none_of X G zall, PySem.W.mg_none_of X G zany, PySem.W.mg_none_of X G zsum, PySem.W.mg_none_of X G zmin, PySem.W.mg_none_of X G zmax, PySem.W.mg_none_of X G zabs, PySem.W.mg_none_of X G zzip, PySem.W.mg_none_of X G zrange⟩
  refine ⟨PySem.W.fnOf "law" "law" (defArgs s_law) (defBody s_law) (defScope s_law) .none kV_23 dc_23 pm_23 an_23 cd_23 ct_23, fun s v => .of_eq rfl, fun base _ _ => ?_⟩
  have e_is_whole := ok_is_whole (P := l.prog) (w := w) (base := base) B T_is_whole
  have e_is_amount := ok_is_amount (P := l.prog) (w := w) (base := base) B T_is_amount e_is_whole
  have e_is_place := ok_is_place (P := l.prog) (w := w) (base := base) B T_is_place e_is_whole
  have e_is_leap := ok_is_leap (P := l.prog) (w := w) (base := base) B T_is_leap e_is_place
  have e_is_counts := ok_is_counts (P := l.prog) (w := w) (base := base) B T_is_counts e_is_amount
  have e_need_leap := ok_need_leap (P := l.prog) (w := w) (base := base) T_need_leap e_is_leap
  have e_need_counts := ok_need_counts (P := l.prog) (w := w) (base := base) T_need_counts e_is_counts
  have e_eight := ok_eight (P := l.prog) (w := w) (base := base) T_eight e_need_leap
  have e_place_of := ok_place_of (P := l.prog) (w := w) (base := base) B T_place_of e_need_leap e_need_counts e_eight
  have e_need_amount := ok_need_amount (P := l.prog) (w := w) (base := base) T_need_amount e_is_amount
  have e_first_of := ok_first_of (P := l.prog) (w := w) (base := base) B T_first_of
  have e_behind := ok_behind (P := l.prog) (w := w) (base := base) B T_behind e_need_leap e_need_counts e_need_amount e_place_of e_first_of
  have e_places := ok_places (P := l.prog) (w := w) (base := base) B T_places gP kP e_need_amount
  have x_need_leap_F_xLp := ok_x_need_leap (P := l.prog) (w := w) (base := base) T_need_leap BL e_is_leap
  have x_need_place_F_xPl := ok_x_need_place (P := l.prog) (w := w) (base := base) T_need_place BP e_is_place
  have x_need_counts_F_xCt := ok_x_need_counts (P := l.prog) (w := w) (base := base) T_need_counts BC e_is_counts
  have x_need_amount_F_xAm := ok_x_need_amount (P := l.prog) (w := w) (base := base) T_need_amount BC e_is_amount
  have x_eight_F_xLp := ok_x_eight (P := l.prog) (w := w) (base := base) T_eight x_need_leap_F_xLp
  have x_fewest_F_xPl := ok_x_fewest (P := l.prog) (w := w) (base := base) T_fewest x_need_place_F_xPl
  have x_shortest_F_xPl := ok_x_shortest (P := l.prog) (w := w) (base := base) T_shortest x_need_place_F_xPl
  have x_places_F_xAm := ok_x_places (P := l.prog) (w := w) (base := base) T_places x_need_amount_F_xAm
  have x_within_F_xAm := ok_x_within (P := l.prog) (w := w) (base := base) T_within x_need_amount_F_xAm
  have x_place_of_F_xLp2 := ok_x_place_of_L (P := l.prog) (w := w) (base := base) T_place_of x_need_leap_F_xLp
  have x_behind_F_xLp3 := ok_x_behind_L (P := l.prog) (w := w) (base := base) T_behind x_need_leap_F_xLp
  have x_told_F_xLp2 := ok_x_told_L (P := l.prog) (w := w) (base := base) T_told x_need_leap_F_xLp
  have x_place_of_F_xCt2 := ok_x_place_of_C (P := l.prog) (w := w) (base := base) T_place_of e_need_leap x_need_counts_F_xCt
  have x_behind_F_xCt3 := ok_x_behind_C (P := l.prog) (w := w) (base := base) T_behind e_need_leap x_need_counts_F_xCt
  have x_told_F_xPl2 := ok_x_told_P (P := l.prog) (w := w) (base := base) T_told e_need_leap x_need_place_F_xPl
  have x_behind_F_xAm3 := ok_x_behind_M (P := l.prog) (w := w) (base := base) T_behind e_need_leap e_need_counts x_need_amount_F_xAm
  have x_behind_F_xSm3 := ok_x_behind_S (P := l.prog) (w := w) (base := base) B T_behind BC e_need_leap e_need_counts e_need_amount
  have e_law_pairs := ok_law_pairs (P := l.prog) (w := w) (base := base) T_law_pairs
  have x_law_with_leap_F_xwl := ok_law_with_leap (P := l.prog) (w := w) (base := base) T_law_with_leap x_eight_F_xLp x_place_of_F_xLp2 x_behind_F_xLp3 x_told_F_xLp2
  have x_law_with_place_F_xwp := ok_law_with_place (P := l.prog) (w := w) (base := base) T_law_with_place x_told_F_xPl2 x_fewest_F_xPl x_shortest_F_xPl
  have e_law_bad_counts := ok_law_bad_counts (P := l.prog) (w := w) (base := base) T_law_bad_counts
  have e_law_told := ok_law_told (P := l.prog) (w := w) (base := base) B T_law_told EC BL BP BC e_law_pairs x_law_with_leap_F_xwl x_law_with_place_F_xwp e_law_bad_counts x_place_of_F_xCt2 x_behind_F_xCt3 x_behind_F_xAm3 x_behind_F_xSm3 x_places_F_xAm x_within_F_xAm
  exact ok_law (P := l.prog) (w := w) (base := base) B F_law e_law_told e_behind e_places
end
end Lw
open PySem PySem.W PyProof.Rows
set_option maxRecDepth 100000 in
set_option maxHeartbeats 0 in
theorem PySem.Challenge.cw_leapways_k05_refused_holds : PySem.Challenge.rw_leapways_k05_refused.Holds := by
  w_on; o_law; k_head; (case hw => w_witness2)
  k_fill
  refine L2.walk_ofB (l := PySem.Challenge.rw_leapways_k05_refused) (n := 63) (k := 10) (x := "_law_script") (CX := fun _ => L2.CX0) (sp := fun w => Lw.spD _ Lw.F_law) rfl (by decide) rfl ⟨rfl, by decide, by decide⟩ (fun w h Y => PySem.W.kIn_of Y) ?F (fun _ _ a ns hl hb _ hS => ⟨_, _, .cons (.lst hS (Lw.dpa_of_ints ns)) .nil, ⟨ns, rfl, ⟨hl, fun c hc => Lw.bd_bits (hb c hc)⟩, rfl⟩, fun v H2 _ r => Lw.dp_bl r⟩) (fun _ _ _ _ _ h => h)
  case F =>
    intro w mg fa h KX G hmg
    refine' Lw.all_mk KX G hmg ?jn ?jt ?a_0 ?l_0 ?c_0 ?k_0 ?a_1 ?l_1 ?c_1 ?k_1 ?a_2 ?l_2 ?c_2 ?k_2 ?a_3 ?l_3 ?c_3 ?k_3 ?a_4 ?l_4 ?c_4 ?k_4 ?a_5 ?l_5 ?c_5 ?k_5 ?a_6 ?l_6 ?c_6 ?k_6 ?a_7 ?l_7 ?c_7 ?k_7 ?a_8 ?l_8 ?c_8 ?k_8 ?a_9 ?l_9 ?c_9 ?k_9 ?a_10 ?l_10 ?c_10 ?k_10 ?a_11 ?l_11 ?c_11 ?k_11 ?a_12 ?l_12 ?c_12 ?k_12 ?a_13 ?l_13 ?c_13 ?k_13 ?a_14 ?l_14 ?c_14 ?k_14 ?a_15 ?l_15 ?c_15 ?k_15 ?a_16 ?l_16 ?c_16 ?k_16 ?a_17 ?l_17 ?c_17 ?k_17 ?a_18 ?l_18 ?c_18 ?k_18 ?a_19 ?l_19 ?c_19 ?k_19 ?a_20 ?l_20 ?c_20 ?k_20 ?a_21 ?l_21 ?c_21 ?k_21 ?a_22 ?l_22 ?c_22 ?k_22 ?a_23 ?l_23 ?c_23 ?k_23 ?xAE ?xRE ?xTE ?xHE ?xAL ?xRL ?xTL ?xHL ?xXL ?xKL ?xGL ?xNL ?xCL ?xML ?xSL ?xAP ?xRP ?xTP ?xHP ?xXP ?xKP ?xGP ?xNP ?xCP ?xMP ?xSP ?xAC ?xRC ?xTC ?xHC ?xXC ?xKC ?xGC ?xNC ?xCC ?xMC ?xSC ?xkLL ?xkLP ?xkLC ?xkPL ?xkPP ?xkPC ?xkCL ?xkCP ?xkCC ?xvL ?xvP ?xvC ?zFValueError ?aGdP ?tGdP ?zisinstance ?zint ?zbool ?ztuple ?zlist ?zlen ?zall ?zany ?zsum ?zmin ?zmax ?zabs ?zzip ?zrange
    (case jn => k_is); (case jt => k_is); (case a_0 => k_is); (case l_0 => k_is); (case c_0 => k_is); (case k_0 => k_is); (case a_1 => k_is); (case l_1 => k_is)
    (case c_1 => k_is); (case k_1 => k_is); (case a_2 => k_is); (case l_2 => k_is); (case c_2 => k_is); (case k_2 => k_is); (case a_3 => k_is); (case l_3 => k_is)
    (case c_3 => k_is); (case k_3 => k_is); (case a_4 => k_is); (case l_4 => k_is); (case c_4 => k_is); (case k_4 => k_is); (case a_5 => k_is); (case l_5 => k_is)
    (case c_5 => k_is); (case k_5 => k_is); (case a_6 => k_is); (case l_6 => k_is); (case c_6 => k_is); (case k_6 => k_is); (case a_7 => k_is); (case l_7 => k_is)
    (case c_7 => k_is); (case k_7 => k_is); (case a_8 => k_is); (case l_8 => k_is); (case c_8 => k_is); (case k_8 => k_is); (case a_9 => k_is); (case l_9 => k_is)
    (case c_9 => k_is); (case k_9 => k_is); (case a_10 => k_is); (case l_10 => k_is); (case c_10 => k_is); (case k_10 => k_is); (case a_11 => k_is); (case l_11 => k_is)
    (case c_11 => k_is); (case k_11 => k_is); (case a_12 => k_is); (case l_12 => k_is); (case c_12 => k_is); (case k_12 => k_is); (case a_13 => k_is); (case l_13 => k_is)
    (case c_13 => k_is); (case k_13 => k_is); (case a_14 => k_is); (case l_14 => k_is); (case c_14 => k_is); (case k_14 => k_is); (case a_15 => k_is); (case l_15 => k_is)
    (case c_15 => k_is); (case k_15 => k_is); (case a_16 => k_is); (case l_16 => k_is); (case c_16 => k_is); (case k_16 => k_is); (case a_17 => k_is); (case l_17 => k_is)
    (case c_17 => k_is); (case k_17 => k_is); (case a_18 => k_is); (case l_18 => k_is); (case c_18 => k_is); (case k_18 => k_is); (case a_19 => k_is); (case l_19 => k_is)
    (case c_19 => k_is); (case k_19 => k_is); (case a_20 => k_is); (case l_20 => k_is); (case c_20 => k_is); (case k_20 => k_is); (case a_21 => k_is); (case l_21 => k_is)
    (case c_21 => k_is); (case k_21 => k_is); (case a_22 => k_is); (case l_22 => k_is); (case c_22 => k_is); (case k_22 => k_is); (case a_23 => k_is); (case l_23 => k_is)
    (case c_23 => k_is); (case k_23 => k_is); (case xAE => k_is); (case xRE => k_is); (case xTE => k_is); (case xHE => k_is); (case xAL => k_is); (case xRL => k_is)
    (case xTL => k_is); (case xHL => k_is); (case xXL => k_exc); (case xKL => k_is); (case xGL => k_is); (case xNL => k_is); (case xCL => k_is); (case xML => k_is)
    (case xSL => first | rfl | k_is); (case xAP => k_is); (case xRP => k_is); (case xTP => k_is); (case xHP => k_is); (case xXP => k_exc); (case xKP => k_is); (case xGP => k_is)
    (case xNP => k_is); (case xCP => k_is); (case xMP => k_is); (case xSP => first | rfl | k_is); (case xAC => k_is); (case xRC => k_is); (case xTC => k_is); (case xHC => k_is)
    (case xXC => k_exc); (case xKC => k_is); (case xGC => k_is); (case xNC => k_is); (case xCC => k_is); (case xMC => k_is); (case xSC => first | rfl | k_is); (case xkLL => kit_is)
    (case xkLP => kit_is); (case xkLC => kit_is); (case xkPL => kit_is); (case xkPP => kit_is); (case xkPC => kit_is); (case xkCL => kit_is); (case xkCP => kit_is); (case xkCC => kit_is)
    (case xvL => kit_is); (case xvP => kit_is); (case xvC => kit_is); (case zFValueError => k_is); (case aGdP => k_is); (case tGdP => (refine' Lw.TupIn.mk' ?l ?h; (case l => k_is); (case h => rfl))); (case zisinstance => k_is); (case zint => k_is)
    (case zbool => k_is); (case ztuple => k_is); (case zlist => k_is); (case zlen => k_is); (case zall => k_is); (case zany => k_is); (case zsum => k_is); (case zmin => k_is)
    (case zmax => k_is); (case zabs => k_is); (case zzip => k_is); (case zrange => k_is)
