import PyProof.Rows.All
import Wide.All
import OpenK.AllK
import Wide.FinOn
import HandS.ForMost
import HandS.ForExc
import HandS.Gcd
import HandS.Wide
import HandS.IsInst
import HandS.ExcInit
import HandS.Lambda
import HandS.OwnEq
import PySem.Challenge.RW_rungshare_k02_whole_rows
import HandS.ExcField
import HandS.Codes
import HandS.TryMany
import HandS.TupAny
import KE.GoesMore
import HandS.Iter
import HandS.Rev
import HandS.Style
import HandS.Walk
import HandS.Zip
import HandS.Deep
import HandS.Defaults
import HandS.WordsExc
import HandS.TupMul
import HandS.TupLe
import HandS.EndTab
import HandS.NestedK
set_option Elab.async false
set_option linter.all false
set_option maxRecDepth 100000
set_option maxHeartbeats 2000000
/-! small things that every law wants -/
namespace Bs
open PySem PySem.Spec PyProof.Rows L2
theorem same_new {H : Hp} {p : Addr} {o : HO} (h : H p = none) : Same H (upd H p o) := fun b u e => (upd_ne (ne_of_none e h)).trans e
theorem Same.t {K : PySem.W.Frag} {H H' : Hp} {a : Addr} {xs : List V} (e : Same H H') (h : SqT K H a xs) : SqT K H' a xs := by
  rcases h with (h | ⟨o, h⟩) | h
  · exact .inl (.inl (e _ _ h))
  · exact .inl (.inr ⟨o, e _ _ h⟩)
  · exact .inr h
section
variable {X : Cx}
/-- x *= e, both ints, together below a million bits -/
def ipM : TIp := fun x y H Q => ∃ i j, x = .int i ∧ y = .int j ∧ CMulW i j ∧ Q (.int (i * j)) H
theorem ip_mul : PIp X .Mult ipM := by
  rintro pins s σ H x y v u Q I r1 r2 ⟨i, j, rfl, rfl, c, q⟩
  obtain ⟨t, rfl⟩ := r1
  obtain ⟨t', rfl⟩ := r2
  exact imul_int ⟨.int _, H, I.tok _, ⟨_, rfl⟩, q⟩ c.ok
/-- repr of data in lists and tuples -/
def rRepr (K : PySem.W.Frag) : List V → Hp → VK → Prop := fun xs H Q => ∃ (a : Addr) (d : PyData), xs = [.ref a] ∧ Dp K H (.ref a) d ∧ d.showable = true ∧ d.hasDict = false ∧ d.depth ≤ 60 ∧ d.shown.length ≤ sizeLine ∧ Q (.str d.shown) H
theorem call_repr (hg : X.A.guards = some []) (hu : X.A.units + 64 < cLine) : CallR X (.builtin "repr") (rRepr X.K) := by
  rintro pins s σ H xs us Q I r ⟨a, d, rfl, hd, h1, h2, h3, h4, q⟩
  obtain ⟨u, rfl, ru⟩ := vals1 r
  obtain ⟨as, rd⟩ := Dp.reads I d (.ref a) u hd ru
  obtain rfl : u = Value.ref a := ru
  refine repr_of_reads' rd h1 (PyData.noDict_hsm h2) hg (by omega) (fun _ _ e => e) (fun h' u tk hk => ?_) h4
  exact ⟨.str d.shown, H, I.kept (h' := h') hk, ⟨u, rfl⟩, q⟩
end
/-! ### defs that may raise, and defs that ask for no guards -/
structure CalX (P : Program) (w : World) (K : PySem.W.Frag) (mg : Str → Option Value) (base : Heap) (k : Nat) (x : Str) (sp : Sp) : Prop where
  ex : ∃ (f : Addr) (fd : FuncData) (ps : List Str), FnOk P w K mg base (L2.CX P w) k f fd ps sp ∧ mg x = some (.ref f) ∧ PySem.W.keepIn K (.ref f) = true ∧ Binds K fd ps []
structure Cal (P : Program) (w : World) (K : PySem.W.Frag) (mg : Str → Option Value) (base : Heap) (k : Nat) (x : Str) (sp : Sp) : Prop where
  ex : ∃ (f : Addr) (fd : FuncData) (ps : List Str), FnOk P w K mg base CX0 k f fd ps sp ∧ mg x = some (.ref f) ∧ PySem.W.keepIn K (.ref f) = true ∧ Binds K fd ps []
/-- a promise that is kept where no guard stands around -/
structure FnG (P : Program) (w : World) (K : PySem.W.Frag) (mg : Str → Option Value) (base : Heap) (k : Nat) (f : Addr) (fd : FuncData) (ps : List Str) (sp : Sp) : Prop where
  len : ∀ vs H Q E, sp vs H Q E → vs.length = ps.length
  run : ∀ (A : Around) (outer : List Env) (s : Shared) (H : Hp) (args : Args) (us : List Value) (vs : List V) (Q : VK) (E : XK), A.guards = some [] → Room k A → Env0 P w K mg base A outer s H →
    BindsTo s fd args (ps.zip us) → Vals vs us → sp vs H Q E → codeAny (model P w) A (.call (.ref f) args) (CR CX0 outer P w H s Q E) s
structure CalG (P : Program) (w : World) (K : PySem.W.Frag) (mg : Str → Option Value) (base : Heap) (k : Nat) (x : Str) (sp : Sp) : Prop where
  ex : ∃ (f : Addr) (fd : FuncData) (ps : List Str), FnG P w K mg base k f fd ps sp ∧ mg x = some (.ref f) ∧ PySem.W.keepIn K (.ref f) = true ∧ Binds K fd ps []
section
variable {P : Program} {w : World} {K : PySem.W.Frag} {mg : Str → Option Value} {base : Heap} {k : Nat} {f : Addr} {fd : FuncData} {sp : Sp} {x qual : Str} {st : Stmt} {N ps : List Str}
theorem FnG.ok (F : Fun K x qual st f fd) (S : FnScope N ps (defScope st)) (len : ∀ vs H Q E, sp vs H Q E → vs.length = ps.length)
    (hbody : ∀ (cdv : Value) (A : Around) (outer : List Env) (s : Shared) (H : Hp) (vs : List V) (Q : VK) (E : XK), A.guards = some [] → Room k (A.deeper (envOfC qual (defScope st) s.heap.objs.size f cdv)) → sp vs H Q E →
      ∃ t, PSs (cxOf CX0 P w K mg base N qual (defScope st) f cdv A outer s H E).nox (defBody st) t ∧ t { nx := fun _ H' => Q .non H', rt := Q } (start N vs) H) : FnG P w K mg base (k + 1) f fd ps sp := by
  obtain ⟨oc, od, kV, doc, pm, an, cdv, ct, osl, rfl, lk, hcd⟩ := F.ex
  refine ⟨len, fun A outer s H args us vs Q E hg hr e0 hb r h => ?_⟩
  refine LamX.run_ofS lk hcd S hr e0 hb r (len _ _ _ _ h) (fun hr' => ?_)
  obtain ⟨t, a, b⟩ := hbody cdv A outer s H vs Q E hg hr' h
  exact ⟨t, a.nox, b⟩
end
section
variable {X : Cx} {k j : Nat} {x : Str} {sp : Sp} {p pos : Pos} {e : Expr} {es : List Expr} {t : TA} {E : XK}
theorem pe_x (c : CalX X.prog X.w X.K X.mg X.base k x sp) (hr : Room j X.A) (hk : k ≤ j) (hg : Gl X x) (hx : Passes (L2.CX X.prog X.w) X E) (ha : PA X (e :: es) t)
    (hdb : (x == ("__debug__" : Str)) = false := by decide) (he : starEach (e :: es) X.env = (false, eval e X.env) :: starEach es X.env := by rfl) (hpl : (backTo pos (starEach es X.env)).any (·.1) = false := by rfl) :
    PE X (.Call (.Name x p) (e :: es) [] pos) (tCall sp [] E t) := by
  obtain ⟨f, fd, ps, F, hm, kp, b⟩ := c.ex
  exact pe_call F (hr.mono hk) hg hm kp b .nil hx ha hdb he hpl
theorem pe_n (c : Cal X.prog X.w X.K X.mg X.base k x sp) (hr : Room j X.A) (hk : k ≤ j) (hg : Gl X x) (ha : PA X (e :: es) t)
    (hdb : (x == ("__debug__" : Str)) = false := by decide) (he : starEach (e :: es) X.env = (false, eval e X.env) :: starEach es X.env := by rfl) (hpl : (backTo pos (starEach es X.env)).any (·.1) = false := by rfl) :
    PE X (.Call (.Name x p) (e :: es) [] pos) (tCall sp [] E0 t) := by
  obtain ⟨f, fd, ps, F, hm, kp, b⟩ := c.ex
  exact pe_call F (hr.mono hk) hg hm kp b .nil pass0 ha hdb he hpl
theorem run_g {pins : List (Addr × Obj)} {σ : L2.St} {H : Hp} {s : Shared} {Q : VK} {f : Addr} {fd : FuncData} {ps : List Str} {us : List Value} {vs : List V} (F : FnG X.prog X.w X.K X.mg X.base k f fd ps sp) (hg : X.A.guards = some []) (hr : Room k X.A)
    (hb : Binds X.K fd ps []) (I : L2.Inv X pins σ H s) (r : Vals vs us) (h : sp vs H Q E) : wpAny (model X.prog X.w) X.A (call (.ref f) us) (EP X pins σ Q) X.xe s := by
  have hl : (us ++ []).length = ps.length := by rw [List.append_nil, ← r.length]; exact F.len _ _ _ _ h
  have b0 := hb s us I.kIn hl
  rw [List.append_nil] at b0
  refine wpAny_call (codeAny_mono (F.run X.A X.stack s H ⟨us, []⟩ us vs Q E hg hr I.env0 b0 r h) (fun r s' hq => ?_))
  rcases r with e | fl
  · exact (show False from hq).elim
  · cases fl with
    | ret u => exact I.after hq
    | next => exact hq.elim
    | brk => exact hq.elim
    | cont => exact hq.elim
theorem pe_g (c : CalG X.prog X.w X.K X.mg X.base k x sp) (hgd : X.A.guards = some []) (hr : Room j X.A) (hk : k ≤ j) (hg : Gl X x) (ha : PA X (e :: es) t)
    (hdb : (x == ("__debug__" : Str)) = false := by decide) (he : starEach (e :: es) X.env = (false, eval e X.env) :: starEach es X.env := by rfl) (hpl : (backTo pos (starEach es X.env)).any (·.1) = false := by rfl) :
    PE X (.Call (.Name x p) (e :: es) [] pos) (tCall sp [] E0 t) := by
  obtain ⟨f, fd, ps, F, hm, kp, b⟩ := c.ex
  constructor
  intro pins s σ H Q I h
  refine wpAny_Call_Name_kw (ld_glob I hg hm ?_ hdb)
  refine PySem.W.callWith_K (h₀ := X.base) I.ok.mod.kin kp (thn (ha.run pos pins s σ H _ I h) (fun us s1 ⟨vs, H1, I1, r, q⟩ => ⟨I1.kIn, ?_⟩)) he hpl
  have q' : sp (vs ++ []) H1 Q E0 := q
  rw [List.append_nil] at q'
  exact run_g F hgd (hr.mono hk) b I1 r q'
theorem pe_g0 (c : CalG X.prog X.w X.K X.mg X.base k x sp) (hgd : X.A.guards = some []) (hr : Room j X.A) (hk : k ≤ j) (hg : Gl X x) (hdb : (x == ("__debug__" : Str)) = false := by decide) :
    PE X (.Call (.Name x p) [] [] pos) (tCall sp [] E0 tNil) := by
  obtain ⟨f, fd, ps, F, hm, kp, b⟩ := c.ex
  constructor
  intro pins s σ H Q I h
  refine wpAny_Call_Name_kw (ld_glob I hg hm ?_ hdb)
  exact PySem.W.callWith_K0 I.kIn kp (run_g (us := []) F hgd (hr.mono hk) b I .nil h)
end
end Bs


/-! fractions as pairs of integers: the mathematics alone -/
namespace Fq
abbrev F := Int × Int
def gI (a b : Int) : Int := ((Nat.gcd a.natAbs b.natAbs : Nat) : Int)
/-- least terms, the bottom above nought -/
def red (a b : Int) : F := (a / gI a b, b / gI a b)
/-- least terms, the bottom not nought -/
def redP (a b : Int) : F := if b < 0 then red (-a) (-b) else red a b
theorem gI_neg (a b : Int) : gI (-a) (-b) = gI a b := by simp [gI]
theorem gI_pos {a b : Int} (h : b ≠ 0) : 0 < gI a b := by
  have : 0 < Nat.gcd a.natAbs b.natAbs := Nat.gcd_pos_of_pos_right _ (by omega)
  unfold gI; omega
theorem gI_le {a b : Int} (h : b ≠ 0) : (gI a b).natAbs ≤ b.natAbs := by
  have : Nat.gcd a.natAbs b.natAbs ≤ b.natAbs := Nat.gcd_le_right _ (by omega)
  unfold gI; omega
theorem redP_pos {a b : Int} (h : 0 < b) : redP a b = red a b := if_neg (by omega)
theorem redP_neg {a b : Int} (h : b < 0) : redP a b = red (-a) (-b) := if_pos h
/-- what the program reckons: by the divisor with b's sign -/
theorem redP_eq {a b g : Int} (hb : b ≠ 0) (hg : g = if b < 0 then -gI a b else gI a b) : (a.fdiv g, b.fdiv g) = redP a b := by
  have hp := gI_pos (a := a) hb
  by_cases c : b < 0
  · rw [if_pos c] at hg
    subst hg
    rw [redP_neg c, red, gI_neg]
    have e : ∀ x : Int, x.fdiv (-gI a b) = (-x) / gI a b := fun x => by
      have := Int.neg_fdiv_neg (-x) (gI a b)
      rw [Int.neg_neg] at this
      rw [this, Int.fdiv_eq_ediv_of_nonneg _ (by omega)]
    rw [e, e]
  · rw [if_neg c] at hg
    subst hg
    rw [redP, if_neg c, red, Int.fdiv_eq_ediv_of_nonneg _ (by omega), Int.fdiv_eq_ediv_of_nonneg _ (by omega)]
/-- a fraction in least terms -/
def Ok (q : F) : Prop := 0 < q.2 ∧ Nat.gcd q.1.natAbs q.2.natAbs = 1
theorem gI_dvd_l (a b : Int) : gI a b ∣ a := by
  unfold gI
  exact Int.ofNat_dvd_left.mpr (Nat.gcd_dvd_left _ _)
theorem gI_dvd_r (a b : Int) : gI a b ∣ b := by
  unfold gI
  exact Int.ofNat_dvd_left.mpr (Nat.gcd_dvd_right _ _)
theorem red_ok {a b : Int} (h : 0 < b) : Ok (red a b) := by
  have hg := gI_pos (a := a) (b := b) (by omega)
  obtain ⟨x, hx⟩ := gI_dvd_l a b
  obtain ⟨y, hy⟩ := gI_dvd_r a b
  have e1 : a / gI a b = x := Int.ediv_eq_of_eq_mul_right (by omega) hx
  have e2 : b / gI a b = y := Int.ediv_eq_of_eq_mul_right (by omega) hy
  refine ⟨?_, ?_⟩
  · show 0 < b / gI a b
    rw [e2]
    apply Int.pos_of_mul_pos_right (a := gI a b) (b := y) ?_ hg |> id
    rw [← hy]; exact h
  · show Nat.gcd (a / gI a b).natAbs (b / gI a b).natAbs = 1
    rw [e1, e2]
    have q1 : a.natAbs = (gI a b).natAbs * x.natAbs := by
      have := congrArg Int.natAbs hx
      rwa [Int.natAbs_mul] at this
    have q2 : b.natAbs = (gI a b).natAbs * y.natAbs := by
      have := congrArg Int.natAbs hy
      rwa [Int.natAbs_mul] at this
    have q3 : (gI a b).natAbs = Nat.gcd a.natAbs b.natAbs := by unfold gI; omega
    have q4 : Nat.gcd a.natAbs b.natAbs = (gI a b).natAbs * Nat.gcd x.natAbs y.natAbs := by
      rw [q1, q2, Nat.gcd_mul_left]
    have hp : 0 < (gI a b).natAbs := by omega
    have : (gI a b).natAbs * 1 = (gI a b).natAbs * Nat.gcd x.natAbs y.natAbs := by rw [← q4, q3]; omega
    exact (Nat.eq_of_mul_eq_mul_left hp this).symm
theorem red_of {q : F} (h : Ok q) : red q.1 q.2 = q := by
  have : gI q.1 q.2 = 1 := by unfold gI; rw [h.2]; rfl
  unfold red
  rw [this, Int.ediv_one, Int.ediv_one]
/-- sums, differences, products, quotients -/
def add (q r : F) : F := red (q.1 * r.2 + r.1 * q.2) (q.2 * r.2)
def sub (q r : F) : F := red (q.1 * r.2 - r.1 * q.2) (q.2 * r.2)
def mul (q r : F) : F := red (q.1 * r.1) (q.2 * r.2)
def div (q r : F) : F := redP (q.1 * r.2) (q.2 * r.1)
def lt (q r : F) : Bool := decide (q.1 * r.2 < r.1 * q.2)
def pw (q : F) (n : Nat) : F := (q.1 ^ n, q.2 ^ n)
theorem pw_ok {q : F} (h : Ok q) (n : Nat) : Ok (pw q n) := by
  refine ⟨Int.pow_pos h.1, ?_⟩
  show Nat.gcd (q.1 ^ n).natAbs (q.2 ^ n).natAbs = 1
  rw [Int.natAbs_pow, Int.natAbs_pow]
  exact Nat.Coprime.pow n n h.2
theorem pw_succ (q : F) (n : Nat) (h : Ok q) : mul (pw q n) q = pw q (n + 1) := by
  have := red_of (pw_ok h (n + 1))
  show red (q.1 ^ n * q.1) (q.2 ^ n * q.2) = _
  rw [← Int.pow_succ, ← Int.pow_succ]
  exact this
end Fq


set_option linter.all false
namespace Fq
/-- worth a divided by b -/
def Vl (q : F) (a b : Int) : Prop := q.1 * b = a * q.2
theorem vl_red {a b : Int} (h : 0 < b) : Vl (red a b) a b := by
  have hg := gI_pos (a := a) (b := b) (by omega)
  obtain ⟨x, hx⟩ := gI_dvd_l a b
  obtain ⟨y, hy⟩ := gI_dvd_r a b
  have e1 : a / gI a b = x := Int.ediv_eq_of_eq_mul_right (by omega) hx
  have e2 : b / gI a b = y := Int.ediv_eq_of_eq_mul_right (by omega) hy
  show (a / gI a b) * b = a * (b / gI a b)
  rw [e1, e2]
  generalize gI a b = g at *
  subst hx hy
  grind
theorem mul_cancel {a b m : Int} (hm : m ≠ 0) (h : a * m = b * m) : a = b := Int.eq_of_mul_eq_mul_right hm h
theorem vl_add {q r : F} {a b c d : Int} (hq : 0 < q.2) (hr : 0 < r.2) (h1 : Vl q a b) (h2 : Vl r c d) : Vl (add q r) (a * d + c * b) (b * d) := by
  have hm : 0 < q.2 * r.2 := Int.mul_pos hq hr
  have v := vl_red (a := q.1 * r.2 + r.1 * q.2) hm
  unfold Vl at *
  show (red _ _).1 * _ = _ * (red _ _).2
  generalize red (q.1 * r.2 + r.1 * q.2) (q.2 * r.2) = s at *
  refine mul_cancel (m := q.2 * r.2) (by omega) ?_
  generalize q.1 = q1 at *; generalize q.2 = q2 at *; generalize r.1 = r1 at *; generalize r.2 = r2 at *; generalize s.1 = s1 at *; generalize s.2 = s2 at *
  have e : s1 * (b * d) * (q2 * r2) = (s1 * (q2 * r2)) * (b * d) := by grind
  rw [e, v]
  have e2 : (q1 * r2 + r1 * q2) * s2 * (b * d) = s2 * ((q1 * b) * r2 * d + (r1 * d) * q2 * b) := by grind
  rw [e2, h1, h2]
  grind
theorem vl_mul {q r : F} {a b c d : Int} (hq : 0 < q.2) (hr : 0 < r.2) (h1 : Vl q a b) (h2 : Vl r c d) : Vl (mul q r) (a * c) (b * d) := by
  have hm : 0 < q.2 * r.2 := Int.mul_pos hq hr
  have v := vl_red (a := q.1 * r.1) hm
  unfold Vl at *
  show (red _ _).1 * _ = _ * (red _ _).2
  generalize red (q.1 * r.1) (q.2 * r.2) = s at *
  refine mul_cancel (m := q.2 * r.2) (by omega) ?_
  generalize q.1 = q1 at *; generalize q.2 = q2 at *; generalize r.1 = r1 at *; generalize r.2 = r2 at *; generalize s.1 = s1 at *; generalize s.2 = s2 at *
  have e : s1 * (b * d) * (q2 * r2) = (s1 * (q2 * r2)) * (b * d) := by grind
  rw [e, v]
  have e2 : (q1 * r1) * s2 * (b * d) = s2 * ((q1 * b) * (r1 * d)) := by grind
  rw [e2, h1, h2]
  grind
theorem vl_times {q : F} {a b : Int} (k : Int) (h : Vl q a b) : Vl q (a * k) (b * k) := by
  unfold Vl at *
  have : q.1 * (b * k) = (q.1 * b) * k := by grind
  rw [this, h]
  grind
theorem cop_dvd {x y z : Int} (h : Nat.gcd x.natAbs y.natAbs = 1) (d : y ∣ x * z) : y ∣ z := by
  rw [← Int.natAbs_dvd_natAbs] at *
  rw [Int.natAbs_mul] at d
  exact Nat.Coprime.dvd_of_dvd_mul_left (Nat.Coprime.symm h) d
theorem vl_dvd {q : F} {a b : Int} (o : Ok q) (h : Vl q a b) : q.2 ∣ b := cop_dvd o.2 ⟨a, by unfold Vl at h; rw [h, Int.mul_comm]⟩
theorem vl_uniq {q r : F} {a b : Int} (o : Ok q) (o' : Ok r) (hb : b ≠ 0) (h1 : Vl q a b) (h2 : Vl r a b) : q = r := by
  have e : q.1 * r.2 = r.1 * q.2 := by
    unfold Vl at h1 h2
    refine mul_cancel hb ?_
    have : q.1 * r.2 * b = (q.1 * b) * r.2 := by grind
    rw [this, h1]
    have : r.1 * q.2 * b = (r.1 * b) * q.2 := by grind
    rw [this, h2]
    grind
  have d1 : q.2 ∣ r.2 := cop_dvd o.2 ⟨r.1, by rw [e, Int.mul_comm]⟩
  have d2 : r.2 ∣ q.2 := cop_dvd o'.2 ⟨q.1, by rw [← e, Int.mul_comm]⟩
  have p1 := o.1
  have p2 := o'.1
  have e2 : q.2 = r.2 := Int.le_antisymm (Int.le_of_dvd p2 d1) (Int.le_of_dvd p1 d2)
  have e1 : q.1 = r.1 := by
    rw [e2] at e
    exact mul_cancel (by omega) e
  exact Prod.ext e1 e2
theorem ok_add' {q r : F} (hq : 0 < q.2) (hr : 0 < r.2) : Ok (add q r) := red_ok (Int.mul_pos hq hr)
theorem ok_sub' {q r : F} (hq : 0 < q.2) (hr : 0 < r.2) : Ok (sub q r) := red_ok (Int.mul_pos hq hr)
theorem ok_mul' {q r : F} (hq : 0 < q.2) (hr : 0 < r.2) : Ok (mul q r) := red_ok (Int.mul_pos hq hr)
theorem ok01 : Ok (0, 1) := ⟨by decide, by decide⟩
theorem vl_self (q : F) : Vl q q.1 q.2 := rfl
theorem add_zero : add (0, 1) (0, 1) = (0, 1) := by decide
theorem sub_zero : sub (0, 1) (0, 1) = (0, 1) := by decide
/-- the bottom of a sum where both divide one number -/
theorem dvd_add {q r : F} {D : Int} (o : Ok q) (o' : Ok r) (hD : D ≠ 0) (h1 : q.2 ∣ D) (h2 : r.2 ∣ D) : (add q r).2 ∣ D := by
  obtain ⟨x, hx⟩ := h1
  obtain ⟨y, hy⟩ := h2
  have v1 : Vl q (q.1 * x) D := by unfold Vl; rw [hx]; grind
  have v2 : Vl r (r.1 * y) D := by unfold Vl; rw [hy]; grind
  have v := vl_add o.1 o'.1 v1 v2
  have v' : Vl (add q r) (q.1 * x + r.1 * y) D := by
    unfold Vl at *
    refine mul_cancel hD ?_
    rw [Int.mul_assoc, v]
    grind
  exact vl_dvd (ok_add' o.1 o'.1) v'
theorem dvd_mul {q r : F} {D E : Int} (o : Ok q) (o' : Ok r) (h1 : q.2 ∣ D) (h2 : r.2 ∣ E) : (mul q r).2 ∣ D * E :=
  Int.dvd_trans (vl_dvd (ok_mul' o.1 o'.1) (vl_mul o.1 o'.1 (vl_self q) (vl_self r))) (Int.mul_dvd_mul h1 h2)
end Fq
namespace Rs
open Fq
/-- what it has at a power -/
def co (qs : List F) (k : Nat) : F := qs.getD k (0, 1)
/-- noughts at the end left out -/
def trimN (qs : List F) : Nat → List F
  | 0 => []
  | n + 1 => if co qs n = (0, 1) then trimN qs n else qs.take (n + 1)
def trim (qs : List F) : List F := trimN qs qs.length
theorem trimN_is (qs : List F) : ∀ n, n ≤ qs.length → ∃ k, k ≤ n ∧ trimN qs n = qs.take k
  | 0, _ => ⟨0, Nat.le_refl _, by simp [trimN]⟩
  | n + 1, h => by
    unfold trimN
    split
    · obtain ⟨k, h1, h2⟩ := trimN_is qs n (by omega)
      exact ⟨k, by omega, h2⟩
    · exact ⟨n + 1, Nat.le_refl _, rfl⟩
theorem co_get {qs : List F} {k : Nat} {q : F} (h : qs[k]? = some q) : co qs k = q := by
  unfold co
  rw [List.getD_eq_getElem?_getD, h]
  rfl
theorem co_lt {qs : List F} {k : Nat} (h : k < qs.length) : qs[k]? = some (co qs k) := by
  rw [List.getElem?_eq_getElem h, co_get (List.getElem?_eq_getElem h)]
theorem co_ge {qs : List F} {k : Nat} (h : qs.length ≤ k) : co qs k = (0, 1) := by
  unfold co
  rw [List.getD_eq_getElem?_getD, List.getElem?_eq_none h]
  rfl
theorem co_mem {qs : List F} {k : Nat} (h : k < qs.length) : co qs k ∈ qs := List.mem_of_getElem? (co_lt h)
theorem co_all {P : F → Prop} {qs : List F} (h : ∀ q ∈ qs, P q) (h0 : P (0, 1)) (k : Nat) : P (co qs k) := by
  by_cases c : k < qs.length
  · exact h _ (co_mem c)
  · rw [co_ge (by omega)]
    exact h0
theorem co_snoc {ws : List F} {z : F} {k : Nat} (h : k < ws.length) : co (ws ++ [z]) k = co ws k := by
  refine co_get ?_
  rw [List.getElem?_append_left h, co_lt h]
theorem trimN_snoc {ws : List F} {z : F} : ∀ n, n ≤ ws.length → trimN (ws ++ [z]) n = trimN ws n
  | 0, _ => rfl
  | n + 1, h => by
    unfold trimN
    rw [co_snoc (by omega), trimN_snoc n (by omega), List.take_append_of_le_length h]
theorem trim_snoc (ws : List F) : trim (ws ++ [(0, 1)]) = trim ws := by
  unfold trim
  rw [List.length_append, List.length_singleton]
  show (if co (ws ++ [(0, 1)]) ws.length = (0, 1) then _ else _) = _
  rw [if_pos (co_get (by simp)), trimN_snoc _ (Nat.le_refl _)]
theorem trim_rep : ∀ n : Nat, trim (List.replicate n (0, 1)) = []
  | 0 => rfl
  | n + 1 => by
    rw [List.replicate_succ', trim_snoc, trim_rep n]
theorem trimN_nz (qs : List F) : ∀ n, n ≤ qs.length → trimN qs n = [] ∨ ∃ k, k < n ∧ trimN qs n = qs.take (k + 1) ∧ co qs k ≠ (0, 1)
  | 0, _ => .inl rfl
  | n + 1, h => by
    unfold trimN
    split
    · rcases trimN_nz qs n (by omega) with e | ⟨k, h1, h2, h3⟩
      · exact .inl e
      · exact .inr ⟨k, by omega, h2, h3⟩
    · rename_i c
      exact .inr ⟨n, by omega, rfl, c⟩
/-- a polynomial: the last one not nought -/
def Pn (qs : List F) : Prop := qs = [] ∨ co qs (qs.length - 1) ≠ (0, 1)
theorem trim_pn (qs : List F) : Pn (trim qs) := by
  rcases trimN_nz qs qs.length (Nat.le_refl _) with e | ⟨k, h1, h2, h3⟩
  · exact .inl e
  · right
    have l : (trim qs).length = k + 1 := by
      show (trimN _ _).length = _
      rw [h2, List.length_take]
      omega
    rw [l, Nat.add_sub_cancel]
    have : co (trim qs) k = co qs k := by
      refine co_get ?_
      show (trimN _ _)[k]? = _
      rw [h2, List.getElem?_take_of_lt (by omega), co_lt h1]
    rw [this]
    exact h3
theorem trim_mem {qs : List F} {q : F} (h : q ∈ trim qs) : q ∈ qs := by
  obtain ⟨k, _, e⟩ := trimN_is qs qs.length (Nat.le_refl _)
  rw [trim, e] at h
  exact List.mem_of_mem_take h
theorem trim_len (qs : List F) : (trim qs).length ≤ qs.length := by
  obtain ⟨k, h, e⟩ := trimN_is qs qs.length (Nat.le_refl _)
  rw [trim, e, List.length_take]
  omega
theorem trim_of {qs : List F} (h : Pn qs) : trim qs = qs := by
  unfold trim
  rcases h with rfl | h
  · rfl
  · cases e : qs.length with
    | zero => rw [List.eq_nil_of_length_eq_zero e]; rfl
    | succ n =>
      rw [e, Nat.add_sub_cancel] at h
      unfold trimN
      rw [if_neg h, ← e, List.take_length]
/-- power by power -/
def byPower (op : F → F → F) (qs rs : List F) (n : Nat) : List F := (List.range n).map fun k => op (co qs k) (co rs k)
theorem byPower_succ (op : F → F → F) (qs rs : List F) (n : Nat) : byPower op qs rs (n + 1) = byPower op qs rs n ++ [op (co qs n) (co rs n)] := by
  rw [byPower, List.range_succ, List.map_append]
  rfl
theorem byPower_len (op : F → F → F) (qs rs : List F) (n : Nat) : (byPower op qs rs n).length = n := by
  rw [byPower, List.length_map, List.length_range]
theorem byPower_trim {op : F → F → F} (h0 : op (0, 1) (0, 1) = (0, 1)) {qs rs : List F} {m : Nat} (h1 : qs.length ≤ m) (h2 : rs.length ≤ m) : ∀ d, trim (byPower op qs rs (m + d)) = trim (byPower op qs rs m)
  | 0 => rfl
  | d + 1 => by
    rw [← Nat.add_assoc, byPower_succ, co_ge (by omega), co_ge (by omega), h0, trim_snoc, byPower_trim h0 h1 h2 d]
theorem byPower_mem {op : F → F → F} {qs rs : List F} {n : Nat} {q : F} (h : q ∈ byPower op qs rs n) : ∃ k, q = op (co qs k) (co rs k) := by
  obtain ⟨k, _, rfl⟩ := List.mem_map.mp h
  exact ⟨k, rfl⟩
/-! ### products -/
def stepJ (w : List F) (i : Nat) (p : F) (rs : List F) : Nat → List F
  | 0 => w
  | j + 1 => (stepJ w i p rs j).set (i + j) (add (co (stepJ w i p rs j) (i + j)) (mul p (co rs j)))
def stepI (w : List F) (qs rs : List F) : Nat → List F
  | 0 => w
  | i + 1 => stepJ (stepI w qs rs i) i (co qs i) rs rs.length
def prodN (n : Nat) (qs rs : List F) : List F := stepI (List.replicate n (0, 1)) qs rs qs.length
theorem stepJ_len (w : List F) (i : Nat) (p : F) (rs : List F) : ∀ j, (stepJ w i p rs j).length = w.length
  | 0 => rfl
  | j + 1 => by
    show (List.set _ _ _).length = _
    rw [List.length_set, stepJ_len w i p rs j]
theorem stepI_len (w qs rs : List F) : ∀ i, (stepI w qs rs i).length = w.length
  | 0 => rfl
  | i + 1 => by
    show (stepJ _ _ _ _ _).length = _
    rw [stepJ_len, stepI_len w qs rs i]
theorem prodN_len (n : Nat) (qs rs : List F) : (prodN n qs rs).length = n := by
  rw [prodN, stepI_len, List.length_replicate]
theorem stepJ_snoc (w : List F) (z : F) (i : Nat) (p : F) (rs : List F) : ∀ j, i + j ≤ w.length → stepJ (w ++ [z]) i p rs j = stepJ w i p rs j ++ [z]
  | 0, _ => rfl
  | j + 1, h => by
    have l := stepJ_len w i p rs j
    show (stepJ (w ++ [z]) i p rs j).set _ _ = (stepJ w i p rs j).set _ _ ++ [z]
    rw [stepJ_snoc w z i p rs j (by omega), co_snoc (by omega), List.set_append_left _ _ (by omega)]
theorem stepI_snoc (w : List F) (z : F) (qs rs : List F) : ∀ i, i + rs.length ≤ w.length + 1 → stepI (w ++ [z]) qs rs i = stepI w qs rs i ++ [z]
  | 0, _ => rfl
  | i + 1, h => by
    have l := stepI_len w qs rs i
    show stepJ (stepI (w ++ [z]) qs rs i) _ _ _ _ = stepJ (stepI w qs rs i) _ _ _ _ ++ [z]
    rw [stepI_snoc w z qs rs i (by omega), stepJ_snoc _ _ _ _ _ _ (by omega)]
def prodL (qs rs : List F) : List F := if qs = [] ∨ rs = [] then [] else prodN (qs.length + rs.length - 1) qs rs
theorem prodN_nil (n : Nat) (qs : List F) : prodN n qs [] = List.replicate n (0, 1) := by
  have : ∀ (w : List F) i, stepI w qs [] i = w := fun w i => by
    induction i with
    | zero => rfl
    | succ i h =>
      show stepJ (stepI w qs [] i) i (co qs i) [] 0 = _
      exact h
  exact this _ _
theorem prod_all (qs rs : List F) : trim (prodN (qs.length + rs.length) qs rs) = trim (prodL qs rs) := by
  unfold prodL
  split
  · rename_i c
    rcases c with rfl | rfl
    · show trim (List.replicate _ _) = _
      rw [trim_rep]
      rfl
    · rw [prodN_nil, trim_rep]
      rfl
  · rename_i c
    have h1 : qs ≠ [] := fun z => c (.inl z)
    have h2 : rs ≠ [] := fun z => c (.inr z)
    have l1 := List.length_pos_iff.mpr h1
    have l2 := List.length_pos_iff.mpr h2
    obtain ⟨n, e⟩ : ∃ n, qs.length + rs.length = n + 1 := ⟨qs.length + rs.length - 1, by omega⟩
    rw [e, Nat.add_sub_cancel]
    unfold prodN
    rw [List.replicate_succ', stepI_snoc _ _ _ _ _ (by rw [List.length_replicate]; omega), trim_snoc]
/-- small fractions -/
structure S3 (q : F) : Prop where
  ok : Fq.Ok q
  b : q.2 ≤ 3
  a : q.1.natAbs < 16
theorem S3.zero : S3 (0, 1) := ⟨Fq.ok01, by decide, by decide⟩
theorem S3.cases {q : F} (h : S3 q) : q.2 = 1 ∨ q.2 = 2 ∨ q.2 = 3 := by
  have := h.ok.1
  have := h.b
  omega
theorem S3.d6 {q : F} (h : S3 q) : q.2 ∣ 6 := by
  rcases h.cases with e | e | e <;> rw [e] <;> decide
/-- what a product's parts may be, behind so many steps -/
structure Pb (k : Nat) (q : F) : Prop where
  ok : Fq.Ok q
  b : q.2 ∣ 36
  a : q.1.natAbs < 2 ^ (20 + 8 * k)
theorem Pb.zero : Pb 0 (0, 1) := ⟨Fq.ok01, by decide, by decide⟩
theorem Pb.mono {k m : Nat} {q : F} (h : Pb k q) (e : k ≤ m) : Pb m q := ⟨h.ok, h.b, Nat.lt_of_lt_of_le h.a (Nat.pow_le_pow_right (by decide) (by omega))⟩
theorem Pb.le {k : Nat} {q : F} (h : Pb k q) : q.2 ≤ 36 := Int.le_of_dvd (by decide) h.b
theorem red_top {a b : Int} (h : 0 < b) : (red a b).1.natAbs ≤ a.natAbs := by
  have hg := gI_pos (a := a) (b := b) (by omega)
  show (a / gI a b).natAbs ≤ a.natAbs
  obtain ⟨x, hx⟩ := gI_dvd_l a b
  have e1 : a / gI a b = x := Int.ediv_eq_of_eq_mul_right (by omega) hx
  rw [e1]
  have q1 : a.natAbs = (gI a b).natAbs * x.natAbs := by
    have := congrArg Int.natAbs hx
    rwa [Int.natAbs_mul] at this
  rw [q1]
  exact Nat.le_mul_of_pos_left _ (by omega)
theorem mul_s3 {p r : F} (hp : S3 p) (hr : S3 r) : Fq.Ok (mul p r) ∧ (mul p r).2 ∣ 36 ∧ (mul p r).1.natAbs < 256 := by
  refine ⟨ok_mul' hp.ok.1 hr.ok.1, dvd_mul hp.ok hr.ok hp.d6 hr.d6, ?_⟩
  refine Nat.lt_of_le_of_lt (red_top (Int.mul_pos hp.ok.1 hr.ok.1)) ?_
  rw [Int.natAbs_mul]
  have := hp.a
  have := hr.a
  have : p.1.natAbs * r.1.natAbs ≤ 15 * 15 := Nat.mul_le_mul (by omega) (by omega)
  omega
theorem Pb.step {k : Nat} {q p r : F} (h : Pb k q) (hp : S3 p) (hr : S3 r) : Pb (k + 1) (add q (mul p r)) := by
  obtain ⟨o, d, l⟩ := mul_s3 hp hr
  refine ⟨ok_add' h.ok.1 o.1, dvd_add h.ok o (by decide) h.b d, ?_⟩
  refine Nat.lt_of_le_of_lt (red_top (Int.mul_pos h.ok.1 o.1)) ?_
  have b1 := h.le
  have b2 : (mul p r).2 ≤ 36 := Int.le_of_dvd (by decide) d
  have p1 := h.ok.1
  have p2 := o.1
  have := Int.natAbs_add_le (q.1 * (mul p r).2) ((mul p r).1 * q.2)
  rw [Int.natAbs_mul, Int.natAbs_mul] at this
  have m1 : q.1.natAbs * (mul p r).2.natAbs ≤ q.1.natAbs * 36 := Nat.mul_le_mul (Nat.le_refl _) (by omega)
  have m2 : (mul p r).1.natAbs * q.2.natAbs ≤ 255 * 36 := Nat.mul_le_mul (by omega) (by omega)
  have e : 2 ^ (20 + 8 * (k + 1)) = 2 ^ (20 + 8 * k) * 256 := by
    rw [show 20 + 8 * (k + 1) = (20 + 8 * k) + 8 by omega, Nat.pow_add]
  have := h.a
  have : 2 ^ 20 ≤ 2 ^ (20 + 8 * k) := Nat.pow_le_pow_right (by decide) (by omega)
  have : (2 : Nat) ^ 20 = 1048576 := by decide
  rw [e]
  omega
theorem stepJ_pb {k i : Nat} {w : List F} {p : F} {rs : List F} (hw : ∀ q ∈ w, Pb k q) (hp : S3 p) (hr : ∀ r ∈ rs, S3 r) : ∀ j, i + j ≤ w.length → ∀ q ∈ stepJ w i p rs j, Pb (k + j) q
  | 0, _ => hw
  | j + 1, h => fun q hq => by
    have ih := stepJ_pb (i := i) hw hp hr j (by omega)
    have l := stepJ_len w i p rs j
    rcases List.mem_or_eq_of_mem_set hq with m | rfl
    · exact (ih q m).mono (by omega)
    · exact (ih _ (co_mem (by omega))).step hp (co_all hr S3.zero j)
theorem stepI_pb {k : Nat} {w qs rs : List F} (hw : ∀ q ∈ w, Pb k q) (hp : ∀ q ∈ qs, S3 q) (hr : ∀ r ∈ rs, S3 r) : ∀ i, i + rs.length ≤ w.length + 1 → ∀ q ∈ stepI w qs rs i, Pb (k + i * rs.length) q
  | 0, _ => by
    rw [Nat.zero_mul]
    exact hw
  | i + 1, h => fun q hq => by
    have ih := stepI_pb (qs := qs) hw hp hr i (by omega)
    have l := stepI_len w qs rs i
    have := stepJ_pb (i := i) ih (co_all hp S3.zero i) hr rs.length (by omega) q hq
    rw [Nat.succ_mul, ← Nat.add_assoc]
    exact this
theorem rep_pb (n : Nat) : ∀ q ∈ List.replicate n ((0, 1) : F), Pb 0 q := fun q h => by
  rw [(List.mem_replicate.mp h).2]
  exact Pb.zero
/-! ### worths -/
def hor (m : F) : List F → F
  | [] => (0, 1)
  | c :: cs => add (mul (hor m cs) m) c
def wat (m : F) : List Int → Int × Int
  | [] => (0, 1)
  | v :: vs => ((wat m vs).1 * m.1 + v * (wat m vs).2, (wat m vs).2 * m.2)
/-- each is g times the integer, divided by B -/
inductive HV (g B : Int) : List F → List Int → Prop
  | nil : HV g B [] []
  | cons {q : F} {qs : List F} {v : Int} {vs : List Int} : Fq.Ok q → Vl q (g * v) B → HV g B qs vs → HV g B (q :: qs) (v :: vs)
theorem HV.len {g B : Int} {qs : List F} {vs : List Int} (h : HV g B qs vs) : qs.length = vs.length := by
  induction h with
  | nil => rfl
  | cons _ _ _ ih => rw [List.length_cons, List.length_cons, ih]
theorem wat_pow (m : F) : ∀ vs : List Int, (wat m vs).2 = m.2 ^ vs.length
  | [] => by rw [List.length_nil, Int.pow_zero]; rfl
  | v :: vs => by
    show (wat m vs).2 * m.2 = _
    rw [wat_pow m vs, List.length_cons, Int.pow_succ]
theorem hor_vl {m : F} (hm : 0 < m.2) {g B : Int} (hB : 0 < B) {qs : List F} {vs : List Int} (h : HV g B qs vs) :
    Fq.Ok (hor m qs) ∧ Vl (hor m qs) (g * (wat m vs).1 * m.2) (B * (wat m vs).2) ∧ 0 < (wat m vs).2 := by
  induction h with
  | nil => exact ⟨ok01, by show (0 : Int) * _ = g * 0 * m.2 * 1; rw [Int.mul_zero, Int.zero_mul, Int.zero_mul, Int.zero_mul], Int.zero_lt_one⟩
  | cons o hv h ih =>
    rename_i q qs v vs
    obtain ⟨i1, i2, i3⟩ := ih
    have om := ok_mul' i1.1 hm
    refine ⟨ok_add' om.1 o.1, ?_, Int.mul_pos i3 hm⟩
    have t := vl_add om.1 o.1 (vl_mul i1.1 hm i2 (vl_self m)) hv
    show Vl (add (mul (hor m qs) m) q) (g * ((wat m vs).1 * m.1 + v * (wat m vs).2) * m.2) (B * ((wat m vs).2 * m.2))
    generalize add (mul (hor m qs) m) q = s at *
    generalize (wat m vs).1 = W at *
    generalize (wat m vs).2 = b at *
    unfold Vl at *
    refine mul_cancel (m := B) (by omega) ?_
    have e : s.1 * (B * (b * m.2)) * B = s.1 * (B * b * m.2 * B) := by grind
    rw [e, t]
    grind
theorem worth_eq {m : F} (hm : 0 < m.2) {g B : Int} (hB : 0 < B) {qs : List F} {vs : List Int} (h : HV g B qs vs) :
    mul (red g B) (red (wat m vs).1 (m.2 ^ (vs.length - 1))) = hor m qs := by
  obtain ⟨i1, i2, i3⟩ := hor_vl hm hB h
  have hp : 0 < m.2 ^ (vs.length - 1) := Int.pow_pos hm
  have o1 := red_ok (a := g) hB
  have o2 := red_ok (a := (wat m vs).1) hp
  have t := vl_mul o1.1 o2.1 (vl_red hB) (vl_red hp)
  refine vl_uniq (ok_mul' o1.1 o2.1) i1 (Int.ne_of_gt (Int.mul_pos hB i3)) ?_ i2
  cases vs with
  | nil =>
    have e : (wat m []).1 = 0 := rfl
    have e2 : (wat m []).2 = 1 := rfl
    rw [e] at t ⊢
    rw [e2]
    have e3 : m.2 ^ (([] : List Int).length - 1) = 1 := by rw [List.length_nil, Nat.zero_sub, Int.pow_zero]
    rw [e3] at t ⊢
    rw [Int.mul_zero] at t ⊢
    rw [Int.zero_mul]
    exact t
  | cons v vs =>
    have e : m.2 ^ ((v :: vs).length - 1) * m.2 = (wat m (v :: vs)).2 := by
      rw [wat_pow, List.length_cons, Nat.add_sub_cancel, Int.pow_succ]
    have t2 := vl_times m.2 t
    rw [Int.mul_assoc B, e] at t2
    exact t2
end Rs
namespace Rs
open Fq
theorem hv6 : ∀ {qs : List F}, (∀ q ∈ qs, S3 q) → HV 1 6 qs (qs.map fun q => q.1 * (6 / q.2))
  | [], _ => .nil
  | q :: qs, h => by
    have s := h q List.mem_cons_self
    refine .cons s.ok ?_ (hv6 fun r hr => h r (List.mem_cons_of_mem _ hr))
    show q.1 * 6 = 1 * (q.1 * (6 / q.2)) * q.2
    rw [Int.one_mul, Int.mul_assoc, Int.ediv_mul_cancel s.d6]
theorem pow3 {m : F} (hm : S3 m) (k : Nat) : 0 < m.2 ^ k ∧ m.2 ^ k ≤ 3 ^ k := by
  refine ⟨Int.pow_pos hm.ok.1, ?_⟩
  induction k with
  | zero => simp
  | succ k ih =>
    have := hm.ok.1
    have := hm.b
    rw [Int.pow_succ, Int.pow_succ]
    exact Int.mul_le_mul ih hm.b (by omega) (Int.le_of_lt (Int.pow_pos (by decide)))
theorem pow3_le {k : Nat} (h : k ≤ 6) : (3 : Int) ^ k ≤ 729 := by
  have : ∀ k, k < 7 → (3 : Int) ^ k ≤ 729 := by decide
  exact this k (by omega)
theorem hor_ok {m : F} (hm : S3 m) {qs : List F} (h : ∀ q ∈ qs, S3 q) : Fq.Ok (hor m qs) ∧ (hor m qs).2 ≤ 6 * 3 ^ qs.length := by
  obtain ⟨o, v, p⟩ := hor_vl hm.ok.1 (g := 1) (B := 6) (by decide) (hv6 h)
  refine ⟨o, ?_⟩
  have d := vl_dvd o v
  have hp : 0 < 6 * (wat m (qs.map fun q => q.1 * (6 / q.2))).2 := Int.mul_pos (by decide) p
  have l := Int.le_of_dvd hp d
  rw [wat_pow, List.length_map] at l
  have := (pow3 hm qs.length).2
  omega
theorem hor_num {m : F} (hm : S3 m) : ∀ {qs : List F}, (∀ q ∈ qs, S3 q) → qs.length ≤ 6 → (hor m qs).1.natAbs < 2 ^ (20 + 12 * qs.length)
  | [], _, _ => by
    show (0 : Nat) < _
    exact Nat.pow_pos (by decide)
  | c :: cs, h, l => by
    have hc := h c List.mem_cons_self
    have hs : ∀ q ∈ cs, S3 q := fun r hr => h r (List.mem_cons_of_mem _ hr)
    simp only [List.length_cons] at l ⊢
    have ih := hor_num hm hs (by omega)
    obtain ⟨o, d⟩ := hor_ok hm hs
    show (add (mul (hor m cs) m) c).1.natAbs < _
    generalize hor m cs = q at *
    have mp := Int.mul_pos o.1 hm.ok.1
    have om := ok_mul' o.1 hm.ok.1
    have t1 : (mul q m).1.natAbs ≤ q.1.natAbs * 16 := by
      refine Nat.le_trans (red_top mp) ?_
      rw [Int.natAbs_mul]
      exact Nat.mul_le_mul (Nat.le_refl _) (by have := hm.a; omega)
    have t2 : (mul q m).2 ≤ q.2 * m.2 := Int.le_of_dvd mp (vl_dvd om (vl_mul o.1 hm.ok.1 (vl_self q) (vl_self m)))
    have t3 : q.2 * m.2 ≤ 4374 * 3 := by
      have := pow3_le (k := cs.length) (by omega)
      exact Int.mul_le_mul (by omega) hm.b (by have := hm.ok.1; omega) (by decide)
    refine Nat.lt_of_le_of_lt (red_top (Int.mul_pos om.1 hc.ok.1)) ?_
    have p1 := om.1
    have p2 := hc.ok.1
    have b2 := hc.b
    have := Int.natAbs_add_le ((mul q m).1 * c.2) (c.1 * (mul q m).2)
    rw [Int.natAbs_mul, Int.natAbs_mul] at this
    have m1 : (mul q m).1.natAbs * c.2.natAbs ≤ (q.1.natAbs * 16) * 3 := Nat.mul_le_mul t1 (by omega)
    have m2 : c.1.natAbs * (mul q m).2.natAbs ≤ 15 * 13122 := Nat.mul_le_mul (by have := hc.a; omega) (by omega)
    have e : 2 ^ (20 + 12 * (cs.length + 1)) = 2 ^ (20 + 12 * cs.length) * 4096 := by
      rw [show 20 + 12 * (cs.length + 1) = (20 + 12 * cs.length) + 12 by omega, Nat.pow_add]
    have : 2 ^ 20 ≤ 2 ^ (20 + 12 * cs.length) := Nat.pow_le_pow_right (by decide) (by omega)
    have : (2 : Nat) ^ 20 = 1048576 := by decide
    rw [e]
    omega
/-! ### the common bottom, the common divisor -/
def botN (qs : List F) : Nat → Int
  | 0 => 1
  | i + 1 => botN qs i / gI (botN qs i) (co qs i).2 * (co qs i).2
def B6 (b : Int) : Prop := b = 1 ∨ b = 2 ∨ b = 3 ∨ b = 6
theorem bot_step {b d : Int} (hb : B6 b) (hd : d = 1 ∨ d = 2 ∨ d = 3) : B6 (b / gI b d * d) ∧ b ∣ b / gI b d * d ∧ d ∣ b / gI b d * d := by
  unfold B6
  rcases hb with rfl | rfl | rfl | rfl <;> rcases hd with rfl | rfl | rfl <;> decide
theorem botN_ok {qs : List F} (h : ∀ q ∈ qs, S3 q) : ∀ i, B6 (botN qs i) ∧ ∀ k, k < i → (co qs k).2 ∣ botN qs i
  | 0 => ⟨.inl rfl, fun k hk => absurd hk (by omega)⟩
  | i + 1 => by
    obtain ⟨a, b⟩ := botN_ok h i
    obtain ⟨c, d, e⟩ := bot_step a (co_all h S3.zero i).cases
    refine ⟨c, fun k hk => ?_⟩
    by_cases z : k = i
    · rw [z]
      exact e
    · exact Int.dvd_trans (b k (by omega)) d
theorem B6.pos {b : Int} (h : B6 b) : 0 < b ∧ b ≤ 6 := by unfold B6 at h; omega
def wholeL (B : Int) (qs : List F) : List Int := qs.map fun q => q.1 * (B / q.2)
def cmN (ws : List Int) : Nat → Int
  | 0 => 0
  | i + 1 => gI (cmN ws i) (ws.getD i 0)
theorem gI_lt {a b : Int} {n : Nat} (h1 : a.natAbs < n) (h2 : b.natAbs < n) : 0 ≤ gI a b ∧ (gI a b).natAbs < n := by
  unfold gI
  refine ⟨Int.natCast_nonneg _, ?_⟩
  rw [Int.natAbs_natCast]
  by_cases z : b.natAbs = 0
  · rw [z, Nat.gcd_zero_right]
    exact h1
  · exact Nat.lt_of_le_of_lt (Nat.gcd_le_right _ (by omega)) h2
theorem getD_mem {ws : List Int} {P : Int → Prop} (h : ∀ w ∈ ws, P w) (h0 : P 0) (k : Nat) : P (ws.getD k 0) := by
  rw [List.getD_eq_getElem?_getD]
  cases e : ws[k]? with
  | none => exact h0
  | some w => exact h w (List.mem_of_getElem? e)
theorem cmN_ok {ws : List Int} (h : ∀ w ∈ ws, w.natAbs < 128) : ∀ i, 0 ≤ cmN ws i ∧ (cmN ws i).natAbs < 128 ∧ ∀ k, k < i → cmN ws i ∣ ws.getD k 0
  | 0 => ⟨Int.le_refl _, (by show (0 : Int).natAbs < 128; decide), fun k hk => absurd hk (by omega)⟩
  | i + 1 => by
    obtain ⟨a, b, c⟩ := cmN_ok h i
    obtain ⟨d, e⟩ := gI_lt b (getD_mem (P := fun w => w.natAbs < 128) h (by decide) i)
    refine ⟨d, e, fun k hk => ?_⟩
    by_cases z : k = i
    · rw [z]
      exact gI_dvd_r _ _
    · exact Int.dvd_trans (gI_dvd_l _ _) (c k (by omega))
def gg (c : Int) : Int := if (1 : Int) > c then 1 else c
theorem gg_ok {ws : List Int} (h : ∀ w ∈ ws, w.natAbs < 128) : 0 < gg (cmN ws ws.length) ∧ (gg (cmN ws ws.length)).natAbs < 128 ∧ ∀ w ∈ ws, gg (cmN ws ws.length) ∣ w := by
  obtain ⟨a, b, c⟩ := cmN_ok h ws.length
  unfold gg
  split
  · exact ⟨by decide, by decide, fun w _ => Int.one_dvd w⟩
  · refine ⟨by omega, b, fun w hw => ?_⟩
    obtain ⟨k, hk, e⟩ := List.getElem_of_mem hw
    have := c k hk
    rw [List.getD_eq_getElem?_getD, List.getElem?_eq_getElem hk] at this
    rw [← e]
    exact this
theorem whole_lt {B : Int} {qs : List F} (hB : B6 B) (h : ∀ q ∈ qs, S3 q) (hd : ∀ q ∈ qs, q.2 ∣ B) : ∀ w ∈ wholeL B qs, w.natAbs < 128 := by
  intro w hw
  obtain ⟨q, hq, rfl⟩ := List.mem_map.mp hw
  have s := h q hq
  have l : B / q.2 ≤ 6 ∧ 0 ≤ B / q.2 := by
    have := hB.pos
    rcases s.cases with e | e | e <;> rw [e] <;> omega
  rw [Int.natAbs_mul]
  have := s.a
  have : q.1.natAbs * (B / q.2).natAbs ≤ 15 * 6 := Nat.mul_le_mul (by omega) (by omega)
  omega
theorem hv_of {B g : Int} : ∀ {qs : List F}, (∀ q ∈ qs, S3 q) → (∀ q ∈ qs, q.2 ∣ B) → (∀ w ∈ wholeL B qs, g ∣ w) → HV g B qs ((wholeL B qs).map (· / g))
  | [], _, _, _ => .nil
  | q :: qs, h, hd, hg => by
    refine .cons (h q List.mem_cons_self).ok ?_ (hv_of (fun r hr => h r (List.mem_cons_of_mem _ hr)) (fun r hr => hd r (List.mem_cons_of_mem _ hr)) (fun w hw => hg w (List.mem_cons_of_mem _ hw)))
    show q.1 * B = g * (q.1 * (B / q.2) / g) * q.2
    rw [Int.mul_ediv_cancel' (hg _ List.mem_cons_self), Int.mul_assoc, Int.ediv_mul_cancel (hd q List.mem_cons_self)]
theorem wat_num {m : F} (hm : S3 m) : ∀ {vs : List Int}, (∀ v ∈ vs, v.natAbs < 128) → vs.length ≤ 6 → (wat m vs).1.natAbs < 2 ^ (20 + 8 * vs.length) ∧ 0 < (wat m vs).2 ∧ (wat m vs).2 ≤ 729
  | [], _, _ => ⟨by show (0 : Nat) < _; exact Nat.pow_pos (by decide), Int.zero_lt_one, (by show (1 : Int) ≤ 729; decide)⟩
  | v :: vs, h, l => by
    have hv := h v List.mem_cons_self
    simp only [List.length_cons] at l
    obtain ⟨i1, i2, i3⟩ := wat_num hm (vs := vs) (fun r hr => h r (List.mem_cons_of_mem _ hr)) (by omega)
    refine ⟨?_, ?_, ?_⟩
    · show ((wat m vs).1 * m.1 + v * (wat m vs).2).natAbs < 2 ^ (20 + 8 * (vs.length + 1))
      have := Int.natAbs_add_le ((wat m vs).1 * m.1) (v * (wat m vs).2)
      rw [Int.natAbs_mul, Int.natAbs_mul] at this
      have m1 : (wat m vs).1.natAbs * m.1.natAbs ≤ (wat m vs).1.natAbs * 16 := Nat.mul_le_mul (Nat.le_refl _) (by have := hm.a; omega)
      have m2 : v.natAbs * (wat m vs).2.natAbs ≤ 127 * 729 := Nat.mul_le_mul (by omega) (by omega)
      have e : 2 ^ (20 + 8 * (vs.length + 1)) = 2 ^ (20 + 8 * vs.length) * 256 := by
        rw [show 20 + 8 * (vs.length + 1) = (20 + 8 * vs.length) + 8 by omega, Nat.pow_add]
      have : 2 ^ 20 ≤ 2 ^ (20 + 8 * vs.length) := Nat.pow_le_pow_right (by decide) (by omega)
      have : (2 : Nat) ^ 20 = 1048576 := by decide
      rw [e]
      omega
    · rw [wat_pow]
      exact (pow3 hm _).1
    · rw [wat_pow]
      have := (pow3 hm (v :: vs).length).2
      have := pow3_le (k := (v :: vs).length) (by rw [List.length_cons]; omega)
      omega
theorem div_lt {ws : List Int} {g : Int} (h : ∀ w ∈ ws, w.natAbs < 128) : ∀ v ∈ ws.map (· / g), v.natAbs < 128 := by
  intro v hv
  obtain ⟨w, hw, rfl⟩ := List.mem_map.mp hv
  exact Nat.lt_of_le_of_lt (Int.natAbs_ediv_le_natAbs w g) (h w hw)
end Rs


set_option Elab.async false
set_option linter.all false
set_option maxRecDepth 100000
set_option maxHeartbeats 2000000
namespace Rs
open PySem L2 Bs Fq
def top (i : Nat) : Stmt := PySem.Challenge.pw_rungshare_k02_whole_rows.main.body.getD i (.Pass ⟨0, 0, 0, 0⟩)
abbrev fr (q : F) : HO := .tup [.int q.1, .int q.2]
/-- a value that is a fraction's tuple -/
def Fr (K : PySem.W.Frag) (H : Hp) (v : V) (q : F) : Prop := ∃ a, v = .ref a ∧ SqT K H a [.int q.1, .int q.2]
theorem Fr.of {K : PySem.W.Frag} {H : Hp} {p : Addr} {q : F} (h : H p = some (fr q)) : Fr K H (.ref p) q := ⟨p, rfl, SqT.of h⟩
theorem Fr.mono {K : PySem.W.Frag} {H H' : Hp} {v : V} {q : F} (h : Fr K H v q) (e : Same H H') : Fr K H' v q := by
  obtain ⟨a, rfl, s⟩ := h
  exact ⟨a, rfl, Same.t e s⟩
def Lt2 (n : Nat) (x : Int) : Prop := x.natAbs < 2 ^ n
theorem Lt2.mono {m n : Nat} {x : Int} (h : Lt2 m x) (k : m ≤ n) : Lt2 n x := Nat.lt_of_lt_of_le h (Nat.pow_le_pow_right (by decide) k)
theorem Lt2.c {m n : Nat} {x y : Int} (h : Lt2 m x) (k : Lt2 n y) (h0 : 0 < m := by decide) (h1 : 0 < n := by decide) (h2 : m + n ≤ 1000000 := by decide) : CMulW x y := wide_mul h k h0 h1 h2
/-- what the program reckons with -/
structure Dm (q : F) : Prop where
  big : Lt2 2000 q.1
  pos : 0 < q.2
  low : q.2 < 32768
theorem Dm.l2 {q : F} (h : Dm q) : Lt2 15 q.2 := by
  have := h.pos; have := h.low
  show q.2.natAbs < 32768
  omega
theorem mulPos {a b : Int} (h1 : 0 < a) (h2 : a < 32768) (h3 : 0 < b) (h4 : b < 32768) : 0 < a * b ∧ (a * b).natAbs < 1073741824 := by
  refine ⟨Int.mul_pos h1 h3, ?_⟩
  rw [Int.natAbs_mul]
  have : a.natAbs * b.natAbs ≤ 32767 * 32767 := Nat.mul_le_mul (by omega) (by omega)
  omega
structure DefN (K : PySem.W.Frag) (mg : Str → Option Value) (x : Str) (st : Stmt) (ps : List Str) : Prop where
  ex : ∃ (f : Addr) (fd : FuncData), Fun K x x st f fd ∧ mg x = some (.ref f) ∧ Binds K fd ps []
/-- the built-ins keep their names -/
structure Blt (mg : Str → Option Value) : Prop where
  isinstance : mg "isinstance" = none
  len : mg "len" = none
  int : mg "int" = none
  bool : mg "bool" = none
  tuple : mg "tuple" = none
  range : mg "range" = none
  list : mg "list" = none
  abs : mg "abs" = none
  min : mg "min" = none
  repr : mg "repr" = none
  gcd : mg "gcd" = some (.builtin "math.gcd")
section
variable {P : Program} {w : World} {K : PySem.W.Frag} {mg : Str → Option Value} {base : Heap} {k : Nat} {x : Str} {st : Stmt} {ps : List Str} {sp : Sp}
theorem DefN.cal (D : DefN K mg x st ps) (h : ∀ f fd, Fun K x x st f fd → FnOk P w K mg base CX0 k f fd ps sp) : Cal P w K mg base k x sp := by
  obtain ⟨f, fd, F, m, b⟩ := D.ex
  exact ⟨f, fd, ps, h f fd F, m, F.kp, b⟩
theorem DefN.calX (D : DefN K mg x st ps) (h : ∀ f fd, Fun K x x st f fd → FnOk P w K mg base (L2.CX P w) k f fd ps sp) : CalX P w K mg base k x sp := by
  obtain ⟨f, fd, F, m, b⟩ := D.ex
  exact ⟨f, fd, ps, h f fd F, m, F.kp, b⟩
theorem DefN.calG (D : DefN K mg x st ps) (h : ∀ f fd, Fun K x x st f fd → FnG P w K mg base k f fd ps sp) : CalG P w K mg base k x sp := by
  obtain ⟨f, fd, F, m, b⟩ := D.ex
  exact ⟨f, fd, ps, h f fd F, m, F.kp, b⟩
end
/-! ### bare -/
abbrev sReduced : Stmt := top 3
abbrev sAdded : Stmt := top 4
abbrev sTimed : Stmt := top 5
abbrev sRaised : Stmt := top 6
abbrev sBelow : Stmt := top 7
/-- reduced(top, bottom) -/
def spReduced : Sp := fun vs H Q _ => ∃ (a b : Int), vs = [.int a, .int b] ∧ b ≠ 0 ∧ b.natAbs < 1073741824 ∧ ∀ p, H p = none → Q (.ref p) (upd H p (fr (redP a b)))
/-- two fractions in, one out -/
def spOp (K : PySem.W.Frag) (op : F → F → F) (dom : F → F → Prop) : Sp := fun vs H Q _ => ∃ (x y : V) (q r : F), vs = [x, y] ∧ Fr K H x q ∧ Fr K H y r ∧ dom q r ∧ ∀ p, H p = none → Q (.ref p) (upd H p (fr (op q r)))
def dom2 (q r : F) : Prop := Dm q ∧ Dm r
def domD (q r : F) : Prop := Dm q ∧ Dm r ∧ r.1 ≠ 0 ∧ r.1.natAbs < 32768
def spLt (K : PySem.W.Frag) : Sp := fun vs H Q _ => ∃ (x y : V) (q r : F), vs = [x, y] ∧ Fr K H x q ∧ Fr K H y r ∧ dom2 q r ∧ Q (.bl (lt q r)) H
def spRaised (K : PySem.W.Frag) : Sp := fun vs H Q _ => ∃ (x : V) (q : F) (n : Int), vs = [x, .int n] ∧ Fr K H x q ∧ Lt2 6 q.1 ∧ Lt2 6 q.2 ∧ 0 ≤ n ∧ n ≤ 20 ∧ ∀ p, H p = none → Q (.ref p) (upd H p (fr (pw q n.toNat)))
section
variable {P : Program} {w : World} {K : PySem.W.Frag} {mg : Str → Option Value} {base : Heap} {f : Addr} {fd : FuncData}
theorem scReduced : FnScope ["top", "bottom", "common"] ["top", "bottom"] (defScope sReduced) := ⟨rfl, rfl, rfl, by decide +kernel, rfl, by decide +kernel, by decide +kernel⟩
theorem ok_reduced (F : Fun K "reduced" "reduced" sReduced f fd) (T : Blt mg) : FnOk P w K mg base CX0 1 f fd ["top", "bottom"] spReduced := by
  refine F.ok scReduced (fun vs H Q E h => ?_) (fun cdv A outer s H vs Q E hr h => ?_)
  · obtain ⟨a, b, rfl, _⟩ := h
    rfl
  · obtain ⟨a, b, rfl, hb, hw, k⟩ := h
    refine ⟨_, pss_cons (ps_set (i := 2) scReduced.nd rfl (Or.inl rfl) (pe_callBfun cr_gcd (by rfl) T.gcd (pa_cons (pv 0) (pa_cons (pv 1) pa_nil))))
      (pss_cons (ps_if (pt_cmpR op_lt (pv 1) pe_int (nomark _)) (pss_one (ps_set (i := 2) scReduced.nd rfl (Or.inl rfl) (pe_un un_neg (pv 2)))) pss_nil)
      (pss_one (ps_ret (pe_tup (pa_cons (pe_op op_fdivN (pv 0) (pv 2)) (pa_cons (pe_op op_fdivN (pv 1) (pv 2)) pa_nil)))))), ?_⟩
    refine ⟨_, rfl, _, rfl, a, b, rfl, ?_⟩
    refine ⟨_, rfl, _, _, rfl, rfl, _, rfl, ?_⟩
    have hg := gI_pos (a := a) hb
    have hl := gI_le (a := a) hb
    have fin : ∀ g : Int, g = (if b < 0 then -gI a b else gI a b) → ∀ σ, σ = [some (V.int a), some (V.int b), some (V.int g)] →
        tRet (tTup (tCons (tOp (rI CDivN fun i j => .int (i.fdiv j)) (tVar 0) (tVar 2)) (tCons (tOp (rI CDivN fun i j => .int (i.fdiv j)) (tVar 1) (tVar 2)) tNil))) { nx := fun _ H' => Q .non H', rt := Q } σ H := by
      rintro g eg σ rfl
      have c : CDivN a g ∧ CDivN b g := by
        have : g ≠ 0 ∧ g.natAbs < 1073741824 := by
          rw [eg]
          split <;> exact ⟨by omega, by omega⟩
        exact ⟨this, this⟩
      refine ⟨_, rfl, _, rfl, _, _, rfl, rfl, c.1, _, rfl, _, rfl, _, _, rfl, rfl, c.2, (by show 2 ≤ sizeLine; decide), fun p hp => ?_⟩
      have := k p hp
      rw [← redP_eq hb eg] at this
      exact this
    refine ite2 (fun c => ?_) (fun c => ?_)
    · refine ⟨_, rfl, _, rfl, ?_⟩
      exact fin _ (by rw [if_pos (of_decide_eq_true c)] <;> rfl) _ rfl
    · exact fin _ (by rw [if_neg (fun z => c (decide_eq_true z))] <;> rfl) _ rfl
theorem scOp : ∀ i ∈ [4, 5, 7], FnScope ["one", "other"] ["one", "other"] (defScope (top i)) := by
  intro i hi
  simp only [List.mem_cons, List.not_mem_nil, or_false] at hi
  rcases hi with rfl | rfl | rfl <;> exact ⟨rfl, rfl, rfl, by decide +kernel, rfl, by decide +kernel, by decide +kernel⟩

/-- one[0] * other[1] and its like: two places, the rest -/
theorem ok_added (F : Fun K "added" "added" sAdded f fd) (C : Cal P w K mg base 1 "reduced" spReduced) : FnOk P w K mg base CX0 2 f fd ["one", "other"] (spOp K add dom2) := by
  refine F.ok (scOp 4 (by decide)) (fun vs H Q E h => ?_) (fun cdv A outer s H vs Q E hr h => ?_)
  · obtain ⟨x, y, q, r, rfl, _⟩ := h
    rfl
  · obtain ⟨x, y, q, r, rfl, ⟨a, rfl, h1⟩, ⟨b, rfl, h2⟩, ⟨d1, d2⟩, k⟩ := h
    refine ⟨_, pss_one (ps_ret (pe_n C hr (by decide) (by rfl) (pa_cons (pe_op op_add (pe_op op_mulW (pe_ix ix_tup (pv 0) pe_int (fun _ _ => rfl)) (pe_ix ix_tup (pv 1) pe_int (fun _ _ => rfl))) (pe_op op_mulW (pe_ix ix_tup (pv 1) pe_int (fun _ _ => rfl)) (pe_ix ix_tup (pv 0) pe_int (fun _ _ => rfl))))
      (pa_cons (pe_op op_mulW (pe_ix ix_tup (pv 0) pe_int (fun _ _ => rfl)) (pe_ix ix_tup (pv 1) pe_int (fun _ _ => rfl))) pa_nil)))), ?_⟩
    have m := mulPos d1.pos d1.low d2.pos d2.low
    refine ⟨_, rfl, a, _, _, _, rfl, rfl, h1, atI_nat (j := 0) rfl, _, rfl, b, _, _, _, rfl, rfl, h2, atI_nat (j := 1) rfl, _, _, rfl, rfl, d1.big.c d2.l2,
      _, rfl, b, _, _, _, rfl, rfl, h2, atI_nat (j := 0) rfl, _, rfl, a, _, _, _, rfl, rfl, h1, atI_nat (j := 1) rfl, _, _, rfl, rfl, d2.big.c d1.l2, _, _, rfl, rfl,
      _, rfl, a, _, _, _, rfl, rfl, h1, atI_nat (j := 1) rfl, _, rfl, b, _, _, _, rfl, rfl, h2, atI_nat (j := 1) rfl, _, _, rfl, rfl, d1.l2.c d2.l2, ?_⟩
    refine ⟨_, _, rfl, by omega, m.2, fun p hp => ?_⟩
    rw [redP_pos m.1]
    exact k p hp
theorem ok_timed (F : Fun K "timed" "timed" sTimed f fd) (C : Cal P w K mg base 1 "reduced" spReduced) : FnOk P w K mg base CX0 2 f fd ["one", "other"] (spOp K mul dom2) := by
  refine F.ok (scOp 5 (by decide)) (fun vs H Q E h => ?_) (fun cdv A outer s H vs Q E hr h => ?_)
  · obtain ⟨x, y, q, r, rfl, _⟩ := h
    rfl
  · obtain ⟨x, y, q, r, rfl, ⟨a, rfl, h1⟩, ⟨b, rfl, h2⟩, ⟨d1, d2⟩, k⟩ := h
    refine ⟨_, pss_one (ps_ret (pe_n C hr (by decide) (by rfl) (pa_cons (pe_op op_mulW (pe_ix ix_tup (pv 0) pe_int (fun _ _ => rfl)) (pe_ix ix_tup (pv 1) pe_int (fun _ _ => rfl)))
      (pa_cons (pe_op op_mulW (pe_ix ix_tup (pv 0) pe_int (fun _ _ => rfl)) (pe_ix ix_tup (pv 1) pe_int (fun _ _ => rfl))) pa_nil)))), ?_⟩
    have m := mulPos d1.pos d1.low d2.pos d2.low
    refine ⟨_, rfl, a, _, _, _, rfl, rfl, h1, atI_nat (j := 0) rfl, _, rfl, b, _, _, _, rfl, rfl, h2, atI_nat (j := 0) rfl, _, _, rfl, rfl, d1.big.c d2.big,
      _, rfl, a, _, _, _, rfl, rfl, h1, atI_nat (j := 1) rfl, _, rfl, b, _, _, _, rfl, rfl, h2, atI_nat (j := 1) rfl, _, _, rfl, rfl, d1.l2.c d2.l2, ?_⟩
    refine ⟨_, _, rfl, by omega, m.2, fun p hp => ?_⟩
    rw [redP_pos m.1]
    exact k p hp
theorem ok_below (F : Fun K "is_below" "is_below" sBelow f fd) : FnOk P w K mg base CX0 1 f fd ["one", "other"] (spLt K) := by
  refine F.ok (scOp 7 (by decide)) (fun vs H Q E h => ?_) (fun cdv A outer s H vs Q E hr h => ?_)
  · obtain ⟨x, y, q, r, rfl, _⟩ := h
    rfl
  · obtain ⟨x, y, q, r, rfl, ⟨a, rfl, h1⟩, ⟨b, rfl, h2⟩, ⟨d1, d2⟩, k⟩ := h
    refine ⟨_, pss_one (ps_ret (pe_cmpR op_lt (pe_op op_mulW (pe_ix ix_tup (pv 0) pe_int (fun _ _ => rfl)) (pe_ix ix_tup (pv 1) pe_int (fun _ _ => rfl))) (pe_op op_mulW (pe_ix ix_tup (pv 1) pe_int (fun _ _ => rfl)) (pe_ix ix_tup (pv 0) pe_int (fun _ _ => rfl))) (nomark _))), ?_⟩
    exact ⟨_, rfl, a, _, _, _, rfl, rfl, h1, atI_nat (j := 0) rfl, _, rfl, b, _, _, _, rfl, rfl, h2, atI_nat (j := 1) rfl, _, _, rfl, rfl, d1.big.c d2.l2,
      _, rfl, b, _, _, _, rfl, rfl, h2, atI_nat (j := 0) rfl, _, rfl, a, _, _, _, rfl, rfl, h1, atI_nat (j := 1) rfl, _, _, rfl, rfl, d2.big.c d1.l2, _, _, rfl, rfl, k⟩
theorem scRaised : FnScope ["one", "number", "top", "bottom", "_"] ["one", "number"] (defScope sRaised) := ⟨rfl, rfl, rfl, by decide +kernel, rfl, by decide +kernel, by decide +kernel⟩
theorem pow_lt2 {x : Int} {n : Nat} (h : Lt2 6 x) (hn : n ≤ 20) : Lt2 121 (x ^ n) := by
  have h' : x.natAbs < 64 := h
  show (x ^ n).natAbs < 2 ^ 121
  rw [Int.natAbs_pow]
  have a := Nat.pow_le_pow_left (show x.natAbs ≤ 64 by omega) n
  have b := Nat.pow_le_pow_right (show 0 < 64 by decide) hn
  have c : (64 : Nat) ^ 20 < 2 ^ 121 := by decide
  omega
theorem ok_raised (F : Fun K "raised" "raised" sRaised f fd) (T : Blt mg) : FnOk P w K mg base CX0 1 f fd ["one", "number"] (spRaised K) := by
  refine F.ok scRaised (fun vs H Q E h => ?_) (fun cdv A outer s H vs Q E hr h => ?_)
  · obtain ⟨x, q, n, rfl, _⟩ := h
    rfl
  · obtain ⟨x, q, n, rfl, ⟨a, rfl, h1⟩, b1, b2, n0, n1, k⟩ := h
    refine ⟨_, pss_cons (ps_set (i := 2) scRaised.nd rfl (Or.inl rfl) pe_int) (pss_cons (ps_set (i := 3) scRaised.nd rfl (Or.inl rfl) pe_int)
      (pss_cons (ps_for PassesOwn.never rfl (pi_range1 rfl T.range (pa_cons (pv 1) pa_nil)) (pg_name (i := 4) scRaised.nd rfl (Or.inl rfl))
        (pss_cons (ps_aug (i := 2) scRaised.nd rfl (.inl rfl) (pe_ix ix_tup (pv 0) pe_int (fun _ _ => rfl)) ip_mul)
          (pss_one (ps_aug (i := 3) scRaised.nd rfl (.inl rfl) (pe_ix ix_tup (pv 0) pe_int (fun _ _ => rfl)) ip_mul))))
      (pss_one (ps_ret (pe_tup (pa_cons (pv 2) (pa_cons (pv 3) pa_nil))))))), ?_⟩
    refine ⟨_, rfl, n, rfl, by omega, by omega, for_range (n := n.toNat) (fun i σ H' => H' = H ∧ ∃ v, σ = [some (V.ref a), some (V.int n), some (V.int (q.1 ^ i)), some (V.int (q.2 ^ i)), v]) ⟨rfl, none, by rw [Int.pow_zero, Int.pow_zero]; rfl⟩ ?_ ?_⟩
    · rintro i σ H' hi ⟨rfl, v, rfl⟩
      have hi2 : i ≤ 20 := by omega
      refine ⟨_, rfl, _, rfl, a, _, _, _, rfl, rfl, h1, atI_nat (j := 0) rfl, _, _, rfl, rfl, (pow_lt2 b1 hi2).c b1, _, rfl, _, rfl, a, _, _, _, rfl, rfl, h1, atI_nat (j := 1) rfl, _, _, rfl, rfl, (pow_lt2 b2 hi2).c b2, ?_⟩
      refine ⟨rfl, some (V.int (0 + i)), ?_⟩
      rw [Int.pow_succ, Int.pow_succ]
      rfl
    · rintro σ H' ⟨rfl, v, rfl⟩
      exact ⟨_, rfl, _, rfl, (by show 2 ≤ sizeLine; decide), fun p hp => k p hp⟩
end
end Rs


set_option Elab.async false
set_option linter.all false
set_option maxRecDepth 100000
set_option maxHeartbeats 400000
namespace Rs
open PySem L2 Bs Fq
/-! ### data and kinds -/
def dF (q : F) : PyData := .tuple [.int q.1, .int q.2]
theorem Fr.dp {K : PySem.W.Frag} {H : Hp} {v : V} {q : F} (h : Fr K H v q) : Dp K H v (dF q) := by
  obtain ⟨a, rfl, s⟩ := h
  exact .tup s (.cons (.int _) (.cons (.int _) .nil))
def tyD : PyData → String
  | .none => "NoneType" | .bool _ => "bool" | .int _ => "int" | .str _ => "str" | .list _ => "list" | .tuple _ => "tuple" | .dict _ => "dict"
theorem _root_.L2.Dp.ty {K : PySem.W.Frag} {H : Hp} {v : V} {d : PyData} (h : Dp K H v d) : TyX K H v (.type (tyD d)) := by
  cases h with
  | non => exact .base .non
  | bl b => exact .base (.bl b)
  | int i => exact .base (.int i)
  | str x => exact .base (.str x)
  | lst s _ =>
    rcases s with (s | ⟨o, s⟩) | ⟨o, its, n, e, c, _⟩
    · exact .base (.lst s)
    · exact .base (.frz s)
    · exact .kList e c
  | tup s _ =>
    rcases s with (s | ⟨o, s⟩) | ⟨o, its, n, e, c, _⟩
    · exact .base (.tup s)
    · exact .fTuple s
    · exact .kTuple e c
def wholeD : PyData → Bool
  | .int _ => true
  | _ => false
def fracD : PyData → Bool
  | .tuple [.int a, .int b] => decide (1 ≤ b) && decide (gI a b = 1)
  | _ => false
def betwD (lo hi : Int) : PyData → Bool
  | .int i => decide (lo ≤ i) && decide (i ≤ hi)
  | _ => false
theorem fracD_dF {q : F} (h : Ok q) : fracD (dF q) = true := by
  have : gI q.1 q.2 = 1 := by unfold gI; rw [h.2]; rfl
  simp only [fracD, dF, Bool.and_eq_true, decide_eq_true_eq]
  exact ⟨by have := h.1; omega, this⟩
theorem fracD_true {d : PyData} (h : fracD d = true) : ∃ q, d = dF q ∧ Ok q := by
  unfold fracD at h
  split at h
  · rename_i a b
    simp only [Bool.and_eq_true, decide_eq_true_eq] at h
    refine ⟨(a, b), rfl, by show 0 < b; omega, ?_⟩
    have := h.2
    unfold gI at this
    show Nat.gcd a.natAbs b.natAbs = 1
    omega
  · cases h
def isInt : PyData → Bool
  | .int _ => true
  | .bool _ => true
  | _ => false
theorem kitI (K : PySem.W.Frag) (d : PyData) : PySem.W.kitOne K (.type (tyD d)) (.type "int") = some (isInt d) := by
  cases d with
  | none => exact kit_ty (a := "NoneType") (b := "int") (r := false) (by decide +kernel)
  | bool _ => exact kit_ty (a := "bool") (b := "int") (r := true) (by decide +kernel)
  | int _ => exact kit_ty (a := "int") (b := "int") (r := true) (by decide +kernel)
  | str _ => exact kit_ty (a := "str") (b := "int") (r := false) (by decide +kernel)
  | list _ => exact kit_ty (a := "list") (b := "int") (r := false) (by decide +kernel)
  | tuple _ => exact kit_ty (a := "tuple") (b := "int") (r := false) (by decide +kernel)
  | dict _ => exact kit_ty (a := "dict") (b := "int") (r := false) (by decide +kernel)
def isBool : PyData → Bool
  | .bool _ => true
  | _ => false
theorem kitB' (K : PySem.W.Frag) (d : PyData) : PySem.W.kitOne K (.type (tyD d)) (.type "bool") = some (isBool d) := by
  cases d with
  | none => exact kit_ty (a := "NoneType") (b := "bool") (r := false) (by decide +kernel)
  | bool _ => exact kit_ty (a := "bool") (b := "bool") (r := true) (by decide +kernel)
  | int _ => exact kit_ty (a := "int") (b := "bool") (r := false) (by decide +kernel)
  | str _ => exact kit_ty (a := "str") (b := "bool") (r := false) (by decide +kernel)
  | list _ => exact kit_ty (a := "list") (b := "bool") (r := false) (by decide +kernel)
  | tuple _ => exact kit_ty (a := "tuple") (b := "bool") (r := false) (by decide +kernel)
  | dict _ => exact kit_ty (a := "dict") (b := "bool") (r := false) (by decide +kernel)
def isTup : PyData → Bool
  | .tuple _ => true
  | _ => false
theorem kitT (K : PySem.W.Frag) (d : PyData) : PySem.W.kitOne K (.type (tyD d)) (.type "tuple") = some (isTup d) := by
  cases d with
  | none => exact kit_ty (a := "NoneType") (b := "tuple") (r := false) (by decide +kernel)
  | bool _ => exact kit_ty (a := "bool") (b := "tuple") (r := false) (by decide +kernel)
  | int _ => exact kit_ty (a := "int") (b := "tuple") (r := false) (by decide +kernel)
  | str _ => exact kit_ty (a := "str") (b := "tuple") (r := false) (by decide +kernel)
  | list _ => exact kit_ty (a := "list") (b := "tuple") (r := false) (by decide +kernel)
  | tuple _ => exact kit_ty (a := "tuple") (b := "tuple") (r := true) (by decide +kernel)
  | dict _ => exact kit_ty (a := "dict") (b := "tuple") (r := false) (by decide +kernel)
abbrev sWhole : Stmt := top 18
abbrev sBetween : Stmt := top 19
abbrev sFraction : Stmt := top 20
abbrev sNeedB : Stmt := top 23
def spWhole (K : PySem.W.Frag) : Sp := fun vs H Q _ => ∃ (v : V) (d : PyData), vs = [v] ∧ Dp K H v d ∧ Q (.bl (wholeD d)) H
def spBetween (K : PySem.W.Frag) : Sp := fun vs H Q _ => ∃ (v : V) (d : PyData) (lo hi : Int), vs = [v, .int lo, .int hi] ∧ Dp K H v d ∧ Q (.bl (betwD lo hi d)) H
def spFraction (K : PySem.W.Frag) : Sp := fun vs H Q _ => ∃ (v : V) (d : PyData), vs = [v] ∧ Dp K H v d ∧ Q (.bl (fracD d)) H
section
variable {P : Program} {w : World} {K : PySem.W.Frag} {mg : Str → Option Value} {base : Heap} {f : Addr} {fd : FuncData}
theorem sc15 : FnScope ["thing"] ["thing"] (defScope sWhole) := ⟨rfl, rfl, rfl, by decide +kernel, rfl, by decide +kernel, by decide +kernel⟩
theorem ok_whole (F : Fun K "is_whole" "is_whole" sWhole f fd) (T : Blt mg) : FnOk P w K mg base CX0 1 f fd ["thing"] (spWhole K) := by
  refine F.ok sc15 (fun vs H Q E h => ?_) (fun cdv A outer s H vs Q E hr h => ?_)
  · obtain ⟨v, d, rfl, _⟩ := h
    rfl
  · obtain ⟨v, d, rfl, hd, k⟩ := h
    refine ⟨_, pss_one (ps_ret (pe_and (pe_callB call_isi (by rfl) T.isinstance (by decide +kernel) (pa_cons (pv 0) (pa_cons (pe_bltn (v := .ty "int") (by rfl) T.int (by decide +kernel) rfl) pa_nil)))
      (pe_one (pe_not (pe_callB call_isi (by rfl) T.isinstance (by decide +kernel) (pa_cons (pv 0) (pa_cons (pe_bltn (v := .ty "bool") (by rfl) T.bool (by decide +kernel) rfl) pa_nil))))))), ?_⟩
    refine ⟨v, rfl, v, _, _, _, _, rfl, .ty _, hd.ty, kitI K d, _, rfl, ?_⟩
    have second : ∀ b : Bool, wholeD d = (!isBool d) → tNotV (tCB (rIsi K) (tCons (tVar 0) (tCons (tC (.ty "bool")) tNil))) (start ["thing"] [v]) H Q := fun b e => by
      refine ⟨v, rfl, v, _, _, _, _, rfl, .ty _, hd.ty, kitB' K d, _, rfl, ?_⟩
      rw [← e]
      exact k
    cases d with
    | int i => exact iteT (second true rfl)
    | bool b => exact iteT (second true rfl)
    | none => exact iteF k
    | str x => exact iteF k
    | list xs => exact iteF k
    | tuple xs => exact iteF k
    | dict xs => exact iteF k

theorem sc16 : FnScope ["thing", "low", "high"] ["thing", "low", "high"] (defScope sBetween) := ⟨rfl, rfl, rfl, by decide +kernel, rfl, by decide +kernel, by decide +kernel⟩
theorem ok_between (F : Fun K "is_between" "is_between" sBetween f fd) (W : Cal P w K mg base 1 "is_whole" (spWhole K)) : FnOk P w K mg base CX0 2 f fd ["thing", "low", "high"] (spBetween K) := by
  refine F.ok sc16 (fun vs H Q E h => ?_) (fun cdv A outer s H vs Q E hr h => ?_)
  · obtain ⟨v, d, lo, hi, rfl, _⟩ := h
    rfl
  · obtain ⟨v, d, lo, hi, rfl, hd, k⟩ := h
    refine ⟨_, pss_one (ps_ret (pe_and (pe_n W hr (by decide) (by rfl) (pa_cons (pv 0) pa_nil)) (pe_and (pe_cmpR op_le (pv 1) (pv 0) (nomark _)) (pe_one (pe_cmpR op_le (pv 0) (pv 2) (nomark _)))))), ?_⟩
    refine ⟨v, rfl, v, d, rfl, hd, _, rfl, ?_⟩
    cases d with
    | int i =>
      cases hd
      refine iteT ⟨_, rfl, _, rfl, _, _, rfl, rfl, _, rfl, ?_⟩
      have e : betwD lo hi (.int i) = (decide (lo ≤ i) && decide (i ≤ hi)) := rfl
      refine ite2 (fun c => ⟨_, rfl, _, rfl, _, _, rfl, rfl, ?_⟩) (fun c => ?_)
      · rw [e, c, Bool.true_and] at k
        exact k
      · rw [e, Bool.eq_false_iff.mpr c, Bool.false_and] at k
        exact k
    | bool b => exact iteF k
    | none => exact iteF k
    | str x => exact iteF k
    | list xs => exact iteF k
    | tuple xs => exact iteF k
    | dict xs => exact iteF k
theorem sc17 : FnScope ["thing", "top", "bottom"] ["thing"] (defScope sFraction) := ⟨rfl, rfl, rfl, by decide +kernel, rfl, by decide +kernel, by decide +kernel⟩
theorem fracD_not {d : PyData} (h : isTup d = false) : fracD d = false := by
  cases d <;> first | rfl | cases h
theorem fracD_len : ∀ {ds : List PyData}, ds.length ≠ 2 → fracD (.tuple ds) = false
  | [], _ => rfl
  | [d], _ => by cases d <;> rfl
  | [_, _], h => absurd rfl h
  | a :: b :: _ :: _, _ => by cases a <;> cases b <;> rfl
theorem fracD_first {d e : PyData} (h : wholeD d = false) : fracD (.tuple [d, e]) = false := by
  cases d <;> first | rfl | cases h
theorem fracD_second {d e : PyData} (h : wholeD e = false) : fracD (.tuple [d, e]) = false := by
  cases d <;> cases e <;> first | rfl | cases h
theorem wholeD_true {d : PyData} (h : wholeD d = true) : ∃ i, d = .int i := by
  cases d with
  | int i => exact ⟨i, rfl⟩
  | _ => cases h
theorem dpAll_len {K : PySem.W.Frag} {H : Hp} : ∀ {ds : List PyData} {xs : List V}, DpAll K H xs ds → xs.length = ds.length
  | [], _, .nil => rfl
  | _ :: _, _, .cons _ r => congrArg Nat.succ (dpAll_len r)
theorem two_of {K : PySem.W.Frag} {H : Hp} {xs : List V} {ds : List PyData} (h : DpAll K H xs ds) (l : xs.length = 2) : ∃ v1 v2 d1 d2, xs = [v1, v2] ∧ ds = [d1, d2] ∧ Dp K H v1 d1 ∧ Dp K H v2 d2 := by
  cases h with
  | nil => cases l
  | cons h1 h2 =>
    cases h2 with
    | nil => cases l
    | cons h3 h4 =>
      cases h4 with
      | nil => exact ⟨_, _, _, _, rfl, rfl, h1, h3⟩
      | cons h5 h6 => simp at l
theorem ok_fraction (F : Fun K "is_fraction" "is_fraction" sFraction f fd) (T : Blt mg) (W : Cal P w K mg base 1 "is_whole" (spWhole K)) : FnOk P w K mg base CX0 2 f fd ["thing"] (spFraction K) := by
  refine F.ok sc17 (fun vs H Q E h => ?_) (fun cdv A outer s H vs Q E hr h => ?_)
  · obtain ⟨v, d, rfl, _⟩ := h
    rfl
  · obtain ⟨v, d, rfl, hd, k⟩ := h
    refine ⟨_, pss_cons (ps_if (PW.pt (pw_or (pt_not (pt_val (pe_callB call_isi (by rfl) T.isinstance (by decide +kernel) (pa_cons (pv 0) (pa_cons (pe_bltn (v := .ty "tuple") (by rfl) T.tuple (by decide +kernel) rfl) pa_nil)))))
        (pw_or1 (pt_cmpR op_ne (pe_callB call_len_seq (by rfl) T.len PySem.boot_len (pa_cons (pv 0) pa_nil)) pe_int (nomark _))))) (pss_one (ps_ret pe_bl)) pss_nil)
      (pss_cons (ps_asg (pv 0) (pg_tup rfl (pgs_cons (pg_name (i := 1) sc17.nd rfl (.inl rfl)) (pgs_cons (pg_name (i := 2) sc17.nd rfl (.inl rfl)) pgs_nil))))
      (pss_one (ps_ret (pe_and (pe_n W hr (by decide) (by rfl) (pa_cons (pv 1) pa_nil)) (pe_and (pe_n W hr (by decide) (by rfl) (pa_cons (pv 2) pa_nil))
        (pe_and (pe_cmpR op_ge (pv 2) pe_int (nomark _)) (pe_one (pe_cmpR op_eq (pe_callBfun cr_gcd (by rfl) T.gcd (pa_cons (pv 1) (pa_cons (pv 2) pa_nil))) pe_int (nomark _))))))))), ?_⟩
    refine ⟨v, rfl, v, _, _, _, _, rfl, .ty _, hd.ty, kitT K d, _, rfl, ?_⟩
    cases ht : isTup d with
    | false =>
      rw [fracD_not ht] at k
      exact iteT (iteT k)
    | true =>
      refine iteF ?_
      cases hd with
      | tup hS hA =>
        rename_i a xs ds
        refine ⟨_, rfl, a, _, rfl, .inr hS, rfl, _, rfl, ?_⟩
        refine ite2 (fun c => ?_) (fun c => ?_)
        · have l := dpAll_len hA
          rw [fracD_len (fun z => by rw [← l] at z; simp [z] at c)] at k
          exact k
        · have l := dpAll_len hA
          have l2 : xs.length = 2 := by
            have c2 : ((xs.length : Nat) : Int) = 2 := by simpa using c
            omega
          obtain ⟨v1, v2, d1, d2, rfl, rfl, h1, h2⟩ := two_of hA l2
          refine ⟨_, rfl, a, [v1, v2], rfl, hS, rfl, v1, [v2], rfl, v2, [], rfl, rfl, ?_⟩
          refine ⟨_, rfl, v1, d1, rfl, h1, _, rfl, ?_⟩
          cases hw1 : wholeD d1 with
          | false =>
            rw [fracD_first hw1] at k
            exact iteF k
          | true =>
            refine iteT ⟨_, rfl, v2, d2, rfl, h2, _, rfl, ?_⟩
            cases hw2 : wholeD d2 with
            | false =>
              rw [fracD_second hw2] at k
              exact iteF k
            | true =>
              obtain ⟨i1, rfl⟩ := wholeD_true hw1
              obtain ⟨i2, rfl⟩ := wholeD_true hw2
              cases h1
              cases h2
              have e : fracD (.tuple [.int i1, .int i2]) = (decide (1 ≤ i2) && decide (gI i1 i2 = 1)) := rfl
              refine iteT ⟨_, rfl, _, _, rfl, rfl, _, rfl, ?_⟩
              refine ite2 (fun c1 => ⟨_, rfl, _, rfl, i1, i2, rfl, rfl, ?_⟩) (fun c1 => ?_)
              · rw [e, show decide (1 ≤ i2) = true from c1, Bool.true_and] at k
                have e3 : decide (V.int ((Nat.gcd i1.natAbs i2.natAbs : Nat) : Int) = V.int 1) = decide (gI i1 i2 = 1) := by
                  unfold gI
                  simp only [V.int.injEq]
                rw [← e3] at k
                exact k
              · rw [e, show decide (1 ≤ i2) = false from Bool.eq_false_iff.mpr c1, Bool.false_and] at k
                exact k
      | non => cases ht
      | bl b => cases ht
      | int b => cases ht
      | str b => cases ht
      | lst _ _ => cases ht
end
end Rs


set_option Elab.async false
set_option linter.all false
set_option maxRecDepth 100000
set_option maxHeartbeats 400000
namespace Rs
open PySem L2 Bs Fq
/-! ### errors -/
/-- the class x, its __init__: self.given = given -/
structure Err (K : PySem.W.Frag) (mg : Str → Option Value) (x : Str) (qual : Str) (st : Stmt) (C : Addr) : Prop where
  gC : mg x = some (.ref C)
  oex : OexC K C
  xf : XfC K C
  no : PySem.W.findIn K (.ref C) "given" = some none
  ini : ∃ (fI : Addr) (fd : FuncData), PySem.W.findIn K (.ref C) "__init__" = some (some (.ref fI)) ∧ PySem.W.typeIn K (.ref fI) = some (.type "function") ∧ Fun K "__init__" qual st fI fd ∧ Binds K fd ["self", "given"] []
abbrev sInitF : Stmt := inClass (top 12) 0
abbrev sInitN : Stmt := inClass (top 13) 0
def spInit (K : PySem.W.Frag) (C : Addr) : Sp := fun vs H Q _ => ∃ (a : Addr) (y : V), vs = [.ref a, y] ∧ H a = some (exo a C none) ∧
  ∀ dx, H dx = none → dx ≠ a → Q .non (upd (upd H dx (exd dx [("given", y)])) a (exo a C (some dx)))
theorem heap_end {H : Hp} {a d : Addr} {o1 o2 o3 o4 : HO} (h : H a = none) (n : d ≠ a) : upd (del (upd (upd (upd H a o1) d o2) a o3) a) d o4 = upd H d o4 := by
  funext b
  by_cases e1 : b = d
  · subst e1
    rw [upd_same, upd_same]
  · rw [upd_ne e1, upd_ne e1]
    by_cases e2 : b = a
    · subst e2
      rw [del_same, h]
    · rw [del_ne e2, upd_ne e2, upd_ne e1, upd_ne e2]
section
variable {P : Program} {w : World} {K : PySem.W.Frag} {mg : Str → Option Value} {base : Heap} {f : Addr} {fd : FuncData}
theorem scInitF : FnScope ["self", "given"] ["self", "given"] (defScope sInitF) := ⟨rfl, rfl, rfl, by decide +kernel, rfl, by decide +kernel, by decide +kernel⟩
theorem scInitN : FnScope ["self", "given"] ["self", "given"] (defScope sInitN) := ⟨rfl, rfl, rfl, by decide +kernel, rfl, by decide +kernel, by decide +kernel⟩
theorem ok_initF {C : Addr} {q : Str} (F : Fun K "__init__" q sInitF f fd) (T : OexC K C) (no : PySem.W.findIn K (.ref C) "given" = some none) : FnOk P w K mg base CX0 1 f fd ["self", "given"] (spInit K C) := by
  refine F.ok scInitF (fun vs H Q E h => ?_) (fun cdv A outer s H vs Q E hr h => ?_)
  · obtain ⟨a, y, rfl, _⟩ := h
    rfl
  · obtain ⟨a, y, rfl, ha, k⟩ := h
    exact ⟨_, pss_one (ps_ost (pv 0) (pv 1)), _, rfl, _, rfl, a, C, rfl, T, no, .inl ⟨ha, fun dx n1 n2 => k dx n1 n2⟩⟩
theorem ok_initN {C : Addr} {q : Str} (F : Fun K "__init__" q sInitN f fd) (T : OexC K C) (no : PySem.W.findIn K (.ref C) "given" = some none) : FnOk P w K mg base CX0 1 f fd ["self", "given"] (spInit K C) := by
  refine F.ok scInitN (fun vs H Q E h => ?_) (fun cdv A outer s H vs Q E hr h => ?_)
  · obtain ⟨a, y, rfl, _⟩ := h
    rfl
  · obtain ⟨a, y, rfl, ha, k⟩ := h
    exact ⟨_, pss_one (ps_ost (pv 0) (pv 1)), _, rfl, _, rfl, a, C, rfl, T, no, .inl ⟨ha, fun dx n1 n2 => k dx n1 n2⟩⟩
/-- such an error may be made by its name -/
structure ErrOk (P : Program) (w : World) (K : PySem.W.Frag) (mg : Str → Option Value) (base : Heap) (x : Str) (C : Addr) : Prop where
  gC : mg x = some (.ref C)
  oex : OexC K C
  ini : ∃ (fI : Addr) (fd : FuncData), PySem.W.findIn K (.ref C) "__init__" = some (some (.ref fI)) ∧ PySem.W.typeIn K (.ref fI) = some (.type "function") ∧ FnOk P w K mg base CX0 1 fI fd ["self", "given"] (spInit K C) ∧ Binds K fd ["self", "given"] []
theorem Err.okF {x q : Str} {C : Addr} (T : Err K mg x q sInitF C) : ErrOk P w K mg base x C := by
  obtain ⟨fI, fd, a, b, F, bi⟩ := T.ini
  exact ⟨T.gC, T.oex, fI, fd, a, b, ok_initF F T.oex T.no, bi⟩
theorem Err.okN {x q : Str} {C : Addr} (T : Err K mg x q sInitN C) : ErrOk P w K mg base x C := by
  obtain ⟨fI, fd, a, b, F, bi⟩ := T.ini
  exact ⟨T.gC, T.oex, fI, fd, a, b, ok_initN F T.oex T.no, bi⟩
end
/-- the way out with an error of the class at C that carries v -/
def Out (E : XK) (C : Addr) (v : V) (H : Hp) : Prop := ∀ d : Addr, H d = none → E (.ref C) (some d) (upd H d (.xd [("given", v)]))
theorem pe_weak {X : Cx} {e : Expr} {te : TE} (he : PE X e te) : PE X e (fun σ H Q => ∃ Q0 : VK, te σ H Q0 ∧ ∀ v H1, Q0 v H1 → Q v H1) :=
  ⟨fun pins s σ H Q I ⟨Q0, h, m⟩ => PySem.wpAny_mono (he.run pins s σ H Q0 I h) (fun u s' ⟨v, H1, I1, r, q⟩ => ⟨v, H1, I1, r, m _ _ q⟩) (fun _ _ z => z)⟩
/-- raise x(e) -/
def tRz (C : Addr) (W : WX) (te : TE) : TS := fun _ σ H => te σ H fun v H1 => ∀ d : Addr, H1 d = none → W (.ref C) (some d) σ (upd H1 d (.xd [("given", v)]))
theorem ps_rz {X : Cx} {x : Str} {C : Addr} {j : Nat} {e : Expr} {te : TE} {W : WX} {p pos pos2 : Pos} (hc : X.calm = true) (T : ErrOk X.prog X.w X.K X.mg X.base x C) (hr : Room j X.A) (hj : 2 ≤ j) (tk : Takes X W) (he : PE X e te) (hg : Gl X x)
    (hdb : (x == ("__debug__" : Str)) = false := by decide) (hs : starEach (e :: []) X.env = (false, eval e X.env) :: starEach [] X.env := by rfl) (hpl : (backTo pos (starEach [] X.env)).any (·.1) = false := by rfl) :
    PS X (.Raise (some (.Call (.Name x p) [e] [] pos)) none pos2) (tRz C W te) := by
  obtain ⟨fI, fd, iC, tI, F1, b⟩ := T.ini
  have h := ps_raise (pos := pos2) hc tk (pmk_oex (x := x) (p := p) (pos := pos) T.oex iC tI F1 (hr.mono hj) b .nil pass0 hg T.gC (pa_cons (pe_weak he) pa_nil hs) hdb hs hpl)
  constructor
  intro pins s σ H D I q
  refine h.run pins s σ H D I ?_
  refine ⟨_, q, fun v H1 z => ?_⟩
  refine ⟨(by show 1 ≤ 1000; decide), fun a ha => ⟨a, v, rfl, upd_same, fun dx n1 n2 => ⟨rfl, dx, [("given", v)], upd_same, ?_, ?_, ?_⟩⟩⟩
  · rw [upd_ne n2]
    exact upd_same
  · rw [upd_ne n2] at n1
    exact n1
  · rw [upd_ne n2] at n1
    show W _ _ _ (upd (del _ a) dx _)
    rw [heap_end ha n2]
    exact z dx n1
end Rs


set_option Elab.async false
set_option linter.all false
set_option maxRecDepth 100000
set_option maxHeartbeats 400000
namespace Rs
open PySem L2 Bs Fq
theorem dp_fr {K : PySem.W.Frag} {H : Hp} {v : V} {q : F} (h : Dp K H v (dF q)) : Fr K H v q := by
  cases h with
  | tup s a =>
    cases a with
    | cons h1 h2 =>
      cases h2 with
      | cons h3 h4 =>
        cases h4
        cases h1
        cases h3
        exact ⟨_, rfl, s⟩
def spNeedF (K : PySem.W.Frag) (C : Addr) : Sp := fun vs H Q E => ∃ (v : V) (d : PyData), vs = [v] ∧ Dp K H v d ∧ (fracD d = true → Q v H) ∧ (fracD d = false → Out E C v H)
def spNeedB (K : PySem.W.Frag) (C : Addr) : Sp := fun vs H Q E => ∃ (v : V) (d : PyData) (lo hi : Int), vs = [v, .int lo, .int hi] ∧ Dp K H v d ∧ (betwD lo hi d = true → Q v H) ∧ (betwD lo hi d = false → Out E C v H)
def spRatio (K : PySem.W.Frag) (C : Addr) : Sp := fun vs H Q E => ∃ (x y : V) (dx dy : PyData), vs = [x, y] ∧ Dp K H x dx ∧ Dp K H y dy ∧ (wholeD dx = false → Out E C x H) ∧
  (∀ a, dx = .int a → (∀ b, dy = .int b → b ≠ 0 → b.natAbs < 1073741824 ∧ ∀ p, H p = none → Q (.ref p) (upd H p (fr (redP a b)))) ∧ ((∀ b, dy = .int b → b = 0) → Out E C y H))
/-- two fractions wanted; R: what is made of them -/
def spTwo (K : PySem.W.Frag) (C : Addr) (R : V → V → F → F → Hp → VK → XK → Prop) : Sp := fun vs H Q E => ∃ (x y : V) (dx dy : PyData), vs = [x, y] ∧ Dp K H x dx ∧ Dp K H y dy ∧ (fracD dx = false → Out E C x H) ∧
  (fracD dx = true → fracD dy = false → Out E C y H) ∧ (∀ q r, dx = dF q → Ok q → dy = dF r → Ok r → R x y q r H Q E)
def rOp (op : F → F → F) (dom : F → F → Prop) : V → V → F → F → Hp → VK → XK → Prop := fun _ _ q r H Q _ => dom q r ∧ ∀ p, H p = none → Q (.ref p) (upd H p (fr (op q r)))
def rLt : V → V → F → F → Hp → VK → XK → Prop := fun _ _ q r H Q _ => dom2 q r ∧ Q (.bl (lt q r)) H
def rOver (C : Addr) : V → V → F → F → Hp → VK → XK → Prop := fun _ y q r H Q E => (r.1 = 0 → Out E C y H) ∧ (r.1 ≠ 0 → domD q r ∧ ∀ p, H p = none → Q (.ref p) (upd H p (fr (div q r))))
def spPower (K : PySem.W.Frag) (CF CN : Addr) : Sp := fun vs H Q E => ∃ (x y : V) (dx dy : PyData), vs = [x, y] ∧ Dp K H x dx ∧ Dp K H y dy ∧ (fracD dx = false → Out E CF x H) ∧
  (fracD dx = true → betwD 0 20 dy = false → Out E CN y H) ∧ (∀ q n, dx = dF q → Ok q → dy = .int n → 0 ≤ n → n ≤ 20 → Lt2 6 q.1 ∧ Lt2 6 q.2 ∧ ∀ p, H p = none → Q (.ref p) (upd H p (fr (pw q n.toNat))))
/-- the module's NOUGHT -/
structure Nou (K : PySem.W.Frag) (mg : Str → Option Value) : Prop where
  ex : ∃ a : Addr, mg "NOUGHT" = some (.ref a) ∧ ∀ H : Hp, SqT K H a [.int 0, .int 1]
section
variable {P : Program} {w : World} {K : PySem.W.Frag} {mg : Str → Option Value} {base : Heap} {f : Addr} {fd : FuncData} {CF CN : Addr}
theorem sc19 : FnScope ["thing", "low", "high"] ["thing", "low", "high"] (defScope sNeedB) := ⟨rfl, rfl, rfl, by decide +kernel, rfl, by decide +kernel, by decide +kernel⟩
theorem ok_needB (F : Fun K "need_between" "need_between" sNeedB f fd) (T : ErrOk P w K mg base "BadNumber" CN) (W : Cal P w K mg base 2 "is_between" (spBetween K)) : FnOk P w K mg base (L2.CX P w) 3 f fd ["thing", "low", "high"] (spNeedB K CN) := by
  refine F.okX sc19 (fun vs H Q E h => ?_) (fun cdv A outer s H vs Q E hr h => ?_)
  · obtain ⟨v, d, lo, hi, rfl, _⟩ := h
    rfl
  · obtain ⟨v, d, lo, hi, rfl, hd, k1, k2⟩ := h
    refine ⟨_, pss_cons (ps_if (pt_not (pt_val (pe_n W hr (by decide) (by rfl) (pa_cons (pv 0) (pa_cons (pv 1) (pa_cons (pv 2) pa_nil)))))) (pss_one (ps_rz rfl T hr (by decide) (takes_of rfl rfl rfl rfl) (pv 0) (by rfl))) pss_nil) (pss_one (ps_ret (pv 0))), ?_⟩
    refine ⟨_, rfl, _, rfl, _, rfl, v, d, lo, hi, rfl, hd, _, rfl, ?_⟩
    cases e : betwD lo hi d with
    | true => exact iteF ⟨_, rfl, k1 e⟩
    | false => exact iteT ⟨_, rfl, k2 e⟩
/-- the reading of f(need_fraction(one), need_fraction(other)) -/
theorem two_needs {x y : V} {dx dy : PyData} {H : Hp} {E : XK} {Q2 : F → F → Prop} {sp : Sp} {D : Ends} (h1 : Dp K H x dx) (h2 : Dp K H y dy) (k1 : fracD dx = false → Out E CF x H) (k2 : fracD dx = true → fracD dy = false → Out E CF y H)
    (k3 : ∀ q r, dx = dF q → Ok q → dy = dF r → Ok r → Q2 q r) (fin : ∀ q r, Fr K H x q → Fr K H y r → Q2 q r → sp [x, y] H D.rt E0) :
    tRet (tCall sp [] E0 (tCons (tCall (spNeedF K CF) [] E (tCons (tVar 0) tNil)) (tCons (tCall (spNeedF K CF) [] E (tCons (tVar 1) tNil)) tNil))) D (start ["one", "other"] [x, y]) H := by
  refine ⟨x, rfl, x, dx, rfl, h1, fun e1 => ⟨y, rfl, y, dy, rfl, h2, fun e2 => ?_, fun e2 => k2 e1 e2⟩, k1⟩
  obtain ⟨q, rfl, o1⟩ := fracD_true e1
  obtain ⟨r, rfl, o2⟩ := fracD_true e2
  exact fin q r (dp_fr h1) (dp_fr h2) (k3 q r rfl o1 rfl o2)
end
end Rs


set_option Elab.async false
set_option linter.all false
set_option maxRecDepth 100000
set_option maxHeartbeats 400000
namespace Rs
open PySem L2 Bs Fq
abbrev sMixed : Stmt := top 41
abbrev sLRatio : Stmt := top 44
abbrev sLPlus : Stmt := top 45
abbrev sLTimes : Stmt := top 46
abbrev sLUnder : Stmt := top 47
abbrev sLPower : Stmt := top 50
def spMixed : Sp := fun vs H Q _ => ∃ (c k : Int), vs = [.int c, .int k] ∧ 0 ≤ k ∧ k ≤ 100000 ∧ ∀ r : Int, 0 ≤ r → r < 2147483629 → Q (.int r) H
/-- _law_ratio(top, bottom), bottom above nought -/
def spLRatio : Sp := fun vs H Q _ => ∃ (a b : Int), vs = [.int a, .int b] ∧ 0 < b ∧ Lt2 8000 b ∧ ∀ p, H p = none → Q (.ref p) (upd H p (fr (red a b)))
/-- the law's own numbers: any size that a reckoning may have -/
structure Dl (q : F) : Prop where
  big : Lt2 4000 q.1
  pos : 0 < q.2
  low : Lt2 4000 q.2
def domL (q r : F) : Prop := Dl q ∧ Dl r
def domLD (q r : F) : Prop := Dl q ∧ Dl r ∧ 0 < r.1
def spLt' (K : PySem.W.Frag) : Sp := fun vs H Q _ => ∃ (x y : V) (q r : F), vs = [x, y] ∧ Fr K H x q ∧ Fr K H y r ∧ domL q r ∧ Q (.bl (lt q r)) H
/-- the law's quotient, the divisor above nought -/
def divL (q r : F) : F := red (q.1 * r.2) (q.2 * r.1)
section
variable {P : Program} {w : World} {K : PySem.W.Frag} {mg : Str → Option Value} {base : Heap} {f : Addr} {fd : FuncData}
theorem scMixed : FnScope ["cell", "k"] ["cell", "k"] (defScope sMixed) := ⟨rfl, rfl, rfl, by decide +kernel, rfl, by decide +kernel, by decide +kernel⟩
theorem ok_mixed (F : Fun K "_law_mixed" "_law_mixed" sMixed f fd) (T : Blt mg) : FnOk P w K mg base CX0 1 f fd ["cell", "k"] spMixed := by
  refine F.ok scMixed (fun vs H Q E h => ?_) (fun cdv A outer s H vs Q E hr h => ?_)
  · obtain ⟨c, k, rfl, _⟩ := h
    rfl
  · obtain ⟨c, k, rfl, k0, k1, g⟩ := h
    refine ⟨_, pss_cons (ps_set (i := 0) scMixed.nd rfl (Or.inl rfl) (pe_op op_mod (pe_callTy call_int1 (by rfl) T.int (by decide +kernel) (pa_cons (pv 0) pa_nil)) pe_int))
      (pss_one (ps_ret (pe_op op_mod (pe_op op_mul (pe_op op_mod (pe_op op_add (pe_op op_add (pe_op op_mul (pv 0) (pe_op op_add pe_int (pe_op op_mul (pe_op op_mul pe_int (pv 1)) (pv 1)))) (pe_op op_mul pe_int (pv 1))) pe_int) pe_int) pe_int) pe_int))), ?_⟩
    refine ⟨_, rfl, .inl ⟨c, rfl, _, _, rfl, rfl, (by show (0 : Int) < 2147483647; decide), ?_⟩⟩
    have m0 := Int.emod_nonneg c (b := 2147483647) (by decide)
    have m1 := Int.emod_lt_of_pos c (b := 2147483647) (by decide)
    refine ⟨_, rfl, _, rfl, _, _, rfl, rfl, .inl ⟨by decide, by decide⟩, _, rfl, _, _, rfl, rfl, .inr ⟨by omega, by omega⟩, _, _, rfl, rfl, _, _, rfl, rfl, .inl ⟨by omega, by omega⟩, _, rfl, _, _, rfl, rfl, .inl ⟨by decide, by decide⟩, _, _, rfl, rfl, _, _, rfl, rfl,
      _, _, rfl, rfl, (by show (0 : Int) < 2147483647; decide), _, _, rfl, rfl, .inr ⟨by decide, by decide⟩, _, _, rfl, rfl, (by show (0 : Int) < 2147483629; decide), ?_⟩
    exact g _ (Int.emod_nonneg _ (by decide)) (Int.emod_lt_of_pos _ (by decide))
theorem scLRatio : FnScope ["top", "bottom", "one", "other"] ["top", "bottom"] (defScope sLRatio) := ⟨rfl, rfl, rfl, by decide +kernel, rfl, by decide +kernel, by decide +kernel⟩
theorem ok_lratio (F : Fun K "_law_ratio" "_law_ratio" sLRatio f fd) (T : Blt mg) : FnOk P w K mg base CX0 1 f fd ["top", "bottom"] spLRatio := by
  refine F.ok scLRatio (fun vs H Q E h => ?_) (fun cdv A outer s H vs Q E hr h => ?_)
  · obtain ⟨a, b, rfl, _⟩ := h
    rfl
  · obtain ⟨a, b, rfl, hb, hl, k⟩ := h
    refine ⟨_, pss_cons (ps_par (i := 2) (j := 3) (by rfl) scLRatio.nd rfl rfl (by decide) rfl rfl (pa_cons (pe_callB call_abs (by rfl) T.abs (by decide +kernel) (pa_cons (pv 0) pa_nil)) (pa_cons (pv 1) pa_nil)) (by rfl))
      (pss_cons (ps_while PassesOwn.never (pt_cmpR op_ne (pv 3) pe_int (nomark _))
        (pss_one (ps_par (i := 2) (j := 3) (by rfl) scLRatio.nd rfl rfl (by decide) rfl rfl (pa_cons (pv 3) (pa_cons (pe_op op_modN (pe_callTy call_int1 (by rfl) T.int (by decide +kernel) (pa_cons (pv 2) pa_nil)) (pv 3)) pa_nil)) (by rfl))))
      (pss_one (ps_ret (pe_tup (pa_cons (pe_op op_fdivW (pv 0) (pv 2)) (pa_cons (pe_op op_fdivW (pv 1) (pv 2)) pa_nil)))))), ?_⟩
    refine ⟨_, rfl, a, rfl, _, rfl, _, _, rfl, ?_⟩
    have hp := gI_pos (a := a) (b := b) (by omega)
    have hle := gI_le (a := a) (b := b) (by omega)
    refine while_by (fun σ H' => H' = H ∧ ∃ x y : Int, σ = [some (V.int a), some (V.int b), some (V.int x), some (V.int y)] ∧ 0 ≤ x ∧ 0 ≤ y ∧ gI x y = gI a b) (fun σ _ => match σ with | [_, _, _, some (V.int y)] => y.natAbs | _ => 0)
      ⟨rfl, _, b, rfl, by split <;> omega, by omega, ?_⟩ ?_ (fun σ H Q Q' m h => ?_)
    · unfold gI
      split
      · rw [Int.natAbs_neg]
      · rfl
    · rintro σ H' ⟨rfl, x, y, rfl, x0, y0, e⟩
      refine ⟨_, rfl, rfl, _, rfl, ?_⟩
      by_cases hy : y = 0
      · subst hy
        refine iteF ?_
        have ex : x = gI a b := by
          rw [← e]
          unfold gI
          have : Nat.gcd x.natAbs (0 : Int).natAbs = x.natAbs := Nat.gcd_zero_right _
          rw [this]
          omega
        subst ex
        have hgw : Lt2 8000 (gI a b) := Nat.lt_of_le_of_lt hle hl
        exact ⟨_, rfl, _, rfl, _, _, rfl, rfl, wide_div hp hgw (by decide) (by decide), _, rfl, _, rfl, _, _, rfl, rfl, wide_div hp hgw (by decide) (by decide), (by show 2 ≤ sizeLine; decide), fun p hp => k p hp⟩
      · have d : decide (V.int y = V.int 0) = false := decide_eq_false (fun z => hy (V.int.inj z))
        show if (!decide (V.int y = V.int 0)) = true then _ else _
        rw [d]
        refine iteT ?_
        refine ⟨_, rfl, _, rfl, .inl ⟨x, rfl, _, rfl, _, _, rfl, rfl, hy, _, _, rfl, ⟨rfl, y, x.fmod y, rfl, y0, ?_, ?_⟩, ?_⟩⟩
        · exact Int.fmod_nonneg_of_pos x (by omega)
        · rw [← e]
          unfold gI
          rw [Int.fmod_eq_emod_of_nonneg x y0]
          have h1 : (x % y).natAbs = x.natAbs % y.natAbs := by
            have := Int.natAbs_emod_of_nonneg (b := y) x0
            exact this
          rw [h1, Nat.gcd_comm y.natAbs, ← Nat.gcd_rec y.natAbs x.natAbs, Nat.gcd_comm]
        · show (x.fmod y).natAbs < y.natAbs
          rw [Int.fmod_eq_emod_of_nonneg x y0]
          have := Int.emod_lt_of_pos x (show 0 < y by omega)
          have := Int.emod_nonneg x hy
          omega
    · obtain ⟨v, e1, e2, b', e3, q⟩ := h
      exact ⟨v, e1, e2, b', e3, m _ _ q⟩
end
end Rs


set_option Elab.async false
set_option linter.all false
set_option maxRecDepth 100000
set_option maxHeartbeats 400000
namespace Rs
open PySem L2 Bs Fq
section
variable {P : Program} {w : World} {K : PySem.W.Frag} {mg : Str → Option Value} {base : Heap} {f : Addr} {fd : FuncData}
theorem scLOp : ∀ i ∈ [45, 46, 47], FnScope ["one", "other"] ["one", "other"] (defScope (top i)) := by
  intro i hi
  simp only [List.mem_cons, List.not_mem_nil, or_false] at hi
  rcases hi with rfl | rfl | rfl <;> exact ⟨rfl, rfl, rfl, by decide +kernel, rfl, by decide +kernel, by decide +kernel⟩
theorem ok_lplus (F : Fun K "_law_plus" "_law_plus" sLPlus f fd) (C : Cal P w K mg base 1 "_law_ratio" spLRatio) : FnOk P w K mg base CX0 2 f fd ["one", "other"] (spOp K add domL) := by
  refine F.ok (scLOp 45 (by decide)) (fun vs H Q E h => ?_) (fun cdv A outer s H vs Q E hr h => ?_)
  · obtain ⟨x, y, q, r, rfl, _⟩ := h
    rfl
  · obtain ⟨x, y, q, r, rfl, ⟨a, rfl, h1⟩, ⟨b, rfl, h2⟩, ⟨d1, d2⟩, k⟩ := h
    refine ⟨_, pss_one (ps_ret (pe_n C hr (by decide) (by rfl) (pa_cons (pe_op op_add (pe_op op_mulW (pe_ix ix_tup (pv 0) pe_int (fun _ _ => rfl)) (pe_ix ix_tup (pv 1) pe_int (fun _ _ => rfl))) (pe_op op_mulW (pe_ix ix_tup (pv 1) pe_int (fun _ _ => rfl)) (pe_ix ix_tup (pv 0) pe_int (fun _ _ => rfl))))
      (pa_cons (pe_op op_mulW (pe_ix ix_tup (pv 0) pe_int (fun _ _ => rfl)) (pe_ix ix_tup (pv 1) pe_int (fun _ _ => rfl))) pa_nil)))), ?_⟩
    refine ⟨_, rfl, a, _, _, _, rfl, rfl, h1, atI_nat (j := 0) rfl, _, rfl, b, _, _, _, rfl, rfl, h2, atI_nat (j := 1) rfl, _, _, rfl, rfl, d1.big.c d2.low,
      _, rfl, b, _, _, _, rfl, rfl, h2, atI_nat (j := 0) rfl, _, rfl, a, _, _, _, rfl, rfl, h1, atI_nat (j := 1) rfl, _, _, rfl, rfl, d2.big.c d1.low, _, _, rfl, rfl,
      _, rfl, a, _, _, _, rfl, rfl, h1, atI_nat (j := 1) rfl, _, rfl, b, _, _, _, rfl, rfl, h2, atI_nat (j := 1) rfl, _, _, rfl, rfl, d1.low.c d2.low, ?_⟩
    exact ⟨_, _, rfl, Int.mul_pos d1.pos d2.pos, wide_lt d1.low d2.low, fun p hp => k p hp⟩
theorem ok_ltimes (F : Fun K "_law_times" "_law_times" sLTimes f fd) (C : Cal P w K mg base 1 "_law_ratio" spLRatio) : FnOk P w K mg base CX0 2 f fd ["one", "other"] (spOp K mul domL) := by
  refine F.ok (scLOp 46 (by decide)) (fun vs H Q E h => ?_) (fun cdv A outer s H vs Q E hr h => ?_)
  · obtain ⟨x, y, q, r, rfl, _⟩ := h
    rfl
  · obtain ⟨x, y, q, r, rfl, ⟨a, rfl, h1⟩, ⟨b, rfl, h2⟩, ⟨d1, d2⟩, k⟩ := h
    refine ⟨_, pss_one (ps_ret (pe_n C hr (by decide) (by rfl) (pa_cons (pe_op op_mulW (pe_ix ix_tup (pv 0) pe_int (fun _ _ => rfl)) (pe_ix ix_tup (pv 1) pe_int (fun _ _ => rfl)))
      (pa_cons (pe_op op_mulW (pe_ix ix_tup (pv 0) pe_int (fun _ _ => rfl)) (pe_ix ix_tup (pv 1) pe_int (fun _ _ => rfl))) pa_nil)))), ?_⟩
    refine ⟨_, rfl, a, _, _, _, rfl, rfl, h1, atI_nat (j := 0) rfl, _, rfl, b, _, _, _, rfl, rfl, h2, atI_nat (j := 0) rfl, _, _, rfl, rfl, d1.big.c d2.big,
      _, rfl, a, _, _, _, rfl, rfl, h1, atI_nat (j := 1) rfl, _, rfl, b, _, _, _, rfl, rfl, h2, atI_nat (j := 1) rfl, _, _, rfl, rfl, d1.low.c d2.low, ?_⟩
    exact ⟨_, _, rfl, Int.mul_pos d1.pos d2.pos, wide_lt d1.low d2.low, fun p hp => k p hp⟩
theorem ok_lunder (F : Fun K "_law_under" "_law_under" sLUnder f fd) : FnOk P w K mg base CX0 1 f fd ["one", "other"] (spLt' K) := by
  refine F.ok (scLOp 47 (by decide)) (fun vs H Q E h => ?_) (fun cdv A outer s H vs Q E hr h => ?_)
  · obtain ⟨x, y, q, r, rfl, _⟩ := h
    rfl
  · obtain ⟨x, y, q, r, rfl, ⟨a, rfl, h1⟩, ⟨b, rfl, h2⟩, ⟨d1, d2⟩, k⟩ := h
    refine ⟨_, pss_one (ps_ret (pe_cmpR op_lt (pe_op op_mulW (pe_ix ix_tup (pv 0) pe_int (fun _ _ => rfl)) (pe_ix ix_tup (pv 1) pe_int (fun _ _ => rfl))) (pe_op op_mulW (pe_ix ix_tup (pv 1) pe_int (fun _ _ => rfl)) (pe_ix ix_tup (pv 0) pe_int (fun _ _ => rfl))) (nomark _))), ?_⟩
    exact ⟨_, rfl, a, _, _, _, rfl, rfl, h1, atI_nat (j := 0) rfl, _, rfl, b, _, _, _, rfl, rfl, h2, atI_nat (j := 1) rfl, _, _, rfl, rfl, d1.big.c d2.low,
      _, rfl, b, _, _, _, rfl, rfl, h2, atI_nat (j := 0) rfl, _, rfl, a, _, _, _, rfl, rfl, h1, atI_nat (j := 1) rfl, _, _, rfl, rfl, d2.big.c d1.low, _, _, rfl, rfl, k⟩
theorem scLPower : FnScope ["one", "many", "found_so", "k"] ["one", "many"] (defScope sLPower) := ⟨rfl, rfl, rfl, by decide +kernel, rfl, by decide +kernel, by decide +kernel⟩
/-- _law_power(one, many): one in least terms -/
def spLPower (K : PySem.W.Frag) : Sp := fun vs H Q _ => ∃ (x : V) (q : F) (n : Int), vs = [x, .int n] ∧ Fr K H x q ∧ Ok q ∧ Lt2 6 q.1 ∧ Lt2 6 q.2 ∧ 0 ≤ n ∧ n ≤ 20 ∧ ∀ H' p, Same H H' → H' p = some (fr (pw q n.toNat)) → Q (.ref p) H'
theorem ok_lpower (F : Fun K "_law_power" "_law_power" sLPower f fd) (T : Blt mg) (C : Cal P w K mg base 2 "_law_times" (spOp K mul domL)) : FnOk P w K mg base CX0 3 f fd ["one", "many"] (spLPower K) := by
  refine F.ok scLPower (fun vs H Q E h => ?_) (fun cdv A outer s H vs Q E hr h => ?_)
  · obtain ⟨x, q, n, rfl, _⟩ := h
    rfl
  · obtain ⟨x, q, n, rfl, hx, oq, b1, b2, n0, n1, k⟩ := h
    refine ⟨_, pss_cons (ps_set (i := 2) scLPower.nd rfl (Or.inl rfl) (pe_tup (pa_cons pe_int (pa_cons pe_int pa_nil))))
      (pss_cons (ps_for PassesOwn.never rfl (pi_range1 rfl T.range (pa_cons (pv 1) pa_nil)) (pg_name (i := 3) scLPower.nd rfl (Or.inl rfl))
        (pss_one (ps_set (i := 2) scLPower.nd rfl (Or.inl rfl) (pe_n C hr (by decide) (by rfl) (pa_cons (pv 2) (pa_cons (pv 0) pa_nil))))))
      (pss_one (ps_ret (pv 2)))), ?_⟩
    refine ⟨(by show 2 ≤ sizeLine; decide), fun p0 hp0 => ?_⟩
    refine ⟨_, rfl, n, rfl, by omega, by omega, for_range (n := n.toNat) (fun i σ H' => Same H H' ∧ ∃ (p : Addr) (v : Option V), H' p = some (fr (pw q i)) ∧ σ = [some x, some (V.int n), some (V.ref p), v])
      ⟨same_new hp0, p0, none, upd_same.trans (by show some (HO.tup [V.int 1, V.int 1]) = some (HO.tup [V.int (q.1 ^ 0), V.int (q.2 ^ 0)]); rw [Int.pow_zero, Int.pow_zero]), rfl⟩ ?_ ?_⟩
    · rintro i σ H' hi ⟨sm, p, v, hp, rfl⟩
      have hi2 : i ≤ 20 := by omega
      refine ⟨_, rfl, _, rfl, _, _, pw q i, q, rfl, Fr.of hp, hx.mono sm, ⟨⟨(pow_lt2 b1 hi2).mono (by decide), (pw_ok oq i).1, (pow_lt2 b2 hi2).mono (by decide)⟩, ⟨b1.mono (by decide), oq.1, b2.mono (by decide)⟩⟩, fun p1 h1 => ?_⟩
      refine ⟨sm.trans (same_new h1), p1, some (V.int (0 + i)), ?_, rfl⟩
      rw [← pw_succ q i oq]
      exact upd_same
    · rintro σ H' ⟨sm, p, v, hp, rfl⟩
      exact ⟨_, rfl, k H' p sm hp⟩
/-- _law_divided(one, far): the quotient, far not nought -/
def spLDivided (K : PySem.W.Frag) : Sp := fun vs H Q _ => ∃ (x y : V) (q r : F), vs = [x, y] ∧ Fr K H x q ∧ Fr K H y r ∧ domL q r ∧ r.1 ≠ 0 ∧ ∀ H' p, Same H H' → H' p = some (fr (div q r)) → Q (.ref p) H'
theorem lt2_neg {n : Nat} {x : Int} (h : Lt2 n x) : Lt2 n (-x) := by
  unfold Lt2 at h ⊢
  rw [Int.natAbs_neg]
  exact h
end
end Rs


set_option Elab.async false
set_option linter.all false
set_option maxRecDepth 100000
set_option maxHeartbeats 400000
namespace Rs
open PySem L2 Bs Fq
abbrev sBegin : Stmt := top 42
abbrev sDraw : Stmt := top 43
abbrev sSmall : Stmt := top 53
/-! ### the state -/
def dS (c l : Addr) (t : Int) : List (Key × V) := [(Sum.inr "cells", .ref c), (Sum.inr "lefts", .ref l), (Sum.inr "at", .int t), (Sum.inr "room", .int 0)]
theorem val_cells (c l : Addr) (t : Int) : valV (dS c l t) (Sum.inr "cells") = some (.ref c) := by rfl
theorem val_lefts (c l : Addr) (t : Int) : valV (dS c l t) (Sum.inr "lefts") = some (.ref l) := by rfl
theorem val_at (c l : Addr) (t : Int) : valV (dS c l t) (Sum.inr "at") = some (.int t) := by rfl
theorem put_at (c l : Addr) (t u : Int) : putK (dS c l t) (Sum.inr "at") (.int u) = dS c l u := by rfl
structure Sta (H : Hp) (p c l : Addr) (n : Nat) (t : Int) : Prop where
  d : H p = some (.dK (dS c l t))
  cs : ∃ cs : List Int, H c = some (.lst (cs.map V.int)) ∧ cs.length = n
  ls : ∃ ls : List Int, H l = some (.lst (ls.map V.int)) ∧ ls.length = n ∧ ∀ z ∈ ls, 0 ≤ z
  ne : c ≠ l
  n1 : 1 ≤ n
  n2 : n ≤ 63
  t0 : 0 ≤ t
section
variable {H H' : Hp} {p c l : Addr} {n : Nat} {t : Int}
theorem Sta.gCells (S : Sta H p c l n t) : DGet H p (.str "cells") (some (.ref c)) := by
  have := DGet.k (k := (Sum.inr "cells" : Key)) S.d
  rwa [val_cells] at this
theorem Sta.gLefts (S : Sta H p c l n t) : DGet H p (.str "lefts") (some (.ref l)) := by
  have := DGet.k (k := (Sum.inr "lefts" : Key)) S.d
  rwa [val_lefts] at this
theorem Sta.gAt (S : Sta H p c l n t) : DGet H p (.str "at") (some (.int t)) := by
  have := DGet.k (k := (Sum.inr "at" : Key)) S.d
  rwa [val_at] at this
theorem Sta.pc (S : Sta H p c l n t) : p ≠ c := by
  obtain ⟨cs, h, _⟩ := S.cs
  exact ne_of S.d h (by intro z; cases z)
theorem Sta.pl (S : Sta H p c l n t) : p ≠ l := by
  obtain ⟨ls, h, _⟩ := S.ls
  exact ne_of S.d h (by intro z; cases z)
theorem Sta.mono (S : Sta H p c l n t) (e : Same H H') : Sta H' p c l n t := by
  obtain ⟨cs, a1, a2⟩ := S.cs
  obtain ⟨ls, b1, b2⟩ := S.ls
  exact ⟨e _ _ S.d, ⟨cs, e _ _ a1, a2⟩, ⟨ls, e _ _ b1, b2⟩, S.ne, S.n1, S.n2, S.t0⟩
/-- the state alone was changed -/
def Kp (p l : Addr) (H H' : Hp) : Prop := ∀ b o, H b = some o → b ≠ p → b ≠ l → H' b = some o
theorem Kp.trans {H1 H2 H3 : Hp} (a : Kp p l H1 H2) (b : Kp p l H2 H3) : Kp p l H1 H3 := fun x o e n1 n2 => b x o (a x o e n1 n2) n1 n2
theorem Kp.of (e : Same H H') : Kp p l H H' := fun x o h _ _ => e x o h
theorem Kp.fr {K : PySem.W.Frag} {v : V} {q : F} (k : Kp p l H H') (S : Sta H p c l n t) (h : Fr K H v q) : Fr K H' v q := by
  obtain ⟨a, rfl, s⟩ := h
  obtain ⟨ls, b1, _⟩ := S.ls
  refine ⟨a, rfl, ?_⟩
  rcases s with (s | ⟨o, s⟩) | s
  · exact .inl (.inl (k a _ s (ne_of s S.d (by intro z; cases z)) (ne_of s b1 (by intro z; cases z))))
  · exact .inl (.inr ⟨o, k a _ s (ne_of s S.d (by intro z; cases z)) (ne_of s b1 (by intro z; cases z))⟩)
  · exact .inr s
end
/-- _law_draw(state, many) -/
def spDraw : Sp := fun vs H Q _ => ∃ (p c l : Addr) (n : Nat) (t m : Int), vs = [.ref p, .int m] ∧ Sta H p c l n t ∧ t ≤ 10000 ∧ 1 ≤ m ∧ m < 1000000 ∧
  ∀ (H' : Hp) (r : Int), 0 ≤ r → r < m → Sta H' p c l n (t + 1) → Kp p l H H' → Q (.int r) H'
section
variable {P : Program} {w : World} {K : PySem.W.Frag} {mg : Str → Option Value} {base : Heap} {f : Addr} {fd : FuncData}
theorem scDraw : FnScope ["state", "many", "at", "place", "left", "number"] ["state", "many"] (defScope sDraw) := ⟨rfl, rfl, rfl, by decide +kernel, rfl, by decide +kernel, by decide +kernel⟩
theorem int_at {cs : List Int} {i : Nat} (h : i < cs.length) : ∃ z, cs[i]? = some z ∧ (cs.map V.int)[i]? = some (V.int z) := by
  refine ⟨cs[i], List.getElem?_eq_getElem h, ?_⟩
  rw [List.getElem?_map, List.getElem?_eq_getElem h]
  rfl
theorem ok_draw (F : Fun K "_law_draw" "_law_draw" sDraw f fd) (T : Blt mg) (C : Cal P w K mg base 1 "_law_mixed" spMixed) : FnOk P w K mg base CX0 2 f fd ["state", "many"] spDraw := by
  refine F.ok scDraw (fun vs H Q E h => ?_) (fun cdv A outer s H vs Q E hr h => ?_)
  · obtain ⟨p, c, l, n, t, m, rfl, _⟩ := h
    rfl
  · obtain ⟨p, c, l, n, t, m, rfl, S, ht, m1, m2, k⟩ := h
    have hu := hu_of hr
    refine ⟨_, pss_cons (ps_set (i := 2) scDraw.nd rfl (Or.inl rfl) (pe_dget hu (pv 0) pe_str (fun _ _ => rfl)))
      (pss_cons (ps_dput hu (pv 0) pe_str (pe_op op_add (pv 2) pe_int) rfl)
      (pss_cons (ps_set (i := 3) scDraw.nd rfl (Or.inl rfl) (pe_op op_mod (pe_callTy call_int1 (by rfl) T.int (by decide +kernel) (pa_cons (pv 2) pa_nil)) (pe_callB call_len_seq (by rfl) T.len PySem.boot_len (pa_cons (pe_dget hu (pv 0) pe_str (fun _ _ => rfl)) pa_nil))))
      (pss_cons (ps_set (i := 4) scDraw.nd rfl (Or.inl rfl) (pe_ix ix_list (pe_dget hu (pv 0) pe_str (fun _ _ => rfl)) (pv 3) (fun _ _ => rfl)))
      (pss_cons (ps_if (pt_cmpR op_gt (pv 4) pe_int (nomark _))
        (pss_cons (ps_asg (pe_op op_fdivN (pv 4) (pv 1)) (pg_sub (pe_dget hu (pv 0) pe_str (fun _ _ => rfl)) (pv 3) set_list))
          (pss_one (ps_ret (pe_op op_mod (pe_callTy call_int1 (by rfl) T.int (by decide +kernel) (pa_cons (pv 4) pa_nil)) (pv 1))))) pss_nil)
      (pss_cons (ps_set (i := 5) scDraw.nd rfl (Or.inl rfl) (pe_n C hr (by decide) (by rfl) (pa_cons (pe_n C hr (by decide) (by rfl) (pa_cons (pe_ix ix_list (pe_dget hu (pv 0) pe_str (fun _ _ => rfl)) (pv 3) (fun _ _ => rfl)) (pa_cons (pv 2) pa_nil))) (pa_cons (pe_op op_add pe_int (pv 2)) pa_nil))))
      (pss_one (ps_ret (pe_op op_mod (pe_op op_fdiv (pe_callTy call_int1 (by rfl) T.int (by decide +kernel) (pa_cons (pe_op op_add (pe_op op_mul (pv 5) pe_int) (pe_n C hr (by decide) (by rfl) (pa_cons (pv 5) (pa_cons (pe_op op_add pe_int (pv 2)) pa_nil)))) pa_nil)) pe_int) (pv 1))))))))), ?_⟩
    refine ⟨_, rfl, p, _, rfl, S.gAt, ?_⟩
    have S1 : Sta (upd H p (.dK (dS c l (t + 1)))) p c l n (t + 1) := by
      obtain ⟨cs, a1, a2⟩ := S.cs
      obtain ⟨ls, b1, b2, b3⟩ := S.ls
      exact ⟨upd_same, ⟨cs, by rw [upd_ne S.pc.symm]; exact a1, a2⟩, ⟨ls, by rw [upd_ne S.pl.symm]; exact b1, b2, b3⟩, S.ne, S.n1, S.n2, by have := S.t0; omega⟩
    have k1 : Kp p l H (upd H p (.dK (dS c l (t + 1)))) := fun b o e n1 _ => (upd_ne n1).trans e
    refine ⟨_, rfl, _, _, rfl, rfl, _, rfl, p, _, rfl, DPut.k (k := Sum.inr "at") S.d (by show 4 < sizeLine; decide), ?_⟩
    rw [put_at]
    generalize upd H p (.dK (dS c l (t + 1))) = H1 at S1 k1 ⊢
    obtain ⟨cs, a1, a2⟩ := S1.cs
    obtain ⟨ls, b1, b2, b3⟩ := S1.ls
    have n1 := S.n1
    have t0 := S.t0
    have r0 := Int.emod_nonneg t (b := (n : Int)) (by omega)
    have r1 := Int.emod_lt_of_pos t (b := (n : Int)) (by omega)
    obtain ⟨i, hi⟩ : ∃ i : Nat, t % (n : Int) = (i : Int) := ⟨(t % (n : Int)).toNat, by omega⟩
    have hin : i < n := by omega
    obtain ⟨zc, c1, c2⟩ := int_at (cs := cs) (i := i) (by omega)
    obtain ⟨zl, l1, l2⟩ := int_at (cs := ls) (i := i) (by omega)
    have zl0 : 0 ≤ zl := b3 zl (List.mem_of_getElem? l1)
    refine ⟨_, rfl, .inl ⟨t, rfl, _, rfl, p, _, rfl, S1.gCells, c, _, rfl, .inl (SqL.of a1), _, _, rfl, rfl, ?_, ?_⟩⟩
    · show (0 : Int) < ((cs.map V.int).length : Nat)
      rw [List.length_map, a2]
      omega
    · rw [List.length_map, a2]
      have l3 : atI (ls.map V.int) (t % (n : Int)) = some (V.int zl) := by
        rw [hi]
        exact atI_nat l2
      have c3 : atI (cs.map V.int) (t % (n : Int)) = some (V.int zc) := by
        rw [hi]
        exact atI_nat c2
      have hix : ixN (ls.map V.int).length (t % (n : Int)) = some i := by
        rw [hi, List.length_map, b2]
        unfold ixN
        rw [if_pos (by omega), if_pos (by omega)]
        simp
      refine ⟨_, rfl, p, _, rfl, S1.gLefts, _, rfl, l, _, _, _, rfl, rfl, SqL.of b1, l3, ?_⟩
      refine ⟨_, rfl, _, _, rfl, rfl, _, rfl, ?_⟩
      refine ite2 (fun q => ?_) (fun q => ?_)
      · refine ⟨_, rfl, _, rfl, _, _, rfl, rfl, ⟨by omega, by omega⟩, ?_⟩
        refine ⟨_, rfl, p, _, rfl, S1.gLefts, _, rfl, l, _, _, i, rfl, rfl, b1, hix, ?_⟩
        refine ⟨_, rfl, .inl ⟨zl, rfl, _, rfl, _, _, rfl, rfl, (by show (0 : Int) < m; omega), ?_⟩⟩
        refine k _ _ (Int.emod_nonneg _ (by omega)) (Int.emod_lt_of_pos _ (by omega)) ⟨?_, ⟨cs, ?_, a2⟩, ⟨ls.set i (zl.fdiv m), ?_, ?_, ?_⟩, S1.ne, S1.n1, S1.n2, S1.t0⟩ (k1.trans (fun b o e _ n2 => (upd_ne n2).trans e))
        · rw [upd_ne S1.pl]
          exact S1.d
        · rw [upd_ne S1.ne]
          exact a1
        · rw [upd_same, List.map_set]
        · rw [List.length_set, b2]
        · intro z hz
          rcases List.mem_or_eq_of_mem_set hz with h | h
          · exact b3 z h
          · rw [h, Int.fdiv_eq_ediv_of_nonneg _ (by omega)]
            exact Int.ediv_nonneg zl0 (by omega)
      · refine ⟨_, rfl, p, _, rfl, S1.gCells, _, rfl, c, _, _, _, rfl, rfl, SqL.of a1, c3, _, rfl, zc, t, rfl, t0, by omega, fun x x0 x1 => ?_⟩
        refine ⟨_, rfl, _, _, rfl, rfl, x, 40 + t, rfl, by omega, by omega, fun y y0 y1 => ?_⟩
        refine ⟨_, rfl, _, _, rfl, rfl, .inl ⟨by omega, by omega⟩, _, rfl, _, rfl, _, _, rfl, rfl, y, 7 + t, rfl, by omega, by omega, fun z z0 z1 => ?_⟩
        refine ⟨_, _, rfl, rfl, .inl ⟨_, rfl, _, _, rfl, rfl, ⟨by decide, by decide⟩, _, rfl, _, _, rfl, rfl, (by show (0 : Int) < m; omega), ?_⟩⟩
        exact k _ _ (Int.emod_nonneg _ (by omega)) (Int.emod_lt_of_pos _ (by omega)) S1 k1
end
end Rs


set_option Elab.async false
set_option linter.all false
set_option maxRecDepth 100000
set_option maxHeartbeats 400000
namespace Rs
open PySem L2 Bs Fq
/-- _law_begin(script) -/
def spBegin (K : PySem.W.Frag) : Sp := fun vs H Q _ => ∃ (a : Addr) (ns : List Int), vs = [.ref a] ∧ SqL K H a (ns.map V.int) ∧ ns.length ≤ 63 ∧
  ∀ (H' : Hp) (p c l : Addr) (n : Nat), Same H H' → H p = none → H l = none → Sta H' p c l n 0 → Q (.ref p) H'
/-- _law_of(state, some) -/
def spOf (K : PySem.W.Frag) : Sp := fun vs H Q _ => ∃ (p c l b : Addr) (n : Nat) (t : Int) (xs : List V), vs = [.ref p, .ref b] ∧ Sta H p c l n t ∧ t ≤ 10000 ∧ SqL K H b xs ∧ 1 ≤ xs.length ∧ xs.length ≤ 1000 ∧ b ≠ l ∧
  ∀ (H' : Hp) (v : V), v ∈ xs → Sta H' p c l n (t + 1) → Kp p l H H' → Q v H'
/-- _law_small(state) -/
def spSmall : Sp := fun vs H Q _ => ∃ (p c l : Addr) (n : Nat) (t : Int), vs = [.ref p] ∧ Sta H p c l n t ∧ t ≤ 9000 ∧
  ∀ (H' : Hp) (b : Addr) (x y : Int), -6 ≤ x → x ≤ 6 → 1 ≤ y → y ≤ 3 → H' b = some (fr (red x y)) → Sta H' p c l n (t + 2) → Kp p l H H' → Q (.ref b) H'
section
variable {P : Program} {w : World} {K : PySem.W.Frag} {mg : Str → Option Value} {base : Heap} {f : Addr} {fd : FuncData}
theorem scBegin : FnScope ["script", "cells", "cell"] ["script"] (defScope sBegin) := ⟨rfl, rfl, rfl, by decide +kernel, rfl, by decide +kernel, by decide +kernel⟩
theorem dp_ints {K : PySem.W.Frag} {H : Hp} : ∀ ns : List Int, DpAll K H (ns.map V.int) (ns.map PyData.int)
  | [] => .nil
  | n :: ns => .cons (.int n) (dp_ints ns)
def left (z : Int) : Int := if z ≥ 10 ^ 18 then z else 0
theorem left_nonneg (z : Int) : 0 ≤ left z := by
  unfold left
  split
  · have : (0 : Int) ≤ 10 ^ 18 := by decide
    omega
  · omega
theorem can_ints : ∀ ns : List Int, PyData.canLayAll0 (ns.map PyData.int) = true
  | [] => by simp [PyData.canLayAll0]
  | n :: ns => by
    have := can_ints ns
    simp [PyData.canLayAll0, PyData.canLay0, this]
theorem dep_ints : ∀ ns : List Int, PyData.depthAll (ns.map PyData.int) ≤ 1
  | [] => by simp [PyData.depthAll]
  | n :: ns => by
    have := dep_ints ns
    simp only [List.map_cons, PyData.depthAll, PyData.depth]
    omega
theorem shaped_ints (ns : List Int) : SeqAt.shaped (.list (ns.map PyData.int)) = true := by
  unfold SeqAt.shaped
  rw [Bool.and_eq_true_iff]
  refine ⟨?_, decide_eq_true ?_⟩
  · simpa [PyData.canLay0] using can_ints ns
  · have := dep_ints ns
    simp only [PyData.depth]
    omega
theorem some_int {cs : List Int} {i : Nat} {x : V} (h : (cs.map V.int)[i]? = some x) : ∃ z, cs[i]? = some z ∧ x = V.int z := by
  rw [List.getElem?_map] at h
  cases e : cs[i]? with
  | none =>
    rw [e] at h
    cases h
  | some z =>
    rw [e] at h
    exact ⟨z, rfl, (Option.some.inj h).symm⟩
theorem take_one {α : Type} {l : List α} {i : Nat} {x : α} (h : l[i]? = some x) : l.take (i + 1) = l.take i ++ [x] := by
  rw [List.take_add_one, h]
  rfl
theorem ok_begin (F : Fun K "_law_begin" "_law_begin" sBegin f fd) (T : Blt mg) : FnOk P w K mg base CX0 2 f fd ["script"] (spBegin K) := by
  refine F.ok scBegin (fun vs H Q E h => ?_) (fun cdv A outer s H vs Q E hr h => ?_)
  · obtain ⟨a, ns, rfl, _⟩ := h
    rfl
  · obtain ⟨a, ns, rfl, hS, hl, k⟩ := h
    refine ⟨_, C8.pss_cut (ps_set (i := 1) scBegin.nd rfl (Or.inl rfl) (pe_ifExp (pt_cmpR (op_neD hr.units) (pv 0) (pe_lst pa_nil) (nomark _)) (pe_callTy call_list_of (by rfl) T.list (by decide +kernel) (pa_cons (pv 0) pa_nil)) (pe_lst (pa_cons pe_int pa_nil))))
      (pss_one (ps_ret (pe_disp (pps_cons pe_str (pv 1) (pps_cons pe_str (pe_lc (own := [("cell", 2)]) (g := gName 2) (tt := tYes) rfl scBegin.nd (pi_list (pv 1)) (blkOk_by (N := ["script", "cells", "cell"]) (sc := defScope sBegin) (by decide +kernel))
          (fun _ _ _ _ _ => pg_name (i := 2) scBegin.nd rfl (Or.inl rfl)) (fun _ _ _ _ _ => pts_nil) (fun _ _ _ _ _ => pe_ifExp (pt_cmpR op_ge (pv 2) (pe_op op_pow pe_int pe_int) (nomark _)) (pv 2) pe_int))
        (pps_cons pe_str pe_int (pps_cons pe_str pe_int pps_nil)))) (by rfl) (by rfl) (fun z => by cases z) (by decide)))), ?_⟩
    refine ⟨fun σ H1 => ∃ (c : Addr) (cs : List Int), Same H H1 ∧ H1 c = some (.lst (cs.map V.int)) ∧ 1 ≤ cs.length ∧ cs.length ≤ 63 ∧ σ = [some (V.ref a), some (V.ref c), none], ?_, ?_⟩
    · refine ⟨_, rfl, (by show 0 ≤ sizeLine; decide), fun p0 hp0 => ?_⟩
      have s0 : Same H (upd H p0 (.lst [])) := same_new hp0
      refine ⟨.list (ns.map PyData.int), .list [], .lst (s0.seq hS) (dp_ints ns), .lst (SqL.of upd_same) .nil, ?_, rfl, _, rfl, ?_⟩
      · exact shaped_ints ns
      · have e : PyData.eqv (.list (ns.map PyData.int)) (.list []) = ns.isEmpty := by
          cases ns <;> rfl
        show if (!PyData.eqv (.list (ns.map PyData.int)) (.list [])) = true then _ else _
        rw [e]
        cases hn : ns with
        | nil =>
          refine iteF ⟨(by show 1 ≤ sizeLine; decide), fun p1 hp1 => ?_⟩
          exact ⟨p1, [0], s0.trans (same_new hp1), upd_same, Nat.le_refl _, (by show 1 ≤ 63; decide), rfl⟩
        | cons n ns' =>
          refine iteT ⟨_, rfl, a, _, rfl, .inl (s0.seq hS), fun p1 hp1 => ?_⟩
          exact ⟨p1, ns, s0.trans (same_new hp1), upd_same, by rw [hn]; exact Nat.succ_le_succ (Nat.zero_le _), hl, rfl⟩
    · rintro σ H1 ⟨c, cs, s1, hc, l1, l2, rfl⟩
      intro p hp
      have sp : Same H1 (upd H1 p (.dK [])) := same_new hp
      refine ⟨_, rfl, ?_⟩
      have np : H1 p = none := hp
      have hpc : c ≠ p := ne_of_none hc np
      refine ⟨_, rfl, c, rfl, ⟨_, SqL.of (sp _ _ hc)⟩, fun D hD => lc_list (K := K) (a := c) (xs := cs.map V.int)
        (fun i H2 => Same (upd H1 p (.dK [])) H2 ∧ H2 D = some (.lst ((cs.take i).map (fun z => V.int (left z))))) ⟨same_new hD, upd_same⟩ (fun i H2 _ z => SqL.of (z.1 _ _ (sp _ _ hc))) ?_ ?_⟩
      · rintro i x H2 hx ⟨s2, hD2⟩
        obtain ⟨z, hz, rfl⟩ := some_int hx
        have ln : (cs.take i).length ≤ 63 := by rw [List.length_take]; omega
        have fin : ∀ u : Int, u = left z → ∃ acc, H2 D = some (.lst acc) ∧ acc.length < sizeLine ∧ (Same (upd H1 p (.dK [])) (upd H2 D (.lst (acc ++ [V.int u]))) ∧ upd H2 D (.lst (acc ++ [V.int u])) D = some (.lst ((cs.take (i + 1)).map (fun z => V.int (left z))))) := by
          rintro u rfl
          refine ⟨_, hD2, by rw [List.length_map]; exact small1000 (by omega), fun b o e => ?_, ?_⟩
          · have : b ≠ D := ne_of_none e hD
            exact (upd_ne this).trans (s2 b o e)
          · rw [upd_same, take_one hz, List.map_append]
            rfl
        refine ⟨rfl, ?_⟩
        refine iteT (B := Same (upd H1 p (.dK [])) H2 ∧ H2 D = some (.lst ((cs.take (i + 1)).map (fun z => V.int (left z))))) ?_
        refine ⟨_, rfl, _, _, rfl, rfl, ⟨by decide, by decide, by decide⟩, _, _, rfl, rfl, _, rfl, ?_⟩
        refine ite2 (fun q => ⟨_, rfl, ?_⟩) (fun q => ?_)
        · have q' : z ≥ 10 ^ 18 := of_decide_eq_true q
          exact fin z (show z = left z from (if_pos q').symm)
        · have q' : ¬ z ≥ 10 ^ 18 := fun w => q (decide_eq_true w)
          exact fin 0 (show 0 = left z from (if_neg q').symm)
      · rintro H2 ⟨s2, hD2⟩
        have hpD : p ≠ D := by
          intro z
          rw [← z, upd_same] at hD
          cases hD
        rw [List.length_map, List.take_length] at hD2
        refine ⟨s2 _ _ upd_same, dS c D 0, rfl, (by show 4 ≤ 15; decide), ?_⟩
        have hDn : H1 D = none := by
          rw [upd_ne hpD.symm] at hD
          exact hD
        refine k _ p c D cs.length ?_ ?_ ?_ ⟨upd_same, ⟨cs, ?_, rfl⟩, ⟨cs.map left, ?_, by rw [List.length_map], ?_⟩, ne_of_none hc hDn, l1, l2, Int.le_refl _⟩
        · intro b o e
          have nb : b ≠ p := ne_of_none (s1 b o e) np
          rw [upd_ne nb]
          exact s2 b o (sp b o (s1 b o e))
        · exact s1.free np
        · exact s1.free hDn
        · rw [upd_ne hpc]
          exact s2 _ _ (sp _ _ hc)
        · rw [upd_ne hpD.symm, hD2, List.map_map]
          rfl
        · intro z hz
          obtain ⟨y, _, rfl⟩ := List.mem_map.mp hz
          exact left_nonneg y
end
end Rs


set_option Elab.async false
set_option linter.all false
set_option maxRecDepth 100000
set_option maxHeartbeats 400000
namespace Rs
open PySem L2 Bs Fq
theorem Kp.lst {K : PySem.W.Frag} {H H' : Hp} {p c l b : Addr} {n : Nat} {t : Int} {xs : List V} (k : Kp p l H H') (S : Sta H p c l n t) (h : SqL K H b xs) (nb : b ≠ l) : SqL K H' b xs := by
  rcases h with (s | ⟨o, s⟩) | s
  · exact .inl (.inl (k b _ s (ne_of s S.d (by intro z; cases z)) nb))
  · exact .inl (.inr ⟨o, k b _ s (ne_of s S.d (by intro z; cases z)) nb⟩)
  · exact .inr s
section
variable {P : Program} {w : World} {K : PySem.W.Frag} {mg : Str → Option Value} {base : Heap} {f : Addr} {fd : FuncData}
theorem scSmall : FnScope ["state"] ["state"] (defScope sSmall) := ⟨rfl, rfl, rfl, by decide +kernel, rfl, by decide +kernel, by decide +kernel⟩
theorem ok_small (F : Fun K "_law_small" "_law_small" sSmall f fd) (D : Cal P w K mg base 2 "_law_draw" spDraw) (R : Cal P w K mg base 1 "_law_ratio" spLRatio) : FnOk P w K mg base CX0 3 f fd ["state"] spSmall := by
  refine F.ok scSmall (fun vs H Q E h => ?_) (fun cdv A outer s H vs Q E hr h => ?_)
  · obtain ⟨p, c, l, n, t, rfl, _⟩ := h
    rfl
  · obtain ⟨p, c, l, n, t, rfl, S, t1, k⟩ := h
    refine ⟨_, pss_one (ps_ret (pe_n R hr (by decide) (by rfl) (pa_cons (pe_op op_sub (pe_n D hr (by decide) (by rfl) (pa_cons (pv 0) (pa_cons pe_int pa_nil))) pe_int)
      (pa_cons (pe_op op_add pe_int (pe_n D hr (by decide) (by rfl) (pa_cons (pv 0) (pa_cons pe_int pa_nil)))) pa_nil)))), ?_⟩
    refine ⟨_, rfl, p, c, l, n, t, 13, rfl, S, by omega, by decide, by decide, fun H1 x x0 x1 S1 k1 => ?_⟩
    refine ⟨_, _, rfl, rfl, _, rfl, p, c, l, n, t + 1, 3, rfl, S1, by omega, by decide, by decide, fun H2 y y0 y1 S2 k2 => ?_⟩
    refine ⟨_, _, rfl, rfl, _, _, rfl, by omega, ?_, fun b hb => ?_⟩
    · have : (1 + y).natAbs < 2 ^ 2 := by omega
      exact Lt2.mono (m := 2) this (by decide)
    · have e : t + 1 + 1 = t + 2 := by omega
      rw [e] at S2
      refine k _ b (x - 6) (1 + y) (by omega) (by omega) (by omega) (by omega) upd_same (S2.mono (same_new hb)) ((k1.trans k2).trans (Kp.of (same_new hb)))
end
end Rs


set_option Elab.async false
set_option linter.all false
set_option maxRecDepth 100000
set_option maxHeartbeats 2000000
/-! several clauses, each with a name of its own: try: .. except A as e: .. except B as e: .. -/
namespace TA2
open PySem PySem.Spec PyProof.Rows L2
abbrev Suite := Addr → Value → Option Addr → TS
/-- what the suite's ends are where the name in slot i goes behind it -/
def less (D : Ends) (i : Nat) : Ends where
  nx := fun τ G => D.nx (τ.set i none) G
  rt := D.rt
  bk := fun τ G => D.bk (τ.set i none) G
  ct := fun τ G => D.ct (τ.set i none) G
/-- the wishes of the clauses in turn: (class, slot, suite) -/
def wish (K : PySem.W.Frag) (nn : Nat) (Wo : WX) (D : Ends) : List (Value × Nat × Suite) → WX
  | [] => Wo
  | (c, i, ts) :: more => fun cls d τ G => ∃ b, PySem.W.exmOne K cls c = some b ∧
      (b = true → τ.length = nn → ∀ a, G a = none → ts a cls d (less D i) (τ.set i (some (.ref a))) G) ∧ (b = false → wish K nn Wo D more cls d τ G)
inductive Clauses (X : Cx) : List ExceptHandler → List (Value × Nat × Suite) → Prop
  | stop : Clauses X [] []
  | more {x n : Str} {c : Value} {i : Nat} {ts : Suite} {b0 : Stmt} {su : List Stmt} {p1 p2 : Pos} {hs : List ExceptHandler} {l : List (Value × Nat × Suite)}
      (named : Names X x c) (at_ : X.N[i]? = some n) (loc : X.env.kindOf n = some .local)
      (suite : ∀ (a : Addr) (oe : Obj) (cls : Value) (d : Option Addr) (pn : List (Addr × Obj)), Zc cls d oe → (∃ vs, oe.data = .fields vs) → PSs (X.suite a ((a, oe) :: pn)) (b0 :: su) (ts a cls d))
      (rest : Clauses X hs l) : Clauses X (.ExceptHandler (some (.Name x p1)) (some n) (b0 :: su) p2 :: hs) ((c, i, ts) :: l)
section
variable {X : Cx} {body : List Stmt} {hd0 : ExceptHandler} {hds : List ExceptHandler} {l : List (Value × Nat × Suite)} {pos : Pos} {tb : WX → TS} {Wo : WX}
theorem try_as (hs : X.stack = X.env :: X.outer) (hf : X.env.frame = some X.env.locals) (hN : X.N.Nodup) (tk : Takes X Wo)
    (hb : ∀ (W : WX) (pn : List (Addr × Obj)) (xe : Value → Shared → Prop), Takes (X.tr pn xe) W → PassesOwn (model X.prog X.w) X.A X.env xe → PSs (X.tr pn xe) body (tb W))
    (cl : Clauses X (hd0 :: hds) l) : PS X (.Try body (hd0 :: hds) [] [] pos) (fun D τ G => tb (wish X.K X.N.length Wo D l) D τ G) := by
  constructor
  intro pins s τ G D I h
  have okX := I.ok
  have frms : X.A.frames = some (X.env :: X.outer) := okX.frames.trans (congrArg some hs)
  apply wpAny_Try_except
  refine wpAny_mono ((hb (wish X.K X.N.length Wo D l) (X.pn ++ pins)
    (fun e0 s1 => wpAny (model X.prog X.w) X.A (noteFrame e0 X.env)
      (fun _ s2 => wpAny (model X.prog X.w) X.A (setFlight e0 none)
        (fun _ s3 => wpAny (model X.prog X.w) X.A (handleBy e0 X.env (hd0 :: hds)) (SP X pins D) X.xe s3) X.xe s2) X.xe s1)
    (fun u s' caught => ?_) PassesOwn.looking).run [] s τ G D (I.toTry _) h) (fun f s1 hsp => ?_) (fun _ _ he => he)
  · obtain ⟨a, B, sI, pins', τ', G', cls, d, rfl, J0, nb, up, sky0, na, os, ag, w⟩ := caught
    have J : Inv X pins τ' G' sI := J0.ofTry okX
    have sky : Sky B (X.env :: X.outer) a (Zc cls d) X.env.locals s'.heap := hs ▸ sky0
    show wpAny (model X.prog X.w) X.A (noteFrame (.ref a) X.env) _ _ _
    refine Sky.land Zc.steady frms hf sky (fun hp3 fl3 up3 => ?_)
    have J3 : Inv X pins τ' G' { s' with heap := hp3 } := J.landed nb fl3.1 (up.trans up3) os ag
    obtain ⟨ob3, vs3, ho3, hz3, hd3⟩ := fl3.there
    have nfr : a ∉ frs (X.env :: X.outer) := by
      intro hm
      obtain ⟨_, o2, e2, hne⟩ := fl3.2.2.1.mem hm
      have : o2 = ob3 := Option.some.inj (e2.symm.trans ho3)
      exact hne _ (this ▸ hd3)
    have nLoc : a ≠ X.env.locals := by
      intro z
      exact nfr (List.mem_filterMap.mpr ⟨X.env, List.mem_cons_self, hf.trans (congrArg some z.symm)⟩)
    have nOut : a ∉ X.fs := by
      intro hm
      obtain ⟨en, he, q⟩ := List.mem_filterMap.mp hm
      exact nfr (List.mem_filterMap.mpr ⟨en, List.mem_cons_of_mem _ he, q⟩)
    have S3 := J3.suite ho3 hd3 na nLoc nOut
    have go : ∀ {hs' : List ExceptHandler} {l' : List (Value × Nat × Suite)}, Clauses X hs' l' → wish X.K X.N.length Wo D l' cls d τ' G' →
        wpAny (model X.prog X.w) X.A (handleBy (.ref a) X.env hs') (SP X pins D) X.xe { s' with heap := hp3 } := by
      intro hs' l' hk
      induction hk with
      | stop =>
        intro w0
        apply wpAny_handleBy_nil
        obtain ⟨_, _, _, oe, vs, T, oT, ts0, he, hz, hdt, h1, hr⟩ := id fl3
        unfold PySem.passOn
        refine wpAny_bind (wpAny_field he hdt h1 ?_)
        rw [if_neg (by simp : ¬ ((Value.ref T == Value.none) = true))]
        have out : wpAny (model X.prog X.w) X.A (setFlight (.ref a) X.env.frame)
            (fun _ s4 => wpAny (model X.prog X.w) X.A (throw (.ref a) : Sem Flow) (SP X pins D) X.xe s4) X.xe { s' with heap := hp3 } := by
          rw [hf]
          refine HandSPX.setFlight_upZ fl3 (fun hp4 hh4 up4 => wpAny_throw (tk _ _ ?_))
          exact ⟨a, B, sI, pins, τ', G', cls, d, rfl, J, nb, (up.trans up3).trans up4, .inr (.inr (hs ▸ hh4)), na, os, ag, w0⟩
        first
          | exact wpAny_bind out
          | exact wpAny_bind (wpAny_pure (wpAny_bind out))
      | @more x n c i ts b0 su p1 p2 hs2 l2 named at_ loc suite rest ih =>
        intro w0
        obtain ⟨b, hb1, yes, no⟩ := w0
        refine wpAny_handleBy_cons (codeAny_handlers_test ?_) (fun q => nomatch q)
        have LT : PySem.W.Looks (model X.prog X.w) hp3 (typeOf (.ref a)) cls := fun A Q E s k q => wpAny_typeOf_ref (k _ _ ho3) (hz3.1 ▸ q)
        have LM := PySem.W.exm_one (M := model X.prog X.w) J3.kIn LT hb1
        have test : ∀ {Q : Value → Shared → Prop} {E : Value → Shared → Prop}, Q c { s' with heap := hp3 } →
            wpAny (model X.prog X.w) (X.A.mark (some (.ref a))) (eval (.Name x p1) X.env) Q E { s' with heap := hp3 } := by
          intro Q E q
          rcases named with ⟨g1, g2, hm | ⟨hm, hv, hnn⟩⟩
          · exact ld_glob (X := X.suite a ((a, ob3) :: (X.pn ++ pins))) S3 g1 hm q g2
          · exact ld_blt (X := X.suite a ((a, ob3) :: (X.pn ++ pins))) S3 g1 hm hv q hnn g2
        refine test (LM.here ?_)
        cases b with
        | false =>
          show wpAny _ X.A (handleBy (.ref a) X.env hs2) _ _ _
          exact ih (no rfl)
        | true =>
          apply codeAny_handlers_suite_as
          refine HandSPX.lands_againZ fl3 (fun hp4 fl4 up4 => ?_)
          have J4 : Inv X pins τ' G' { s' with heap := hp4 } := J.landed nb fl4.1 ((up.trans up3).trans up4) os ag
          obtain ⟨ob4, vs4, ho4, hz4, hd4⟩ := fl4.there
          have S4 := J4.suite ho4 hd4 na nLoc nOut
          refine store_ok (X := X.suite a ((a, ob4) :: (X.pn ++ pins))) (v := .ref a) S4 hN at_ (.inl loc) rfl (fun s5 S5 => ?_) (.inr loc)
          have ends : ∀ {s6 : Shared} {τ6 : L2.St} {G6 : Hp} {Q : Shared → Prop}, Inv (X.suite a ((a, ob4) :: (X.pn ++ pins))) [] τ6 G6 s6 →
              (∀ s7, Inv X pins (τ6.set i none) G6 s7 → Q s7) →
              wpAny (model X.prog X.w) X.A (do bindName X.env n .none; unbindBehindTheSuite X.env n p2) (fun _ s7 => Q s7) X.xe s6 :=
            fun {s6 τ6 G6 Q} S6 hq => gone_ok (S6.unsuite okX) hN at_ loc hq
          refine wpAny_mono ((suite a ob4 cls d (X.pn ++ pins) hz4 ⟨_, hd4⟩).run [] s5 _ G' _ S5 (yes rfl J.len a na)) (fun f s6 hsp => ?_) (fun _ _ z => z.elim)
          cases f with
          | ret u =>
            obtain ⟨v6, τ6, G6, S6, r6, q6⟩ := hsp
            exact ends S6 (fun s7 J7 => ⟨_, _, _, J7, r6, q6⟩)
          | next =>
            obtain ⟨τ6, G6, S6, q6⟩ := hsp
            exact ends S6 (fun s7 J7 => ⟨_, _, J7, q6⟩)
          | brk =>
            obtain ⟨τ6, G6, S6, q6⟩ := hsp
            exact ends S6 (fun s7 J7 => ⟨_, _, J7, q6⟩)
          | cont =>
            obtain ⟨τ6, G6, S6, q6⟩ := hsp
            exact ends S6 (fun s7 J7 => ⟨_, _, J7, q6⟩)
    exact go cl w
  · cases f with
    | ret u =>
      obtain ⟨v, τ1, G1, J1, r, q⟩ := hsp
      exact ⟨v, τ1, G1, J1.ofTry okX, r, q⟩
    | next =>
      obtain ⟨τ1, G1, J1, q⟩ := hsp
      exact wpAny_execs_nil ⟨τ1, G1, J1.ofTry okX, q⟩
    | brk =>
      obtain ⟨τ1, G1, J1, q⟩ := hsp
      exact ⟨τ1, G1, J1.ofTry okX, q⟩
    | cont =>
      obtain ⟨τ1, G1, J1, q⟩ := hsp
      exact ⟨τ1, G1, J1.ofTry okX, q⟩
end
end TA2


set_option Elab.async false
set_option linter.all false
set_option maxRecDepth 100000
set_option maxHeartbeats 2000000
/-! a lambda with one parameter that has an integer as its default, handed to a def that calls it without arguments -/
namespace LmD
open PySem PySem.Spec PyProof.Rows L2 LamX PySem.W
/-- the function's object: its default's tuple at T -/
abbrev fdD (qual : Str) (params : Arguments) (body : Expr) (scope : Scope) (cl : List (Str × Addr)) (T : Addr) (pm cdv ct : Value) : FuncData :=
  { kla_fn "<lambda>" qual params body scope cl pm cdv ct with defaults := .ref T }
abbrev obD (qual : Str) (params : Arguments) (body : Expr) (scope : Scope) (cl : List (Str × Addr)) (T : Addr) (pm cdv ct : Value) : Obj :=
  { cls := .type "function", data := .func (fdD qual params body scope cl T pm cdv ct) }
section
variable {M : Model} {A : Around} {E : Value → Shared → Prop} {s : Shared} {qual : Str} {params : Arguments} {body : Expr} {scope : Scope} {env : Env} {c P T : Addr} {ps : Array Value} {pos : Pos} {ln : Nat} {mg : Str → Option Value}
  {clos : List (Str × Addr)} {Q : Value → Shared → Prop}
theorem tailNew (hcl : closureFor scope env = pure clos) (g0 : env.globals = mainGlobals) (hg : s.heap.Ns mainGlobals mg) (hcode : env.code = .ref c) (C : CodeHd s.heap c P)
    (hP : s.heap.get? P = some (tabObj ps)) (ht : TriplesOk ps.toList) (hnf : codeAmong pos ps.toList = none) (hgP : mainGlobals ≠ P) (hb : s.heap.BuiltinsAt mg P)
    (h : ∀ c' ctv h' tk, Heap.ExtBut P s.heap h' → s.heap.objs.size ≤ c' → c' < h'.objs.size → h'.CodeRec (.ref c') qual →
      h'.get? P = some (tabObj (ps ++ #[rawInt pos.line, rawInt pos.col, .ref c'])) →
      Q (.ref h'.objs.size) { s with heap := h'.push (obD qual params body scope clos T ((mg "__name__").getD .none) (.ref c') ctv), toks := tk }) :
    wpAny M A (makeTail "<lambda>" qual params (.expr body) scope env (.ref T) .none none pos ln) Q E s := by
  obtain ⟨bm, ob, e1, e2, _, e3, e4, e5, e6, e7⟩ := hb
  unfold makeTail
  rw [hcl, g0]
  refine wpAny_bind (wpAny_pure ?_)
  by_cases hz : clos = []
  · subst hz
    simp only [List.isEmpty_nil, if_true]
    refine wpAny_bind (wpAny_pure (wpAny_bind (wpAny_functionCodeX hcode (C.code hP ht) (C.tab hP) hnf ?_)))
    intro c' h' tk hx hge hlt _ hrec htb _
    refine wpAny_bind (wpAny_builtinsFor (hg.extBut hx hgP) e1 e2 (hx _ _ e3 e4) e5 e6 e7 (wpAny_bind (wpAny_nsGet (hg.extBut hx hgP) ?_)))
    exact wpAny_bind (wpAny_pure (wpAny_newObj_type (h c' .none h' tk hx hge hlt hrec htb.2) (by size_fits)))
  · have hz' : clos.isEmpty = false := by
      cases clos with
      | nil => exact absurd rfl hz
      | cons _ _ => rfl
    simp only [hz', Bool.false_eq_true, if_false]
    have up : ∀ {oT : Obj} b o, s.heap.get? b = some o → (s.heap.push oT).get? b = some o := fun b o e => Heap.get?_push_of_some _ e
    refine wpAny_bind (wpAny_newTextTuple (wpAny_bind (wpAny_functionCodeX hcode ((C.keeps up).code (up _ _ hP) ht) ((C.keeps up).tab (up _ _ hP)) hnf ?_)))
    intro c' h' tk hx hge hlt _ hrec htb _
    have hx' : Heap.ExtBut P s.heap h' := fun b o nb e => hx b o nb (up _ _ e)
    have hgn := (hg.push _).extBut hx hgP
    have big : s.heap.objs.size ≤ c' := Nat.le_trans (by rw [Heap.size_push]; omega) hge
    refine wpAny_bind (wpAny_builtinsFor hgn e1 e2 (hx' _ _ e3 e4) e5 e6 e7 (wpAny_bind (wpAny_nsGet hgn ?_)))
    exact wpAny_bind (wpAny_pure (wpAny_newObj_type (h c' _ h' tk hx' big hlt hrec htb.2) (by size_fits)))
theorem tailOld {cv : Value} (hcl : closureFor scope env = pure clos) (g0 : env.globals = mainGlobals) (hg : s.heap.Ns mainGlobals mg) (hcode : env.code = .ref c) (C : CodeHd s.heap c P)
    (hP : s.heap.get? P = some (tabObj ps)) (ht : TriplesOk ps.toList) (hf : codeAmong pos ps.toList = some cv) (hb : s.heap.BuiltinsAt mg P)
    (h : ∀ (ctv : Value) (h' : Heap) (tk : Tok), (∀ b o, s.heap.get? b = some o → h'.get? b = some o) → s.heap.objs.size ≤ h'.objs.size →
      Q (.ref h'.objs.size) { s with heap := h'.push (obD qual params body scope clos T ((mg "__name__").getD .none) cv ctv), toks := tk }) :
    wpAny M A (makeTail "<lambda>" qual params (.expr body) scope env (.ref T) .none none pos ln) Q E s := by
  obtain ⟨bm, ob, e1, e2, _, e3, e4, e5, e6, e7⟩ := hb
  unfold makeTail
  rw [hcl, g0]
  refine wpAny_bind (wpAny_pure ?_)
  by_cases hz : clos = []
  · subst hz
    simp only [List.isEmpty_nil, if_true]
    refine wpAny_bind (wpAny_pure (wpAny_bind (wpAny_functionCode_hit hcode (C.code hP ht) hf ?_)))
    refine wpAny_bind (wpAny_builtinsFor hg e1 e2 e4 e5 e6 e7 (wpAny_bind (wpAny_nsGet hg ?_)))
    exact wpAny_bind (wpAny_pure (wpAny_newObj_type (h .none s.heap s.toks (fun _ _ e => e) (Nat.le_refl _)) (by size_fits)))
  · have hz' : clos.isEmpty = false := by
      cases clos with
      | nil => exact absurd rfl hz
      | cons _ _ => rfl
    simp only [hz', Bool.false_eq_true, if_false]
    have up : ∀ {oT : Obj} b o, s.heap.get? b = some o → (s.heap.push oT).get? b = some o := fun b o e => Heap.get?_push_of_some _ e
    refine wpAny_bind (wpAny_newTextTuple (wpAny_bind (wpAny_functionCode_hit hcode ((C.keeps up).code (up _ _ hP) ht) hf ?_)))
    refine wpAny_bind (wpAny_builtinsFor (hg.push _) e1 e2 (up _ _ e4) e5 e6 e7 (wpAny_bind (wpAny_nsGet (hg.push _) ?_)))
    exact wpAny_bind (wpAny_pure (wpAny_newObj_type (h _ _ s.toks up (by rw [Heap.size_push]; omega)) (by size_fits)))
end
/-- the parameters: one, x, with the default i -/
def one (x : Str) (i : Int) (p1 p2 : Pos) (j : Nat) : Arguments :=
  { posonlyargs := [], args := [{ arg := x, annotation := none, pos := p1 }], vararg := none, kwonlyargs := [], kw_defaults := [], kwarg := none, defaults := [.Constant (.int i) j p2] }
theorem evalD {M : Model} {A : Around} {E : Value → Shared → Prop} {s : Shared} {x : Str} {i : Int} {p1 p2 pos : Pos} {j : Nat} {body : Expr} {scope : Scope} {env : Env} {Q : Value → Shared → Prop}
    (h : wpAny M A (makeTail "<lambda>" (env.qual ++ "<lambda>") (one x i p1 p2 j) (.expr body) scope env (.ref s.heap.objs.size) .none none pos pos.line) Q E
      { s with heap := s.heap.push { cls := .type "tuple", data := .seq #[.int i s.toks] }, toks := s.toks + 1 }) :
    wpAny M A (eval (.Lambda (one x i p1 p2 j) body scope pos) env) Q E s := by
  rw [arm_eval_Lambda]
  show wpAny M A (do let dv ← evalAll [eval (.Constant (.int i) j p2) env]; let kdv ← holding dv (evalAllOpt []); makeFunction "<lambda>" (env.qual ++ "<lambda>") (one x i p1 p2 j) (.expr body) scope env dv kdv [] pos pos.line) Q E s
  refine wpAny_bind (wpAny_bind (wpAny_Constant_int (wpAny_bind (wpAny_holding (wpAny_pure (wpAny_pure ?_))))))
  refine wpAny_bind (wpAny_holding (wpAny_pure ?_))
  rw [makeFunction_eq]
  show wpAny M A (do let d ← newTextTuple [.int i s.toks]; makeTail "<lambda>" (env.qual ++ "<lambda>") (one x i p1 p2 j) (.expr body) scope env d .none none pos pos.line) Q E _
  exact wpAny_bind (wpAny_newTextTuple h)
/-- the default's tuple -/
abbrev tupD (i : Int) (t : Tok) : Obj := { cls := .type "tuple", data := .seq #[.int i t] }
section
variable {X : Cx} {pins : List (Addr × Obj)} {σ : L2.St} {H : Hp} {s : Shared}
theorem makeD {Ts : List (Addr × Str)} {c P : Addr} {x : Str} {i : Int} {p1 p2 pos : Pos} {j : Nat} {body : Expr} {scope : Scope} {E : Value → Shared → Prop} {Q : Value → Shared → Prop} (I : L2.Inv X pins σ H s) (TB : TabB X.base X.mg c P) (hcode : X.env.code = .ref c)
    (hm : (P, X.env.qual ++ "<lambda>") ∈ Ts) (hu : ∀ p ∈ Ts, p.1 = P → p.2 = X.env.qual ++ "<lambda>") (hT : Tabs Ts H) (hfree : ∀ y ∈ scope.names, y.2 = .free → ∃ c, X.env.cells.lookup y.1 = some c)
    (h : ∀ (f c' Ta : Addr) (pm ctv : Value) (H1 : Hp) (s' : Shared) (t : Tok), L2.Inv X pins σ H1 s' → ExtN H H1 → Tabs Ts H1 →
      s'.heap.get? f = some (obD (X.env.qual ++ "<lambda>") (one x i p1 p2 j) body scope (cloFrom X.env.cells scope.names []) Ta pm (.ref c') ctv) → H1 f = none → f ∉ frs X.stack →
      s'.heap.get? Ta = some (tupD i t) → H1 Ta = none → Ta ∉ frs X.stack → H1 c' = some (CodeO c' (X.env.qual ++ "<lambda>")) → Q (.ref f) s') :
    wpAny (model X.prog X.w) X.A (eval (.Lambda (one x i p1 p2 j) body scope pos) X.env) Q E s := by
  refine evalD ?_
  have I0 : L2.Inv X pins σ H { s with heap := s.heap.push (tupD i s.toks), toks := s.toks + 1 } := I.kept fun b o e => Heap.get?_push_of_some _ e
  have atT : (s.heap.push (tupD i s.toks)).get? s.heap.objs.size = some (tupD i s.toks) := Heap.get?_push_size _ rfl
  have noT : H s.heap.objs.size = none := I.hok.fresh (Nat.le_refl _)
  have outside : ∀ a, s.heap.objs.size ≤ a → a ∉ frs X.stack := fun a ha z => by
    rcases List.mem_cons.mp (I.stkSub _ z) with e | e
    · exact Nat.lt_irrefl _ (Nat.lt_of_lt_of_le (e ▸ I.lt) ha)
    · exact I.nofs ha e
  obtain ⟨ps, hP, ht, ha⟩ := hT _ hm
  have sz0 : s.heap.objs.size < (s.heap.push (tupD i s.toks)).objs.size := by rw [Heap.size_push]; omega
  have bP : (s.heap.push (tupD i s.toks)).BuiltinsAt X.mg P := TB.bm.keeps I0.bk
  have hP' : (s.heap.push (tupD i s.toks)).get? P = some { cls := .none, data := .fields ps } := I0.hok P _ hP
  have PT : s.heap.objs.size ≠ P := fun z => by
    rw [← z, noT] at hP
    cases hP
  cases hc : codeAmong pos ps.toList with
  | none =>
    refine tailNew (mg := X.mg) (c := c) (P := P) (ps := ps) (closure_ok hfree) I0.ok.glob (I0.mod.glob.keeps I0.bk) hcode (TB.code.keeps I0.bk) hP' ht hc TB.gP bP (fun c' ctv h' tk hx hge hlt hrec htb => ?_)
    obtain ⟨c2, oc, vs, t, e2, hoc, hd, hv⟩ := hrec
    cases e2
    have szl : (s.heap.push (tupD i s.toks)).objs.size ≤ h'.objs.size := Nat.le_trans hge (Nat.le_of_lt hlt)
    have nC : H c' = none := I0.hok.fresh hge
    have J := inv_table (t' := tk) (more := #[rawInt pos.line, rawInt pos.col, .ref c'])
      (h' := h'.push (obD (X.env.qual ++ "<lambda>") (one x i p1 p2 j) body scope (cloFrom X.env.cells scope.names []) s.heap.objs.size ((X.mg "__name__").getD .none) (.ref c') ctv)) I0 hP
      (fun b o nb e => Heap.get?_push_of_some _ (hx b o nb e)) (Heap.get?_push_of_some _ htb) hge ⟨oc, vs, t, Heap.get?_push_of_some _ hoc, hd, hv⟩
    have grown : ExtN H (upd (upd H P (.tbl (ps ++ #[rawInt pos.line, rawInt pos.col, .ref c']))) c' (CodeO c' (X.env.qual ++ "<lambda>"))) := by
      intro b o e n
      have nb : b ≠ P := fun z => n ps (Option.some.inj (e.symm.trans (z ▸ hP)))
      rw [upd_ne (ne_of_none e nC), upd_ne nb]
      exact e
    have asList : (ps ++ #[rawInt pos.line, rawInt pos.col, .ref c']).toList = ps.toList ++ [rawInt pos.line, rawInt pos.col, .ref c'] := by simp
    have tabs' : Tabs Ts (upd (upd H P (.tbl (ps ++ #[rawInt pos.line, rawInt pos.col, .ref c']))) c' (CodeO c' (X.env.qual ++ "<lambda>"))) := by
      intro p hp
      by_cases hb : p.1 = P
      · rw [hu p hp hb, hb]
        refine ⟨_, (upd_ne (ne_of_none hP nC)).trans upd_same, by rw [asList]; exact PySem.TriplesOk_snoc _ _ _ _ ht, fun p' cv hcv => ?_⟩
        rw [asList] at hcv
        rcases among_app _ ht hcv with z | z
        · obtain ⟨c0, q1, q2⟩ := ha p' cv z
          exact ⟨c0, q1, grown _ _ q2 codeO_ne⟩
        · exact ⟨c', z, upd_same⟩
      · obtain ⟨ps', a1, a2, a3⟩ := hT p hp
        refine ⟨ps', by rw [upd_ne (ne_of_none a1 nC), upd_ne hb]; exact a1, a2, fun p' cv hcv => ?_⟩
        obtain ⟨c0, q1, q2⟩ := a3 p' cv hcv
        exact ⟨c0, q1, grown _ _ q2 codeO_ne⟩
    have old : ∀ {b : Addr}, b ≠ c' → b ≠ P → H b = none → upd (upd H P (.tbl (ps ++ #[rawInt pos.line, rawInt pos.col, .ref c']))) c' (CodeO c' (X.env.qual ++ "<lambda>")) b = none := fun {b} n1 n2 e => by rw [upd_ne n1, upd_ne n2]; exact e
    refine h h'.objs.size c' s.heap.objs.size ((X.mg "__name__").getD .none) ctv _ _ s.toks J grown tabs' (Heap.get?_push_size _ rfl) ?_ (outside _ (Nat.le_trans (Nat.le_of_lt sz0) szl)) (Heap.get?_push_of_some _ (hx _ _ PT atT)) ?_ (outside _ (Nat.le_refl _)) upd_same
    · exact old (Nat.ne_of_gt hlt) (Nat.ne_of_gt (Nat.lt_of_lt_of_le (Heap.lt_size hP') szl)) (I0.hok.fresh szl)
    · exact old (Nat.ne_of_lt (Nat.lt_of_lt_of_le sz0 hge)) PT noT
  | some cv =>
    obtain ⟨c', e, hco⟩ := ha pos cv hc
    subst e
    refine tailOld (mg := X.mg) (c := c) (P := P) (ps := ps) (closure_ok hfree) I0.ok.glob (I0.mod.glob.keeps I0.bk) hcode (TB.code.keeps I0.bk) hP' ht hc bP (fun ctv h' tk hx hsz => ?_)
    have J : L2.Inv X pins σ H { s with heap := h'.push (obD (X.env.qual ++ "<lambda>") (one x i p1 p2 j) body scope (cloFrom X.env.cells scope.names []) s.heap.objs.size ((X.mg "__name__").getD .none) (.ref c') ctv), toks := tk } :=
      I.kept fun b o e => Heap.get?_push_of_some _ (hx b o (Heap.get?_push_of_some _ e))
    exact h h'.objs.size c' s.heap.objs.size ((X.mg "__name__").getD .none) ctv H _ s.toks J (ExtN.refl H) hT (Heap.get?_push_size _ rfl) (I0.hok.fresh hsz) (outside _ (Nat.le_trans (Nat.le_of_lt sz0) hsz)) (Heap.get?_push_of_some _ (hx _ _ atT)) noT (outside _ (Nat.le_refl _)) hco
end
/-! ### the names of such a lambda -/
/-- x its parameter; no cells; the others are captured or global -/
structure ScD (sc scope : Scope) (x : Str) : Prop where
  kind : scope.kind = .function
  co : scope.isCoroutine = false
  gen : scope.isGenerator = false
  own : ∀ y ∈ scope.names, y.2 ≠ .cell ∧ (y.2 = .local → y.1 = x)
  has : scope.names.lookup x = some .local
  free : ∀ y ∈ scope.names, y.2 = .free → sc.names.lookup y.1 = some .cell ∨ sc.names.lookup y.1 = some .free
def scDB (sc scope : Scope) (x : Str) : Bool :=
  decide (scope.kind = .function) && (!scope.isCoroutine) && (!scope.isGenerator) && decide (scope.names.lookup x = some .local) &&
    scope.names.all fun y => (!decide (y.2 = .cell)) && ((!decide (y.2 = .local)) || decide (y.1 = x)) && ((!decide (y.2 = .free)) || decide (sc.names.lookup y.1 = some .cell) || decide (sc.names.lookup y.1 = some .free))
theorem scD_by {sc scope : Scope} {x : Str} (h : scDB sc scope x = true) : ScD sc scope x := by
  unfold scDB at h
  simp only [Bool.and_eq_true, Bool.or_eq_true, Bool.not_eq_true', decide_eq_true_eq, decide_eq_false_iff_not, List.all_eq_true] at h
  obtain ⟨⟨⟨⟨h1, h2⟩, h3⟩, h5⟩, h4⟩ := h
  refine ⟨h1, h2, h3, fun y hy => ⟨(h4 y hy).1.1, fun e => ?_⟩, h5, fun y hy e => ?_⟩
  · rcases (h4 y hy).1.2 with z | z
    · exact absurd e z
    · exact z
  · rcases (h4 y hy).2 with (z | z) | z
    · exact absurd e z
    · exact .inl z
    · exact .inr z
theorem ScD.look {X : Cx} {scope : Scope} {x : Str} (S : ScD X.env.scope scope x) (ok : X.Ok) : ∀ y ∈ scope.names, y.2 = .free → ∃ c, X.env.cells.lookup y.1 = some c := fun y hy e =>
  ok.has _ (S.free y hy e)
section
variable {X : Cx} {pins : List (Addr × Obj)} {σ : L2.St} {H HZ : Hp} {s s1 : Shared}
theorem startD {A : Around} {outer : List Env} {E : XK} {scope : Scope} {x : Str} {v : Value} {f c' : Addr} {h₁ : Heap} {tk : Nat} (I : L2.Inv X pins σ H s) (S : ScD X.env.scope scope x) (nx : ∀ i : Nat, X.N[i]? ≠ some x)
    (e0 : Env0 X.prog X.w X.K X.mg X.base A outer s1 HZ) (hd : A.handled = none) (un : Un (frs X.stack) [] H HZ s.heap s1.heap)
    (hns : h₁.Ns s1.heap.objs.size fun y => ([(x, v)] : List (Str × Value)).reverse.lookup y) (kp : ∀ b o, s1.heap.get? b = some o → h₁.get? b = some o) :
    L2.Inv (lamCx X A outer s1 HZ E scope f c') [] σ HZ { s1 with heap := h₁, toks := tk } := by
  have hfree := S.look I.ok
  have fromCells : ∀ {y c}, (cloFrom X.env.cells scope.names []).lookup y = some c → X.env.cells.lookup y = some c := by
    intro y c e
    rcases cloFrom_mem (PySem.mem_of_lookup e) with hm | ⟨k1, k2⟩
    · cases hm
    · obtain ⟨c1, hc⟩ := hfree _ k1 rfl
      have hc : X.env.cells.lookup y = some c1 := hc
      have : c = c1 := by rw [k2, hc] <;> rfl
      rw [this]
      exact hc
  have toCells : ∀ {y}, scope.names.lookup y = some .free → ∃ c, (cloFrom X.env.cells scope.names []).lookup y = some c := fun {y} hl =>
    mem_lookup (cloFrom_has (cells := X.env.cells) (acc := []) (PySem.mem_of_lookup hl))
  have cellKept : ∀ {c : Addr} {u : Option Value}, H c = none → s.heap.IsCell c u → h₁.IsCell c u := by
    intro c u n ⟨o, ho, hdt⟩
    obtain ⟨sl, q⟩ := un.any ho n (by simp)
    exact ⟨_, kp _ _ q, hdt⟩
  have none_ : ∀ b : Addr, b ∉ (lamCx X A outer s1 HZ E scope f c').ex := fun b z => nomatch (show b ∈ ([] : List Addr) from z)
  refine ⟨⟨e0.mod, S.kind, rfl, rfl, Nat.le_refl _, fun y z c k1 k2 => I.ok.inj y z c (fromCells k1) (fromCells k2), fun y hy => ?_, fun y c z _ => (Bool.false_ne_true z).elim, fun _ => hd,
      Around.frames_deeper e0.frames, .inr ⟨rfl, rfl⟩, fun b z => absurd z (none_ b), e0.bs, e0.bsz, fun b _ _ => none_ b, fun b z => absurd z (none_ b), e0.funs, e0.frf⟩,
    rfl, e0.bare, Un.kept kp, ⟨_, hns, fun i y u k1 k2 k3 => ?_⟩, fun y c e => ?_, e0.hok.fresh (Nat.le_refl _), fun y c e => ?_, fun q hq => (List.not_mem_nil (show q ∈ ([] : List (Addr × Obj)) from hq)).elim, e0.hok.kept kp, I.len⟩
  · have hy : scope.names.lookup y = some .cell ∨ scope.names.lookup y = some .free := hy
    rcases hy with hy | hy
    · exact absurd rfl (S.own _ (PySem.mem_of_lookup hy)).1
    · exact toCells hy
  · have k3 : Vis scope y := k3
    rcases k3 with k | k | k
    · have : y = x := (S.own _ (PySem.mem_of_lookup k)).2 rfl
      exact absurd (this ▸ k1) (nx i)
    · exact absurd rfl (S.own _ (PySem.mem_of_lookup k)).1
    · obtain ⟨m, hn, hl⟩ := I.loc
      have outerK := S.free _ (PySem.mem_of_lookup k) rfl
      obtain ⟨w', r, q⟩ := hl i y u k1 k2 (outerK.elim (fun z => .inr (.inl z)) (fun z => .inr (.inr z)))
      obtain ⟨c2, h2⟩ := toCells k
      refine ⟨w', r, .inr ⟨.inr k, c2, h2, ?_⟩⟩
      have c1 := fromCells h2
      rcases q with ⟨kl, _⟩ | ⟨_, c3, e', z⟩
      · have kl : X.env.scope.names.lookup y = some .local := kl
        rcases outerK with o2 | o2 <;> rw [show X.env.scope.names.lookup y = _ from o2] at kl <;> cases kl
      · rw [c1] at e'
        cases e'
        exact cellKept (I.freeC y _ c1) z
  · obtain ⟨w', z⟩ := I.cell y c (fromCells e)
    exact ⟨w', cellKept (I.freeC y c (fromCells e)) z⟩
  · obtain ⟨u, o, ho, hdt⟩ := I.cell y c (fromCells e)
    exact un.free c o ho (I.freeC y c (fromCells e)) (by simp)
/-- how the call without arguments binds -/
def BindD (x : Str) (i : Int) (params : Arguments) (body : Expr) (scope : Scope) : Prop :=
  ∀ (qual : Str) (cl : List (Str × Addr)) (T : Addr) (pm cv ctv : Value) (t : Tok), ∃ k, bindArgs (fdD qual params body scope cl T pm cv ctv) ⟨[], []⟩ = seqItems? (.ref T) >>= k ∧ k (some #[.int i t]) = pure [(x, .int i t)]
/-- a(), in the def that got the lambda -/
theorem actD {CXg : CXT} {Eg : XK} {Ng : List Str} {qg : Str} {sg : Scope} {g f c' Ta : Addr} {cdg pm ctv : Value} {params : Arguments} {body : Expr} {scope : Scope} {k i : Nat} {a x : Str} {n : Int} {t : Tok} {pn : List (Addr × Obj)} {xe : Value → Shared → Prop} {W : WX} {E : XK} {tb : TE} {p1 p2 : Pos}
    (I : L2.Inv X pins σ H s) (S : ScD X.env.scope scope x) (nx : ∀ i : Nat, X.N[i]? ≠ some x)
    (hf : s.heap.get? f = some (obD (X.env.qual ++ "<lambda>") params body scope (cloFrom X.env.cells scope.names []) Ta pm (.ref c') ctv)) (hfn : H f = none) (hfr : f ∉ frs X.stack)
    (hT : s.heap.get? Ta = some (tupD n t)) (hTn : H Ta = none) (hTr : Ta ∉ frs X.stack) (hb : BindD x n params body scope)
    (tk : Takes ((cxOf CXg X.prog X.w X.K X.mg X.base Ng qg sg g cdg X.A X.stack s H Eg).tr pn xe) W) (hW : ∀ cls d σ' H', E cls d H' → W cls d σ' H') (hr : Room (k + 1) (X.A.deeper (envOfC qg sg s.heap.objs.size g cdg)))
    (hbody : ∀ (A : Around) (outer : List Env) (s : Shared) (H : Hp), Room k (A.deeper (lamEnv X scope s.heap.objs.size f c')) → PE (lamCx X A outer s H E scope f c') body tb)
    (hN : Ng[i]? = some a) (hv : Vis sg a) (hd : (a == ("__debug__" : Str)) = false := by decide) (hcd : (a == ("__classdict__" : Str)) = false := by decide) :
    PE ((cxOf CXg X.prog X.w X.K X.mg X.base Ng qg sg g cdg X.A X.stack s H Eg).tr pn xe) (.Call (.Name a p1) [] [] p2)
      (fun σZ HZ Q => σZ[i]? = some (some (.ref f)) ∧ HZ c' = some (CodeO c' (X.env.qual ++ "<lambda>")) ∧ tb σ HZ Q) := by
  constructor
  intro pinsZ sZ σZ HZ Q IZ ⟨hs, hc, ht⟩
  refine wpAny_Call_Name_kw (thn ((pe_var (pos := p1) (i := i) hN hv hd hcd).run pinsZ sZ σZ HZ (fun v H1 => v = .ref f ∧ H1 = HZ) IZ ⟨.ref f, hs, rfl, rfl⟩) (fun u s1 ⟨v, H1, I1, r1, ev, eH⟩ => ?_))
  subst ev
  subst eH
  obtain rfl : u = Value.ref f := r1
  have nil_ : ∀ b : Addr, b ∉ ([] : List Addr) := fun b z => nomatch z
  have of1 := I1.base.keep f _ hf hfn hfr (nil_ f)
  have oT1 : s1.heap.get? Ta = some (tupD n t) := I1.base.keep Ta _ hT hTn hTr (nil_ Ta)
  refine PySem.W.callWith_F0 ⟨_, _, _, _, of1⟩ ?_
  have un : Un (frs X.stack) [] H H1 s.heap s1.heap := I1.base
  obtain ⟨⟨oc, vs, tq, hoc, hdc, hvc⟩, _, _⟩ := I1.hok c' _ hc
  have rc : codeAny (model X.prog X.w) (X.A.deeper (envOfC qg sg s.heap.objs.size g cdg)) (.call (.ref f) ⟨[], []⟩)
      (CR (L2.CX X.prog X.w) (envOfC qg sg s.heap.objs.size g cdg :: X.stack) X.prog X.w H1 s1 Q E) s1 := by
    refine PySem.W.kla_callFunE hr.depth of1 rfl S.co S.gen rfl ⟨c', oc, vs, tq, rfl, hoc, hdc, hvc⟩ ?_
    obtain ⟨kk, b1, b2⟩ := hb (X.env.qual ++ "<lambda>") (cloFrom X.env.cells scope.names []) Ta pm (.ref c') ctv t
    refine BindsTo.of_defaults (T := Ta) (o := tupD n t) rfl oT1 rfl b1 b2 _ _ _ _ ?_
    refine wpAny_newFunctionEnv (fun y hy => (S.own y hy).1) (fun y hy => ?_) (fun h₁ hns hsb => ⟨I1.nolimit.fresh _ hsb, ?_⟩) S.kind
    · obtain rfl : y = (x, Value.int n t) := List.mem_singleton.mp hy
      exact S.has
    show codeAny _ _ (.expr body (lamEnv X scope s1.heap.objs.size f c')) _ _
    have kp : ∀ b o, s1.heap.get? b = some o → h₁.get? b = some o := fun b o e => hsb.extBut b o (Nat.ne_of_lt (Heap.lt_size e)) (Heap.get?_push_of_some _ e)
    have J := startD (tk := s1.toks + ([(x, Value.int n t)] : List (Str × Value)).length) (E := E) (f := f) (c' := c') I S nx I1.env0 hr.hd un hns kp
    refine PySem.W.kla_codeExpr (wpAny_mono ((hbody _ _ s1 H1 (hr.deeper _)).run [] _ _ H1 Q J ht) (fun v s' ⟨w', H', J', rv, q⟩ => ?_) (fun _ _ hq => hq))
    exact ⟨w', H', J'.os, J'.bare, J'.base, J'.hok, rv, q⟩
  have hx : Passes (L2.CX X.prog X.w) ((cxOf CXg X.prog X.w X.K X.mg X.base Ng qg sg g cdg X.A X.stack s H Eg).tr pn xe) E := passes_call tk hW
  refine wpAny_call (codeAny_mono rc (fun r s' hq => ?_))
  rcases r with e | fl
  · exact hx pinsZ σZ H1 s1 e s' I1 hq
  · cases fl with
    | ret u => exact I1.after hq
    | next => exact hq.elim
    | brk => exact hq.elim
    | cont => exact hq.elim
/-- g(lambda x=i: body) -/
theorem pe_lamD {Ts : List (Addr × Str)} {TT : (XK → Hp → VK → Prop) → Hp → VK → Prop} {gn a x : Str} {n : Int} {g c P : Addr} {k j : Nat} {pg : Arguments} {bg : List Stmt} {sg : Scope} {dV kV doc pm cdv ct oc : Value} {an od : Option Addr} {osl : Array (Option Value)} {Ng : List Str}
    {body : Expr} {scope : Scope} {t : XK → TE} {p lpos pos p1 p2 : Pos} (hg : Gl X gn) (hm : X.mg gn = some (.ref g)) (hk : PySem.W.keepIn X.K (.ref g) = true)
    (lk : X.K.lookup g = some ⟨oc, od, .func (PySem.W.fnOf gn gn pg bg sg dV kV doc pm an cdv ct), osl⟩) (hcg : PySem.W.codeIn X.K cdv gn = true) (hb : L2.Binds X.K (PySem.W.fnOf gn gn pg bg sg dV kV doc pm an cdv ct) [a] [])
    (Sg : FnScope Ng [a] sg) (hNg : Ng[0]? = some a) (hva : Vis sg a) (hG : GivesTo X Ng gn sg g cdv bg a (X.env.qual ++ "<lambda>") TT)
    (TB : TabB X.base X.mg c P) (hcode : X.env.code = .ref c) (hmT : (P, X.env.qual ++ "<lambda>") ∈ Ts) (hu : ∀ p ∈ Ts, p.1 = P → p.2 = X.env.qual ++ "<lambda>") (hr : Room (k + 2) X.A)
    (S : ScD X.env.scope scope x) (nx : ∀ i : Nat, X.N[i]? ≠ some x) (hbd : BindD x n (one x n p1 p2 j) body scope)
    (hbody : ∀ (A : Around) (outer : List Env) (s : Shared) (H : Hp) (E : XK) (f c' : Addr), Room k (A.deeper (lamEnv X scope s.heap.objs.size f c')) → PE (lamCx X A outer s H E scope f c') body (t E))
    (hdb : (gn == ("__debug__" : Str)) = false := by decide) (hd : (a == ("__debug__" : Str)) = false := by decide) (hcd : (a == ("__classdict__" : Str)) = false := by decide) :
    PE X (.Call (.Name gn p) [.Lambda (one x n p1 p2 j) body scope lpos] [] pos) (tLam Ts TT t) := by
  constructor
  intro pins s σ H Q I ⟨hT, h⟩
  refine wpAny_Call_Name_kw (ld_glob I hg hm ?_ hdb)
  refine PySem.W.callWith_K (h₀ := X.base) I.ok.mod.kin hk ?_ (by rfl) (by rfl)
  show wpAny _ _ (spliced ((false, eval (.Lambda (one x n p1 p2 j) body scope lpos) X.env) :: backTo pos (starEach [] X.env))) _ _ s
  refine Calls.spliced_cons (makeD I TB hcode hmT hu hT (S.look I.ok) (fun f c' Ta pm' ctv H1 s' tq I1 eN T1 hf hfn hfr hTa hTn hTr hco => ?_))
  refine Calls.spliced_nil ⟨I1.kIn, ?_⟩
  have rc : codeAny (model X.prog X.w) X.A (.call (.ref g) ⟨[.ref f], []⟩) (CR C8.CX0 X.stack X.prog X.w H1 s' Q C8.E0) s' := by
    refine run_ofS (N := Ng) (ps := [a]) (us := [.ref f]) (vs := [.ref f]) lk hcg Sg hr I1.env0 (hb s' [.ref f] I1.kIn rfl) (.cons rfl .nil) rfl (fun hr' => ?_)
    obtain ⟨t', ht', hq'⟩ := hG f c' s' H1 Q (fun E H' Q' => t E σ H' Q')
      (fun W pn xe E p1 p2 tk hW => actD (i := 0) I1 S nx hf hfn hfr hTa hTn hTr hbd tk hW hr' (fun A outer s H hr2 => hbody A outer s H E f c' hr2) hNg hva hd hcd) hco (h H1 eN T1)
    exact ⟨t', ht'.nox, hq'⟩
  refine wpAny_call (codeAny_mono rc (fun r s2 hq => ?_))
  rcases r with e | fl
  · exact (show False from hq).elim
  · cases fl with
    | ret u => exact I1.after hq
    | next => exact hq.elim
    | brk => exact hq.elim
    | cont => exact hq.elim
end
end LmD


set_option Elab.async false
set_option linter.all false
set_option maxRecDepth 100000
set_option maxHeartbeats 2000000
/-! try: return [call()] / except A as e: return (word, e.field) / .. , given a lambda -/
namespace Hd
open PySem PySem.Spec PyProof.Rows L2 LamX TA2
/-- what a clause hands back -/
def word (w f : Str) (C : Addr) (i : Nat) : Suite := fun a cls d => tRet (tTup (tCons (tC (.str w)) (tCons (tXf a cls d C f (tVar i)) tNil)))
/-- word, field, class -/
abbrev Row := Str × Str × Addr
def rowsOf (i : Nat) (l : List Row) : List (Value × Nat × Suite) := l.map fun r => (.ref r.2.2, i, word r.1 r.2.1 r.2.2 i)
theorem one_clause {X : Cx} {w f x n : Str} {i k1 k2 : Nat} {C : Addr} {p1 p2 p3 p4 p5 p6 p7 : Pos} {hs : List ExceptHandler} {l : List Row} (T : XfC X.K C) (no : PySem.W.findIn X.K (.ref C) f = some none)
    (named : Names X x (.ref C)) (at_ : X.N[i]? = some n) (loc : X.env.kindOf n = some .local) (rest : Clauses X hs (rowsOf i l))
    (hd : (n == ("__debug__" : Str)) = false := by decide) (hcd : (n == ("__classdict__" : Str)) = false := by decide)
    (hb : attributeBase (.Name n p4) f X.env (eval (.Name n p4) X.env) = eval (.Name n p4) X.env := by rfl) :
    Clauses X (.ExceptHandler (some (.Name x p1)) (some n) [.Return (some (.Tuple [.Constant (.str w) k1 p3, .Attribute (.Name n p4) f p5] k2 p6)) p7] p2 :: hs) (rowsOf i ((w, f, C) :: l)) :=
  .more named at_ loc (fun a oe cls d pn hz hf => pss_one (ps_ret (pe_tup (pa_cons pe_str (pa_cons (pe_xf T no hz hf (pe_var at_ (.inl loc) hd hcd) hb) pa_nil))))) rest
/-- the wish, free of slots -/
def hE (K : PySem.W.Frag) (Q : VK) : List Row → XK
  | [] => fun _ _ _ => False
  | (w, f, C) :: more => fun cls d H => ∃ b, PySem.W.exmOne K cls (.ref C) = some b ∧
      (b = true → cls = .ref C ∧ ∃ (dd : Addr) (fs : List (Str × V)) (v : V), d = some dd ∧ H dd = some (.xd fs) ∧ fs.lookup f = some v ∧ ∀ p, H p = none → Q (.ref p) (upd H p (.tup [.str w, v]))) ∧
      (b = false → hE K Q more cls d H)
theorem hE_wish {K : PySem.W.Frag} {Q : VK} {nn i : Nat} {D : Ends} (hi : i < nn) (hD : D.rt = Q) : ∀ {l : List Row} {cls : Value} {d : Option Addr} {σ : L2.St} {H : Hp}, hE K Q l cls d H → wish K nn (fun _ _ _ _ => False) D (rowsOf i l) cls d σ H
  | [], _, _, _, _, h => h
  | (w, f, C) :: more, cls, d, σ, H, h => by
    obtain ⟨b, e, yes, no⟩ := h
    refine ⟨b, e, fun hb hl a _ => ?_, fun hb => hE_wish hi hD (no hb)⟩
    obtain ⟨ec, dd, fs, v, ed, eH, ef, q⟩ := yes hb
    have at_ : (σ.set i (some (.ref a)))[i]? = some (some (V.ref a)) := by
      rw [List.getElem?_set_self (by omega)]
    refine ⟨.ref a, at_, rfl, ec, dd, fs, v, ed, eH, ef, (by show 2 ≤ sizeLine; decide), ?_⟩
    show ∀ p, H p = none → D.rt (.ref p) (upd H p (.tup [.str w, v]))
    rw [hD]
    exact q
/-- what such a def makes of the lambda's reading -/
def TTh (K : PySem.W.Frag) (l : List Row) : (XK → Hp → VK → Prop) → Hp → VK → Prop := fun tl H Q =>
  tl (hE K Q l) H (fun v H' => ∀ p, H' p = none → Q (.ref p) (upd H' p (.lst [v])))
theorem heard_gives {X : Cx} {Ng : List Str} {x a q : Str} {sg : Scope} {g : Addr} {cdg : Value} {i : Nat} {l : List Row} {h0 : ExceptHandler} {hs : List ExceptHandler} {p1 p2 p3 p4 p5 : Pos} (hN : Ng.Nodup) (hi : i < Ng.length)
    (cl : ∀ (s : Shared) (H : Hp), Clauses (cxOf C8.CX0 X.prog X.w X.K X.mg X.base Ng x sg g cdg X.A X.stack s H C8.E0).nox (h0 :: hs) (rowsOf i l))
    (h0' : ∀ f : Addr, (L2.start Ng [V.ref f])[0]? = some (some (V.ref f))) :
    GivesTo X Ng x sg g cdg [.Try [.Return (some (.List [.Call (.Name a p1) [] [] p2] p3)) p4] (h0 :: hs) [] [] p5] a q (TTh X.K l) := by
  intro f c' s H Q tl act hc h
  refine ⟨_, pss_one (try_as (X := (cxOf C8.CX0 X.prog X.w X.K X.mg X.base Ng x sg g cdg X.A X.stack s H C8.E0).nox)
      (tb := fun W D σ H => ∃ Ech : XK, (∀ cls d σ' H', Ech cls d H' → W cls d σ' H') ∧ σ[0]? = some (some (.ref f)) ∧ H c' = some (CodeO c' q) ∧ tl Ech H (fun v H' => ∀ p, H' p = none → D.rt (.ref p) (upd H' p (.lst [v]))))
      rfl rfl hN LamX.takes0 (fun W pn xe tk _ => ?_) (cl s H)), ?_⟩
  · constructor
    intro pins s' σ H' D I ⟨Ech, hW, k1, k2, k3⟩
    have hp := act W pn xe Ech p1 p2 tk hW
    have whole := pss_one (ps_ret (pos := p4) (pe_lst (pos := p3) (pa_cons hp pa_nil)))
    exact whole.run pins s' σ H' D I ⟨k1, k2, by
      refine Eq.mp ?_ k3
      congr 1
      funext v H1
      refine propext ⟨fun z => ⟨(by show 1 ≤ sizeLine; decide), z⟩, fun z => z.2⟩⟩
  · exact ⟨hE X.K Q l, fun cls d σ' H' z => hE_wish (D := { nx := fun _ H' => Q .non H', rt := Q }) hi rfl z, h0' f, hc, h⟩
end Hd


set_option Elab.async false
set_option linter.all false
set_option maxRecDepth 100000
set_option maxHeartbeats 400000
namespace Sh
open PySem
/-- data whose text may be made -/
structure Ok (d : PyData) : Prop where
  s : d.showable = true
  n : d.hasDict = false
  dep : d.depth ≤ 60
  l : d.shown.length ≤ sizeLine
theorem of {d : PyData} (h1 : d.showable = true) (h2 : d.hasDict = false) (h3 : d.depth ≤ 60) (h4 : d.leavesShort 2600 = true) (h5 : d.weight ≤ 6000) : Ok d := by
  refine ⟨h1, h2, h3, ?_⟩
  have := PyData.shown_le 2600 (by decide) d h4
  have e : sizeLine = 16777216 := sizeLine_eq
  have : (2600 + 2) * d.weight ≤ 2602 * 6000 := Nat.mul_le_mul (Nat.le_refl _) h5
  omega
theorem int_short {i : Int} (h : i.natAbs < 2 ^ 2500) : (PyData.shown (.int i)).length ≤ 2600 := by
  have l : i.natAbs.log2 < 2500 := PySem.Flt.log2_lt_of (by decide) h
  have := int_text_length_le (a := i) (k := 2500) (by decide) l
  have e : (PyData.shown (.int i)).length = (toString i).length := by
    show (Str.ofString (toString i)).length = _
    exact ofString_length _
  omega
end Sh


set_option Elab.async false
set_option linter.all false
set_option maxRecDepth 100000
set_option maxHeartbeats 400000
namespace Rs
open PySem L2 Bs Fq LamX
/-! ### polynomials -/
inductive FrAll (K : PySem.W.Frag) (H : Hp) : List V → List F → Prop
  | nil : FrAll K H [] []
  | cons {v : V} {vs : List V} {q : F} {qs : List F} : Fr K H v q → FrAll K H vs qs → FrAll K H (v :: vs) (q :: qs)
theorem FrAll.mono {K : PySem.W.Frag} {H H' : Hp} (e : Same H H') : ∀ {vs : List V} {qs : List F}, FrAll K H vs qs → FrAll K H' vs qs
  | _, _, .nil => .nil
  | _, _, .cons a b => .cons (a.mono e) (FrAll.mono e b)
theorem FrAll.len {K : PySem.W.Frag} {H : Hp} : ∀ {vs : List V} {qs : List F}, FrAll K H vs qs → vs.length = qs.length
  | _, _, .nil => rfl
  | _, _, .cons _ b => congrArg (· + 1) (FrAll.len b)
theorem FrAll.get {K : PySem.W.Frag} {H : Hp} : ∀ {vs : List V} {qs : List F} {i : Nat}, FrAll K H vs qs → i < qs.length → ∃ v q, vs[i]? = some v ∧ qs[i]? = some q ∧ Fr K H v q
  | _, _, 0, .cons a _, _ => ⟨_, _, rfl, rfl, a⟩
  | _, _, i + 1, .cons _ b, h => by
    obtain ⟨v, q, h1, h2, h3⟩ := FrAll.get (i := i) b (by simp only [List.length_cons] at h; omega)
    exact ⟨v, q, h1, h2, h3⟩
  | _, _, _, .nil, h => absurd h (by simp)
/-- a tuple of fractions -/
def Po (K : PySem.W.Frag) (H : Hp) (v : V) (qs : List F) : Prop := ∃ a xs, v = .ref a ∧ SqT K H a xs ∧ FrAll K H xs qs
def spAt (K : PySem.W.Frag) : Sp := fun vs H Q _ => ∃ (v : V) (qs : List F) (k : Nat), vs = [v, .int k] ∧ Po K H v qs ∧ ∀ u, Fr K H u (co qs k) → Q u H
section
variable {P : Program} {w : World} {K : PySem.W.Frag} {mg : Str → Option Value} {base : Heap} {f : Addr} {fd : FuncData}
end
end Rs


set_option Elab.async false
set_option linter.all false
set_option maxRecDepth 100000
set_option maxHeartbeats 400000
namespace Rs
open PySem L2 Bs Fq LamX
theorem FrAll.take {K : PySem.W.Frag} {H : Hp} : ∀ {vs : List V} {qs : List F} (n : Nat), FrAll K H vs qs → FrAll K H (vs.take n) (qs.take n)
  | _, _, 0, _ => .nil
  | _, _, n + 1, .nil => .nil
  | _, _, n + 1, .cons a b => .cons a (FrAll.take n b)
theorem eqv_nought {q : F} : PyData.eqv (dF q) (dF (0, 1)) = decide (q = (0, 1)) := by
  obtain ⟨a, b⟩ := q
  have e : PyData.eqv (dF (a, b)) (dF (0, 1)) = (decide (a = 0) && decide (b = 1)) := by
    simp only [dF, PyData.eqv, PyData.eqvAll, Bool.and_true]
    rfl
  rw [e]
  simp [Prod.ext_iff]
def spTrim (K : PySem.W.Frag) : Sp := fun vs H Q _ => ∃ (a : Addr) (xs : List V) (qs : List F), vs = [.ref a] ∧ (SqL K H a xs ∨ SqT K H a xs) ∧ FrAll K H xs qs ∧ xs.length ≤ 1000 ∧
  ∀ H' p ys, Same H H' → SqT K H' p ys → FrAll K H' ys (trim qs) → Q (.ref p) H'
section
variable {P : Program} {w : World} {K : PySem.W.Frag} {mg : Str → Option Value} {base : Heap} {f : Addr} {fd : FuncData}
end
end Rs


set_option Elab.async false
set_option linter.all false
set_option maxRecDepth 100000
set_option maxHeartbeats 400000
namespace Rs
open PySem L2 Bs Fq LamX
theorem Fr.off {K : PySem.W.Frag} {H : Hp} {v : V} {q : F} {D : Addr} {acc : List V} {o : HO} (h : Fr K H v q) (hD : H D = some (.lst acc)) : Fr K (upd H D o) v q := by
  obtain ⟨a, rfl, s⟩ := h
  refine ⟨a, rfl, ?_⟩
  rcases s with (s | ⟨o', s⟩) | s
  · exact .inl (.inl ((upd_ne (ne_of s hD (by intro z; cases z))).trans s))
  · exact .inl (.inr ⟨o', (upd_ne (ne_of s hD (by intro z; cases z))).trans s⟩)
  · exact .inr s
theorem FrAll.off {K : PySem.W.Frag} {H : Hp} {D : Addr} {acc : List V} {o : HO} (hD : H D = some (.lst acc)) : ∀ {vs : List V} {qs : List F}, FrAll K H vs qs → FrAll K (upd H D o) vs qs
  | _, _, .nil => .nil
  | _, _, .cons a b => .cons (a.off hD) (FrAll.off hD b)
theorem FrAll.snoc {K : PySem.W.Frag} {H : Hp} : ∀ {vs : List V} {qs : List F} {v : V} {q : F}, FrAll K H vs qs → Fr K H v q → FrAll K H (vs ++ [v]) (qs ++ [q])
  | _, _, _, _, .nil, h => .cons h .nil
  | _, _, _, _, .cons a b, h => .cons a (FrAll.snoc b h)
theorem Po.mono {K : PySem.W.Frag} {H H' : Hp} {v : V} {qs : List F} (e : Same H H') (h : Po K H v qs) : Po K H' v qs := by
  obtain ⟨a, xs, rfl, s, f⟩ := h
  exact ⟨a, xs, rfl, Bs.Same.t e s, f.mono e⟩
theorem co_dm {qs : List F} (h : ∀ q ∈ qs, Dm q) (k : Nat) : Dm (co qs k) := by
  unfold co
  rw [List.getD_eq_getElem?_getD]
  cases e : qs[k]? with
  | none => exact ⟨Lt2.mono (m := 1) (by show (0 : Int).natAbs < 2; decide) (by decide), by decide, by decide⟩
  | some q => exact h q (List.mem_of_getElem? e)
def spPoly2 (K : PySem.W.Frag) (op : F → F → F) : Sp := fun vs H Q _ => ∃ (x y : V) (qs rs : List F), vs = [x, y] ∧ Po K H x qs ∧ Po K H y rs ∧ (∀ q ∈ qs, Dm q) ∧ (∀ r ∈ rs, Dm r) ∧ qs.length ≤ 500 ∧ rs.length ≤ 500 ∧
  ∀ H' p, Same H H' → Po K H' (.ref p) (trim (byPower op qs rs (max qs.length rs.length))) → Q (.ref p) H'
section
variable {P : Program} {w : World} {K : PySem.W.Frag} {mg : Str → Option Value} {base : Heap} {f : Addr} {fd : FuncData}
end
end Rs


set_option Elab.async false
set_option linter.all false
set_option maxRecDepth 100000
set_option maxHeartbeats 1000000
/-! for i, x in enumerate(a tuple) -/
namespace EnT
open PySem PySem.Spec PyProof.Rows L2
theorem meets_new {v : Value} {o : Obj} {H : Heap → Prop} (B : Begins v o H) :
    Meets (Builtin.«enumerate.__new__» ⟨[.type "enumerate", v], []⟩) (fun _ R s => H s.heap ∧
      R (.ok (.ret (.ref (s.heap.push o).objs.size))) { s with heap := (s.heap.push o).push { cls := .type "enumerate", data := .fields #[.none, .bool false, .ref s.heap.objs.size, rawInt 0, .none, .none] } }) :=
  .of_wp fun prog w A R s h => by
    obtain ⟨hp, g, d, tk, os⟩ := s; obtain ⟨h1, h⟩ := h
    have hsub := sub_enumerate
    have q1 : ∀ {A' : Around} {E : Value → Shared → Prop} {Q : Value → Shared → Prop}, Q (.ref hp.objs.size) ⟨hp.push o, g, d, tk, os⟩ → wpAny (model prog w) A' (pyIter v) Q E ⟨hp, g, d, tk, os⟩ :=
      fun q => B.iter prog w _ _ ⟨hp, g, d, tk, os⟩ _ h1 q
    wp_walk using q1
    refine wpAny_stack_any fun st => wpAny_pure ?_
    split
    · rename_i c _ _ _ _ _
      cases (c == Value.type "enumerate")
      · wp_walk using q1
        exact ⟨_, rfl, h⟩
      · wp_walk using q1
        exact ⟨_, rfl, h⟩
    · wp_walk using q1
      exact ⟨_, rfl, h⟩
theorem call_enum {prog : Program} {w : World} {A : Around} {E : Value → Shared → Prop} {s : Shared} {v : Value} {o : Obj} {H : Heap → Prop} {Q : Value → Shared → Prop} (B : Begins v o H) (h1 : H s.heap)
    (h : ∀ h', IsEnum h' (s.heap.objs.size + 1) s.heap.objs.size 0 .none → h'.get? s.heap.objs.size = some o → h'.objs.size = s.heap.objs.size + 2 →
      (∀ b o, s.heap.get? b = some o → h'.get? b = some o) → Q (.ref (s.heap.objs.size + 1)) { s with heap := h' }) :
    wpAny (model prog w) A (call (.type "enumerate") [v]) Q E s := by
  refine callType_new F.called_enumerate (by decide) (F.typeCall_enumerate_1 _) (F.newCall_enumerate_1 _) (fun obj => F.args_object_init_2 obj _) F.entry_enumerate_new
    (meets_new B) ⟨h1, ?_⟩
  have hz : (s.heap.push o).objs.size = s.heap.objs.size + 1 := Heap.size_push ..
  show _ ∧ _
  rw [hz]
  have he : IsEnum ((s.heap.push o).push { cls := .type "enumerate", data := .fields #[.none, .bool false, .ref s.heap.objs.size, rawInt 0, .none, .none] }) (s.heap.objs.size + 1) s.heap.objs.size 0 .none := by
    have := Heap.get?_push_size (s.heap.push o) (o := { cls := .type "enumerate", data := .fields #[.none, .bool false, .ref s.heap.objs.size, rawInt 0, .none, .none] }) rfl
    rw [hz] at this; exact this
  refine ⟨⟨_, he, rfl⟩, h _ he (Heap.get?_push_of_some _ (Heap.get?_push_size _ B.free)) (by rw [Heap.size_push, hz]) fun b o x => Heap.get?_push_of_some _ (Heap.get?_push_of_some _ x)⟩
/-- the turns -/
def IteT (K : PySem.W.Frag) (a : Addr) : It :=
  ⟨fun i H => ∃ (xs : List V) (x : V), SqT K H a xs ∧ xs[i]? = some x, fun i H v H' => ∃ T x, v = .ref T ∧ H T = none ∧ H' = upd H T (.tup [.int (i : Nat), x]) ∧ ∀ xs, SqT K H a xs → xs[i]? = some x, fun i H => ∃ xs : List V, SqT K H a xs ∧ xs.length ≤ i⟩
theorem turn_enumT {P : Program} {w : World} {K : PySem.W.Frag} {elts : List Expr} {kk : Nat} {tpos : Pos} (a e it : Addr) (n : Nat) :
    Turn P w K (.Tuple elts kk tpos) (IteT K a) [e, it] e (fun i h => (∃ old, IsEnum h e it ((i : Nat) : Int) old) ∧ h.IsTupleIter it a i ∧ e ≠ it ∧ a ≠ it ∧ a ≠ e) where
  mem := by simp
  obj := fun i h st b hb => by
    obtain ⟨⟨old, he⟩, ⟨o, ho, hc, hd⟩, _⟩ := st
    have e' : b = e ∨ b = it := by simpa using hb
    rcases e' with z | z
    · rw [z]; exact ⟨_, he, fun v q => nomatch q⟩
    · rw [z]; exact ⟨o, ho, fun v q => by rw [hd] at q; cases q⟩
  keep := fun i h h' st k => let ⟨⟨old, he⟩, hi, hne⟩ := st; ⟨⟨old, k e (by simp) _ he⟩, hi.at fun o q => k it (by simp) o q, hne⟩
  item := by
    intro X hP hw hK hc i pins s σ H E I hf st hg
    subst hP hw hK
    obtain ⟨⟨old, he⟩, hit, hne, hai, hae⟩ := st
    obtain ⟨xs, x, hq, hx⟩ := hg
    obtain ⟨its, rv, p, hz⟩ := I.tuple hq
    obtain ⟨u, hu, ru⟩ := rv.get hx
    have hel : e < s.heap.objs.size := Heap.lt_size he
    have hil : it < s.heap.objs.size := by obtain ⟨_, q, _⟩ := hit; exact Heap.lt_size q
    have hlt : i < its.toArray.size := by
      obtain ⟨hlt, _⟩ := List.getElem?_eq_some_iff.mp hu
      simpa using hlt
    have p' : s.heap.IsTuple a its.toArray := p
    refine wpAny_pyNext_enum_itemD (Draws.tuple (A := X.A.in1) (I.ok.hd hc) it a hai its.toArray) he ⟨hit, p'⟩ hlt hne (by simp [hne, Ne.symm hae]) fun x' h' tk hP ho hit' hT hsz hk => ?_
    have ex : x' = u := by
      have : its[i]? = some x' := by simpa using hP
      rw [hu] at this
      exact (Option.some.inj this).symm
    subst ex
    refine ⟨_, rfl, wpAny_letOwnedTupleGo_enum (s := { s with heap := h', toks := tk + 1 }) ho fun h'' he' sb => ?_⟩
    have hT2 : h''.get? s.heap.objs.size = some { cls := .type "tuple", data := .seq #[.int i tk, x'] } := (sb.2 _ (Nat.ne_of_gt hel)).trans hT
    have new : ObjOk X.prog X.w (upd H s.heap.objs.size (.tup [.int (i : Nat), x])) h'' s.heap.objs.size (.tup [.int (i : Nat), x]) :=
      ⟨by show 2 ≤ sizeLine; decide, [.int i tk, x'], .cons ⟨_, rfl⟩ (.cons ru .nil), ⟨_, hT2, rfl, _, rfl⟩⟩
    have I1 : Inv X pins σ (upd H s.heap.objs.size (.tup [.int (i : Nat), x])) { s with heap := h'', toks := tk + 1 } :=
      I.turnedNew (ch := [e, it]) (fun b ob hb q => (sb.2 b (fun z => hb (by simp [z]))).trans (hk b ob (fun z => hb (by simp [z])) (fun z => hb (by simp [z])) q)) hf (Nat.le_refl _) new
    refine ⟨.ref s.heap.objs.size, _, I1, rfl, ⟨_, x, rfl, I.hok.fresh (Nat.le_refl _), rfl, fun ys hy => by rw [I.tuple_inj hy hq]; exact hx⟩, ⟨⟨x', ?_⟩, hit'.1.at fun o q => (sb.2 it (Ne.symm hne)).trans q, hne, hai, hae⟩, fun b hb => ?_⟩
    · have e1 : ((i + 1 : Nat) : Int) = (i : Int) + 1 := by omega
      rw [e1]; exact he'
    · have hb' : b < s.heap.objs.size := by
        have e' : b = e ∨ b = it := by simpa using hb
        rcases e' with z | z
        · rw [z]; exact hel
        · rw [z]; exact hil
      rw [upd_ne (Nat.ne_of_lt hb')]
      exact (hf b hb).1
  done := by
    intro X hP hw hK hc i pins s σ H E I hf st hg
    subst hP hw hK
    obtain ⟨⟨old, he⟩, hit, hne, hai, hae⟩ := st
    obtain ⟨xs, hq, hx⟩ := hg
    obtain ⟨its, rv, p, hz⟩ := I.tuple hq
    obtain ⟨f0, f1, f2, f3, f4, f5⟩ := hf it (by simp)
    have hl := rv.length
    have hT : s.TypeIs (.ref e) "enumerate" := ⟨_, he, rfl⟩
    unfold pyNext
    refine wpAny_bind (wpAny_attempt (wpAny_callSpecial?_slot (name := Str.ofString "__next__") hT F.slot_enumerate_next
      (wpAny_call_entry F.slot_enumerate_next hT F.entry_enumerate_next ?_ (F.args_enumerate_next_1 _))))
    show wpAny _ _ (field (.ref e) 2 >>= _) _ _ _
    refine wpAny_bind (wpAny_field he rfl (x := .ref it) rfl ?_)
    refine wpAny_bind (wpAny_nextOf_tuple_end (A := X.A.in1) (I.ok.hd hc) hit (show s.heap.IsTuple a its.toArray from p) (by simp; omega) fun h' e' eb hx' => ?_)
    obtain ⟨o, ho, hcl⟩ := hx'
    refine wpAny_bind (wpAny_isInstance (T := "StopIteration") (b := true) ⟨o, ho, hcl⟩ isSubtype_stop ?_)
    exact wpAny_pure ⟨rfl, I.turned (t' := s.toks) (fun b o hb q => eb b o hb q) f0 f1 f3 f4 f5⟩
  self := fun A i s Q E st h => let ⟨⟨_, he⟩, _⟩ := st; wpAny_pyIter_enum he h
def iEnumT (K : PySem.W.Frag) (ta : TA) : TI := fun σ H R => ta σ H fun vs H1 => ∃ a xs, vs = [.ref a] ∧ SqT K H1 a xs ∧ R (IteT K a) H1
theorem pi_enumT {X : Cx} {e : Expr} {ta : TA} {p pos tpos : Pos} {elts : List Expr} {kk : Nat} (hg : Gl X "enumerate") (hm : X.mg "enumerate" = none) (ha : PA X [e] ta) (hs : starEach [e] X.env = [(false, eval e X.env)] := by rfl) :
    PI X (.Tuple elts kk tpos) (.Call (.Name "enumerate" p) [e] [] pos) (iEnumT X.K ta) := by
  refine ⟨fun pins s σ H R I h => ?_⟩
  refine Call_ (ld_blt I hg hm boot_enumerate (PyProof.Rows.callWith_type1 (thn (ha.run pos pins s σ H _ I h) fun us s1 ⟨vs, H1, I1, r1, q1⟩ => ?_) hs rfl))
  obtain ⟨a, xs, ex, hq, q⟩ := q1
  subst ex
  cases r1 with
  | cons r rr =>
    cases rr
    cases r
    obtain ⟨its, rv, p', hz⟩ := I1.tuple hq
    have pt : s1.heap.IsTuple a its.toArray := p'
    have hal : a < s1.heap.objs.size := by
      obtain ⟨o, z, _⟩ := id pt
      exact Heap.lt_size z
    refine call_enum (begins_tuple a its.toArray) pt fun h' he hit hsz hk => wpAny_pyIter_enum he ?_
    have I2 : Inv X pins σ H1 { s1 with heap := h' } := I1.kept (t' := s1.toks) hk
    refine ⟨s1.heap.objs.size + 1, [s1.heap.objs.size + 1, s1.heap.objs.size], _, _, H1, rfl, I2, turn_enumT a (s1.heap.objs.size + 1) s1.heap.objs.size 0, ⟨⟨.none, he⟩, ⟨_, hit, rfl, rfl⟩, Nat.succ_ne_self _, Nat.ne_of_lt hal, Nat.ne_of_lt (Nat.lt_succ_of_lt hal)⟩, fun b hb => ?_, q⟩
    have e' : b = s1.heap.objs.size + 1 ∨ b = s1.heap.objs.size := by simpa using hb
    have hle : s1.heap.objs.size ≤ b := by
      rcases e' with z | z
      · rw [z]; exact Nat.le_add_right _ _
      · rw [z]; exact Nat.le_refl _
    exact I1.fpOk hle (I1.hok.fresh hle)
end EnT


set_option Elab.async false
set_option linter.all false
set_option maxRecDepth 100000
set_option maxHeartbeats 400000
namespace Rs
open PySem L2 Bs Fq LamX
theorem FrAll.set {K : PySem.W.Frag} {H : Hp} : ∀ {vs : List V} {qs : List F} {v : V} {q : F} (i : Nat), FrAll K H vs qs → Fr K H v q → FrAll K H (vs.set i v) (qs.set i q)
  | _, _, _, _, _, .nil, h => .nil
  | _, _, _, _, 0, .cons a b, h => .cons h b
  | _, _, _, _, i + 1, .cons a b, h => .cons a (FrAll.set i b h)
theorem FrAll.rep {K : PySem.W.Frag} {H : Hp} {v : V} {q : F} (h : Fr K H v q) : ∀ n : Nat, FrAll K H (List.replicate n v) (List.replicate n q)
  | 0 => .nil
  | n + 1 => .cons h (FrAll.rep h n)
theorem S3.dm {q : F} (h : S3 q) : Dm q := ⟨Lt2.mono (m := 4) h.a (by decide), h.ok.1, by have := h.b; omega⟩
theorem Pb.dm {k : Nat} {q : F} (h : Pb k q) (hk : k ≤ 144) : Dm q := ⟨Lt2.mono (m := 20 + 8 * k) h.a (by omega), h.ok.1, by have := h.le; omega⟩
theorem mul_dm {p r : F} (hp : S3 p) (hr : S3 r) : Dm (mul p r) := by
  obtain ⟨o, d, l⟩ := mul_s3 hp hr
  exact ⟨Lt2.mono (m := 8) l (by decide), o.1, by have := Int.le_of_dvd (by decide) d; omega⟩
theorem walk_enumT {K : PySem.W.Frag} {a : Addr} {xs : List V} : Walk (EnT.IteT K a) xs.length (fun H => SqT K H a xs) (YPair (fun i => some (.int (i : Nat))) (fun i => xs[i]?)) := by
  refine ⟨fun i _ hi q => ⟨xs, xs[i], q, by simp [hi]⟩, fun _ q => ⟨xs, q, Nat.le_refl _⟩, fun i H v H' _ q y => ?_⟩
  obtain ⟨T, x, h1, h2, h3, h4⟩ := y
  exact ⟨T, .int (i : Nat), x, h1, h2, h3, rfl, h4 xs q⟩
def spPTimed (K : PySem.W.Frag) : Sp := fun vs H Q _ => ∃ (x y : V) (qs rs : List F), vs = [x, y] ∧ Po K H x qs ∧ Po K H y rs ∧ (∀ q ∈ qs, S3 q) ∧ (∀ r ∈ rs, S3 r) ∧ qs.length ≤ 12 ∧ rs.length ≤ 12 ∧
  ∀ H' p, Same H H' → Po K H' (.ref p) (trim (prodN (qs.length + rs.length) qs rs)) → Q (.ref p) H'
section
variable {P : Program} {w : World} {K : PySem.W.Frag} {mg : Str → Option Value} {base : Heap} {f : Addr} {fd : FuncData}
end
end Rs


set_option Elab.async false
set_option linter.all false
set_option maxRecDepth 100000
set_option maxHeartbeats 400000
namespace Rs
open PySem L2 Bs Fq LamX
/-! ### polynomials as data -/
def dP (qs : List F) : PyData := .tuple (qs.map dF)
def fracsD (n : Int) : PyData → Bool
  | .tuple ds => decide ((ds.length : Int) ≤ n) && ds.all fracD
  | _ => false
def lastNz (ds : List PyData) : Bool :=
  match ds.getLast? with
  | none => true
  | some d => !(PyData.eqv d (dF (0, 1)))
def polyD : PyData → Bool
  | .tuple ds => decide ((ds.length : Int) ≤ 12) && ds.all fracD && lastNz ds
  | _ => false
theorem FrAll.dp {K : PySem.W.Frag} {H : Hp} : ∀ {vs : List V} {qs : List F}, FrAll K H vs qs → DpAll K H vs (qs.map dF)
  | _, _, .nil => .nil
  | _, _, .cons a b => .cons a.dp (FrAll.dp b)
theorem Po.dp {K : PySem.W.Frag} {H : Hp} {v : V} {qs : List F} (h : Po K H v qs) : Dp K H v (dP qs) := by
  obtain ⟨a, xs, rfl, s, f⟩ := h
  exact .tup s f.dp
theorem dp_frAll {K : PySem.W.Frag} {H : Hp} : ∀ {vs : List V} {qs : List F}, DpAll K H vs (qs.map dF) → FrAll K H vs qs
  | _, [], h => by
    cases h
    exact .nil
  | _, q :: qs, h => by
    cases h with
    | cons h1 h2 => exact .cons (dp_fr h1) (dp_frAll h2)
theorem dp_po {K : PySem.W.Frag} {H : Hp} {v : V} {qs : List F} (h : Dp K H v (dP qs)) : Po K H v qs := by
  cases h with
  | tup s f => exact ⟨_, _, rfl, s, dp_frAll f⟩
theorem all_frac : ∀ {ds : List PyData}, ds.all fracD = true → ∃ qs : List F, ds = qs.map dF ∧ ∀ q ∈ qs, Fq.Ok q
  | [], _ => ⟨[], rfl, fun q h => by simp at h⟩
  | d :: ds, h => by
    rw [List.all_cons, Bool.and_eq_true] at h
    obtain ⟨q, rfl, o⟩ := fracD_true h.1
    obtain ⟨qs, rfl, os⟩ := all_frac h.2
    refine ⟨q :: qs, rfl, fun r hr => ?_⟩
    rcases List.mem_cons.mp hr with rfl | h
    · exact o
    · exact os r h
theorem all_frac_of : ∀ {qs : List F}, (∀ q ∈ qs, Fq.Ok q) → (qs.map dF).all fracD = true
  | [], _ => rfl
  | q :: qs, h => by
    rw [List.map_cons, List.all_cons, fracD_dF (h q List.mem_cons_self), Bool.true_and]
    exact all_frac_of fun r hr => h r (List.mem_cons_of_mem _ hr)
instance (qs : List F) : Decidable (Pn qs) := inferInstanceAs (Decidable (qs = [] ∨ co qs (qs.length - 1) ≠ (0, 1)))
theorem lastNz_map (qs : List F) : lastNz (qs.map dF) = decide (Pn qs) := by
  unfold lastNz
  rw [List.getLast?_map]
  cases e : qs.getLast? with
  | none =>
    have : qs = [] := List.getLast?_eq_none_iff.mp e
    exact (decide_eq_true (show Pn qs from Or.inl this)).symm
  | some q =>
    show (!(PyData.eqv (dF q) (dF (0, 1)))) = _
    rw [eqv_nought]
    have hn : qs ≠ [] := fun z => by rw [z] at e; cases e
    have ec : co qs (qs.length - 1) = q := by
      refine co_get ?_
      rw [← List.getLast?_eq_getElem?, e]
    by_cases c : q = (0, 1)
    · rw [decide_eq_true c]
      refine (decide_eq_false ?_).symm
      rintro (z | z)
      · exact hn z
      · exact z (ec.trans c)
    · rw [decide_eq_false c]
      exact (decide_eq_true (show Pn qs from .inr (fun z => c (ec.symm.trans z)))).symm
theorem polyD_true {d : PyData} (h : polyD d = true) : ∃ qs : List F, d = dP qs ∧ (∀ q ∈ qs, Fq.Ok q) ∧ qs.length ≤ 12 ∧ Pn qs := by
  unfold polyD at h
  split at h
  · rename_i ds
    rw [Bool.and_eq_true, Bool.and_eq_true] at h
    obtain ⟨⟨h1, h2⟩, h3⟩ := h
    obtain ⟨qs, rfl, o⟩ := all_frac h2
    rw [lastNz_map] at h3
    have := of_decide_eq_true h1
    rw [List.length_map] at this
    exact ⟨qs, rfl, o, by omega, of_decide_eq_true h3⟩
  · cases h
theorem polyD_of {qs : List F} (o : ∀ q ∈ qs, Fq.Ok q) (l : qs.length ≤ 12) (p : Pn qs) : polyD (dP qs) = true := by
  show (decide (((qs.map dF).length : Int) ≤ 12) && (qs.map dF).all fracD && lastNz (qs.map dF)) = true
  rw [all_frac_of o, lastNz_map, decide_eq_true p, List.length_map, decide_eq_true (by omega)]
  rfl
theorem fracsD_of {qs : List F} (o : ∀ q ∈ qs, Fq.Ok q) (l : qs.length ≤ 12) : fracsD 12 (dP qs) = true := by
  show (decide (((qs.map dF).length : Int) ≤ 12) && (qs.map dF).all fracD) = true
  rw [all_frac_of o, List.length_map, decide_eq_true (by omega)]
  rfl
theorem fracsD_true {n : Int} {d : PyData} (h : fracsD n d = true) : ∃ qs : List F, d = dP qs ∧ (∀ q ∈ qs, Fq.Ok q) ∧ (qs.length : Int) ≤ n := by
  unfold fracsD at h
  split at h
  · rename_i ds
    rw [Bool.and_eq_true] at h
    obtain ⟨h1, h2⟩ := h
    obtain ⟨qs, rfl, o⟩ := all_frac h2
    have := of_decide_eq_true h1
    rw [List.length_map] at this
    exact ⟨qs, rfl, o, this⟩
  · cases h
theorem polyD_eq (d : PyData) : polyD d = (fracsD 12 d && match d with | .tuple ds => lastNz ds | _ => false) := by
  cases d <;> rfl
theorem dF_inj {q r : F} (h : dF q = dF r) : q = r := by
  obtain ⟨a, b⟩ := q
  obtain ⟨c, d⟩ := r
  simp only [dF, PyData.tuple.injEq, List.cons.injEq, PyData.int.injEq, and_true] at h
  rw [h.1, h.2]
theorem map_dF_inj : ∀ {qs rs : List F}, qs.map dF = rs.map dF → qs = rs
  | [], [], _ => rfl
  | [], _ :: _, h => by cases h
  | _ :: _, [], h => by cases h
  | q :: qs, r :: rs, h => by
    rw [List.map_cons, List.map_cons, List.cons.injEq] at h
    rw [dF_inj h.1, map_dF_inj h.2]
theorem dP_inj {qs rs : List F} (h : dP qs = dP rs) : qs = rs := by
  simp only [dP, PyData.tuple.injEq] at h
  exact map_dF_inj h
abbrev sAreF : Stmt := top 22
def spAreF (K : PySem.W.Frag) : Sp := fun vs H Q _ => ∃ (v : V) (d : PyData) (n : Int), vs = [v, .int n] ∧ Dp K H v d ∧ n ≤ 12 ∧ ∀ H', Same H H' → Q (.bl (fracsD n d)) H'
theorem dpAll_at {K : PySem.W.Frag} {H : Hp} : ∀ {ds : List PyData} {xs : List V} {i : Nat} {x : V}, DpAll K H xs ds → xs[i]? = some x → ∃ d, ds[i]? = some d ∧ Dp K H x d
  | _, _, i, x, .nil, h => by simp at h
  | _, _, 0, x, .cons h1 h2, h => by
    simp only [List.getElem?_cons_zero, Option.some.injEq] at h
    rw [← h]
    exact ⟨_, rfl, h1⟩
  | _, _, i + 1, x, .cons h1 h2, h => by
    simp only [List.getElem?_cons_succ] at h
    obtain ⟨d, m, e⟩ := dpAll_at h2 h
    exact ⟨d, m, e⟩
/-- data kept where all is kept -/
theorem sqL_same {K : PySem.W.Frag} {H H' : Hp} (e : Same H H') {a : Addr} {xs : List V} (h : SqL K H a xs) : SqL K H' a xs := e.seq h
mutual
theorem dp_same' {K : PySem.W.Frag} {H H' : Hp} (e : Same H H') : ∀ (d : PyData) (v : V), Dp K H v d → Dp K H' v d
  | .none, _, h => by
    cases h
    exact .non
  | .bool b, _, h => by
    cases h
    exact .bl _
  | .int i, _, h => by
    cases h
    exact .int _
  | .str x, _, h => by
    cases h
    exact .str _
  | .list ds, _, h => by
    cases h with
    | lst hs ha => exact .lst (sqL_same e hs) (dpAll_same' e ds _ ha)
  | .tuple ds, _, h => by
    cases h with
    | tup hs ha => exact .tup (Bs.Same.t e hs) (dpAll_same' e ds _ ha)
  | .dict _, _, h => by cases h
theorem dpAll_same' {K : PySem.W.Frag} {H H' : Hp} (e : Same H H') : ∀ (ds : List PyData) (vs : List V), DpAll K H vs ds → DpAll K H' vs ds
  | [], _, h => by
    cases h
    exact .nil
  | d :: ds, _, h => by
    cases h with
    | cons h1 h2 => exact .cons (dp_same' e d _ h1) (dpAll_same' e ds _ h2)
end
theorem dps {K : PySem.W.Frag} {H H' : Hp} (e : Same H H') {d : PyData} {v : V} (h : Dp K H v d) : Dp K H' v d := dp_same' e d v h
section
variable {P : Program} {w : World} {K : PySem.W.Frag} {mg : Str → Option Value} {base : Heap} {f : Addr} {fd : FuncData}
theorem scAreF : FnScope ["thing", "most", "part"] ["thing", "most"] (defScope sAreF) := ⟨rfl, rfl, rfl, by decide +kernel, rfl, by decide +kernel, by decide +kernel⟩
theorem ok_areF (F : Fun K "are_fractions" "are_fractions" sAreF f fd) (T : Blt mg) (al : mg "all" = none) (W : Cal P w K mg base 2 "is_fraction" (spFraction K)) : FnOk P w K mg base CX0 3 f fd ["thing", "most"] (spAreF K) := by
  refine F.ok scAreF (fun vs H Q E h => ?_) (fun cdv A outer s H vs Q E hr h => ?_)
  · obtain ⟨v, d, n, rfl, _⟩ := h
    rfl
  · obtain ⟨v, d, n, rfl, hd, hn, kk⟩ := h
    refine ⟨_, pss_one (ps_ret (pe_and (pe_callB call_isi (by rfl) T.isinstance (by decide +kernel) (pa_cons (pv 0) (pa_cons (pe_bltn (v := .ty "tuple") (by rfl) T.tuple (by decide +kernel) rfl) pa_nil)))
      (pe_and (pe_cmpR op_le (pe_callB call_len_seq (by rfl) T.len (by decide +kernel) (pa_cons (pv 0) pa_nil)) (pv 1) (nomark _))
        (pe_one (pe_callB (cr_all rfl) (by rfl) al (by decide +kernel) (pa_cons (pe_lc (own := [("part", 2)]) (g := gName 2) (tt := tYes) rfl scAreF.nd (pi_tup (pv 0)) (blkOk_by (N := ["thing", "most", "part"]) (sc := defScope sAreF) (by decide +kernel))
          (fun _ _ _ _ _ => pg_name (i := 2) scAreF.nd rfl (Or.inl rfl)) (fun _ _ _ _ _ => pts_nil)
          (fun _ _ _ _ _ => pe_n W hr (by decide) (by rfl) (pa_cons (pv 2) pa_nil))) pa_nil)))))), ?_⟩
    refine ⟨v, rfl, v, _, _, _, _, rfl, .ty _, hd.ty, kitT K d, _, rfl, ?_⟩
    have no : fracsD n d = false → isTup d = false → Q (.bl false) H := fun e _ => by
      have := kk H (fun _ _ z => z)
      rwa [e] at this
    cases d with
    | tuple ds =>
      refine iteT ?_
      cases hd with
      | tup sq all =>
        rename_i a xs
        have l := dpAll_len all
        refine ⟨_, rfl, a, xs, rfl, Or.inr sq, _, rfl, _, _, rfl, rfl, _, rfl, ?_⟩
        have e : fracsD n (.tuple ds) = (decide ((xs.length : Int) ≤ n) && ds.all fracD) := by rw [l]; rfl
        refine ite2 (fun c => ?_) (fun c => ?_)
        · have cl : (xs.length : Int) ≤ n := of_decide_eq_true c
          rw [decide_eq_true cl, Bool.true_and] at e
          refine ⟨_, rfl, a, rfl, ⟨_, sq⟩, fun D hD => lc_tup (K := K) (a := a) (xs := xs) (fun i H2 => Same H H2 ∧ H2 D = some (.lst (((ds.take i).map fracD).map V.bl))) ⟨same_new hD, upd_same⟩ (fun i H2 _ z => Bs.Same.t z.1 sq) ?_ ?_⟩
          · rintro i x H2 hx ⟨s2, hD2⟩
            obtain ⟨d', hd', dd⟩ := dpAll_at all hx
            refine ⟨rfl, ?_⟩
            refine iteT (B := Same H H2 ∧ H2 D = some (.lst (((ds.take (i + 1)).map fracD).map V.bl))) ?_
            refine ⟨_, rfl, x, d', rfl, dps s2 dd, ?_⟩
            refine ⟨_, hD2, ?_, fun b o e => (upd_ne (ne_of_none e hD)).trans (s2 b o e), ?_⟩
            · rw [List.length_map, List.length_map, List.length_take]
              exact small1000 (by omega)
            · rw [upd_same, take_one hd', List.map_append, List.map_append]
              rfl
          · rintro H2 ⟨s2, hD2⟩
            rw [l, List.take_length] at hD2
            refine ⟨D, _, rfl, SqL.of hD2, ?_⟩
            have := kk H2 s2
            rw [e] at this
            rw [List.all_map]
            exact this
        · have := kk H (fun _ _ z => z)
          rw [e, Bool.eq_false_iff.mpr c, Bool.false_and] at this
          exact this
    | none => exact iteF (no rfl rfl)
    | bool b => exact iteF (no rfl rfl)
    | int i => exact iteF (no rfl rfl)
    | str x => exact iteF (no rfl rfl)
    | list xs => exact iteF (no rfl rfl)
    | dict xs => exact iteF (no rfl rfl)
end
end Rs


set_option Elab.async false
set_option linter.all false
set_option maxRecDepth 100000
set_option maxHeartbeats 4000000
/-! an own class of errors over a built-in one of any family, with an __init__ of its own -/
namespace OxF
open PySem PySem.W PySem.Calls PyProof.Rows PySem.HandSPX L2 Builtin Builtin.ObjectAttr
/-- what a family of built-in errors gives -/
structure Fam (B nw it : String) (tl : List Value) : Prop where
  base : ExcBaseFacts B nw it tl
  pass : ∀ self : Value, refuseLoop self "__setattr__" tl = pure ()
  obj : tl.contains (.type "object") = true
theorem famO : Fam "OverflowError" "OverflowError.__new__" "OverflowError.__init__" [.type "OverflowError", .type "ArithmeticError", .type "Exception", .type "BaseException", .type "object"] := ⟨F.excBase_OverflowError, fun self => by kernel_rfl, by decide +kernel⟩
structure OexF (K : W.Frag) (nw : String) (tl : List Value) (C : Addr) : Prop where
  cls : ∃ nm q N bs sn sub ab col dd k0 k1 k2 k3 k5, K.lookup C = some (excClassObj nm q C N bs tl true sn sub ab col dd k0 k1 k2 k3 k5 nw)
  sa : W.findIn K (.ref C) "__setattr__" = some (some (.builtin "object.__setattr__"))
  ex : W.subIn K (.ref C) (.type "BaseException") = some true
  ty : W.typeIn K (.ref C) = some (.type "type")
  kp : W.keepIn K (.ref C) = true
section
variable {prog : Program} {w : World} {A : Around} {B nw it : String} {tl : List Value} {K : W.Frag} {hp : Heap} {fl : Str} {tk : Tok} {y : Value} {a C : Addr} {fv : Array Value} {cd : ClassData} {g : Array GenState} {dr : Drawn} {t : Nat} {os : OsState} {R : Result → Shared → Prop}
/-- the first field of such an error -/
theorem first_field (fam : Fam B nw it tl) (inK : K.In hp) (at_ : hp.get? a = some { cls := .ref C, data := .fields fv }) (cl : W.clsIn K C = some cd) (mro : cd.mro = .ref C :: tl) (dct : cd.hasDict = true) (none_ : W.findIn K (.ref C) fl = some none)
    (wish : ∀ h2 tk2 dx, (∀ b o, b ≠ a → hp.get? b = some o → h2.get? b = some o) → hp.objs.size ≤ dx → dx ≠ a → h2.get? a = some { cls := .ref C, dict := some dx, data := .fields fv } → h2.Ns1 dx (fun z => if z = fl then some y else none) → R (.ok (.ret .none)) ⟨h2, g, dr, tk2, os⟩) :
    codeAny (model prog w) A (.call (.builtin "object.__setattr__") ⟨[.ref a, .str fl tk, y], []⟩) R ⟨hp, g, dr, t, os⟩ := by
  have inst : W.InstAt hp a { cls := .ref C, data := .fields fv } C none := ⟨at_, rfl, rfl, trivial⟩
  have far : a ≠ hp.objs.size := Nat.ne_of_lt (Heap.lt_size at_)
  have whole : W.Looks (model prog w) hp (mroOf (.ref C)) cd.mro := W.Looks.andThen (W.looks_clsIn inK cl) W.Looks.now
  have isObj : W.Looks (model prog w) hp (isInstance (.ref a) (.type "object")) true := inst.type.andThen (W.looks_mroIn inK (by
    unfold W.mroIn
    rw [cl, Option.bind_some, mro]
    simp only [List.isEmpty_cons, List.contains_cons, fam.obj]
    rfl))
  have so := F.store_object
  refine codeAny_call_builtin so.slot.plain so.entry (@W.check_slot (model prog w) _ _ ⟨hp, g, dr, t, os⟩ "object.__setattr__" "object" "__setattr__" (.ref a) [.str fl tk, y] [] _ so.kind so.split isObj (so.args _ _ _) ?_)
  have told : W.Looks (model prog w) hp (classData C) cd := W.looks_clsIn inK cl
  have noTaker : W.Looks (model prog w) hp (storeTaker? none) none := W.Looks.now
  rw [W.osa_eq]
  rw [refuse_eq]
  refine wpAny_bind (wpAny_bind (inst.type.at (wpAny_bind (whole.at ?_))))
  rw [mro, refuseLoop_ref, fam.pass]
  refine wpAny_pure (wpAny_bind (inst.type.at (wpAny_bind ((W.looks_findIn inK none_).at (wpAny_bind (noTaker.at ?_))))))
  show wpAny _ _ (storeInOwnDict (.ref a) (.ref C) (.str fl tk) fl y false) _ _ _
  obtain ⟨c1, c2, c3, c4, c5, c6, c7, c8, c9, c10, c11⟩ := cd
  dsimp only at dct
  subst dct
  unfold storeInOwnDict
  unfold ownDictForStores
  repeat (first
    | with_reducible refine store_in_new ?_ ?_
    | with_reducible refine wpAny_loadPart_at at_ ?_
    | with_reducible refine told.at ?_
    | wp_step)
  · refine ⟨_, #[], _, (Heap.get?_update_ne _ _ _ _ far.symm).trans (Heap.get?_push_at rfl rfl), rfl, ?_, fun _ => rfl⟩
    intro en he
    exact absurd he (by simp)
  · intro h2 tk2 ns2 same
    have at2 : (hp.push { cls := .type "dict", data := .dict #[] }).get? a = some { cls := .ref C, data := .fields fv } := Heap.get?_push_of_some _ at_
    refine wish h2 tk2 hp.objs.size (fun b o nb hb => ?_) (Nat.le_refl _) far.symm ((same.2 a far).trans (Heap.get?_update_self _ at2 rfl)) ns2
    have nb2 : b ≠ hp.objs.size := Nat.ne_of_lt (Heap.lt_size hb)
    exact ((same.2 b nb2).trans (Heap.get?_update_ne _ _ _ _ nb)).trans (Heap.get?_push_of_some _ hb)
end
section
variable {X : Cx} {pins : List (Addr × Obj)} {σ : L2.St} {H : Hp} {s : Shared} {a C : Addr} {f : Str} {y : V} {u : Value} {B nw it : String} {tl : List Value} {Q : Unit → Shared → Prop} {E : Value → Shared → Prop} {A : Around}
theorem set_first (fam : Fam B nw it tl) (T : OexF X.K nw tl C) (I : L2.Inv X pins σ H s) (e : H a = some (exo a C none)) (no : W.findIn X.K (.ref C) f = some none) (ry : RelV y u)
    (wish : ∀ dx s', H dx = none → dx ≠ a → L2.Inv X pins σ (upd (upd H dx (exd dx [(f, y)])) a (exo a C (some dx))) s' → Q () s') : wpAny (model X.prog X.w) A (setAttr (.ref a) f u) Q E s := by
  obtain ⟨nm, qn, N, bs, sn, sub, ab, col, dd, k0, k1, k2, k3, k5, hC⟩ := T.cls
  have cl : W.clsIn X.K C = some ⟨nm, bs, .ref C :: tl, N, qn, true, sn, sub, ab, col, false⟩ := by
    unfold W.clsIn
    rw [hC] <;> rfl
  obtain ⟨t1, there⟩ := exo_at I.hok e
  obtain ⟨hp, g, dr, t, os⟩ := s
  refine W.set_plain I.kIn (ox := { cls := .ref C, dict := none, data := .fields #[.ref t1, .none, .none, .none, .bool false, .none] }) (od := none) ⟨there, rfl, rfl, trivial⟩ T.sa ?_
  refine first_field fam I.kIn there cl rfl rfl no fun h2 tk2 dx kept big ne at2 ns2 => ?_
  have fr : H dx = none := I.hok.fresh big
  have isA : ∀ {b : Addr} {o : HO}, H b = some o → o ≠ exo a C none → b ≠ a := fun {b o} z n q => n (by
    rw [q, e] at z
    exact (Option.some.inj z).symm)
  have offA : ∀ {b : Addr}, H b = none → b ≠ a := fun {b} z q => by
    rw [q, e] at z
    cases z
  have offD : ∀ {b : Addr} {o : HO}, H b = some o → b ≠ dx := fun z => ne_of_none z fr
  have low : ∀ {b : Addr} {o : Obj}, hp.get? b = some o → b ≠ dx := fun z => Nat.ne_of_lt (Nat.lt_of_lt_of_le (Heap.lt_size z) big)
  have same : ∀ {b : Addr}, b ≠ a → b ≠ dx → upd (upd H dx (exd dx [(f, y)])) a (exo a C (some dx)) b = H b := fun n1 n2 => (upd_ne n1).trans (upd_ne n2)
  have U : Un X.fs [] H (upd (upd H dx (exd dx [(f, y)])) a (exo a C (some dx))) hp h2 := by
    constructor
    · exact fun b o z n _ _ => kept b o (offA n) z
    · exact fun b o z n _ _ => ⟨o.slots, kept b o (offA n) z⟩
    · exact fun b o z n _ => (same (offA n) (low z)).trans n
    · intro b o z _
      by_cases c : b = a
      · exact ⟨_, (congrArg h2.get? c).trans at2⟩
      · exact ⟨_, kept b o c z⟩
    · exact fun b xs z => (same (isA z (Ne.symm exo_tup)) (offD z)).trans z
    · exact fun b o v z => (same (isA z (Ne.symm exo_frz)) (offD z)).trans z
    · exact fun b ps z => ⟨#[], ((same (isA z (Ne.symm exo_tbl)) (offD z)).trans z).trans (by simp)⟩
  refine wish dx _ fr ne (I.un (t' := tk2) U fun b o z => ?_)
  by_cases c : b = a
  · subst c
    rw [upd_same] at z
    cases z
    exact exo_ok at2
  rw [upd_ne c] at z
  by_cases c2 : b = dx
  · subst c2
    rw [upd_same] at z
    cases z
    exact exd_ok ns2 (relO_put (fs := []) ry fun _ => True.intro)
  rw [upd_ne c2] at z
  refine (I.hok b o z).stay (fun c' v h1 h3 => kept c' v ?_ h3) (fun c' h1 => ?_) (fun c' xs h1 => ?_)
  · rcases h1 with rfl | h1
    · exact c
    · exact isA h1 (Ne.symm exo_own)
  · exact (same (isA h1 (Ne.symm exo_own)) (offD h1)).trans h1
  · exact (same (isA h1 (Ne.symm exo_tup)) (offD h1)).trans h1
/-- self.f = e, the first one -/
def tSetF (K : W.Frag) (nw : String) (tl : List Value) (f : Str) (to te : TE) : TS := fun D σ H => te σ H fun y H1 => to σ H1 fun x H2 => ∃ a C : Addr, x = .ref a ∧ OexF K nw tl C ∧ W.findIn K (.ref C) f = some none ∧
  H2 a = some (exo a C none) ∧ ∀ dx, H2 dx = none → dx ≠ a → D.nx σ (upd (upd H2 dx (exd dx [(f, y)])) a (exo a C (some dx)))
theorem ps_setF {o e : Expr} {to te : TE} {p' pos : Pos} (fam : Fam B nw it tl) (ho : PE X o to) (he : PE X e te) (hs : swapsWith e (some (.Attribute o f p')) pos.line X.env = pure false := by rfl) : PS X (.Assign [.Attribute o f p'] e pos) (tSetF X.K nw tl f to te) := by
  constructor
  intro pins s σ H D I h
  refine plainObj_wpAny_Assign_Attribute (thn (he.run pins s σ H _ I h) ?_) hs
  rintro v s1 ⟨y, H1, I1, ry, h1⟩
  refine thn (ho.run pins s1 σ H1 _ I1 h1) ?_
  rintro v2 s2 ⟨x, H2, I2, rx, a, C, rfl, T, no, at_, k⟩
  cases rx
  exact set_first fam T I2 at_ no ry fun dx s' n ne J => ⟨σ, _, J, k dx n ne⟩
/-- C(e, ..) of such a class -/
theorem pmkF {CX : CXT} {x : Str} {C fI : Addr} {k : Nat} {fd : FuncData} {ps : List Str} {sp : Sp} {e : Expr} {es : List Expr} {ta : TA} {p pos : Pos} (fam : Fam B nw it tl) (T : OexF X.K nw tl C) (hi : W.findIn X.K (.ref C) "__init__" = some (some (.ref fI))) (ti : W.typeIn X.K (.ref fI) = some (.type "function"))
    (F1 : FnOk X.prog X.w X.K X.mg X.base CX k fI fd ps sp) (hr : Room (k + 1) X.A) (bi : Binds X.K fd ps []) (hx : Passes CX X (fun _ _ _ => False)) (hg : Gl X x) (hm : X.mg x = some (.ref C)) (ha : PA X (e :: es) ta)
    (hdb : (x == ("__debug__" : Str)) = false := by decide) (he : starEach (e :: es) X.env = (false, eval e X.env) :: starEach es X.env := by rfl) (hpl : (backTo pos (starEach es X.env)).any (·.1) = false := by rfl) :
    PMk X (.Call (.Name x p) (e :: es) [] pos) (tMkO C sp [] ta) := by
  intro pins s σ H Q I h
  obtain ⟨nm, qn, N, bs, sn, sub, ab, col, dd, k0, k1, k2, k3, k5, hC⟩ := T.cls
  refine wpAny_Call_Name_kw (ld_glob I hg hm (W.callWith_K (h₀ := X.base) I.ok.mod.kin T.kp (thn (ha.run pos pins s σ H _ I h) ?_) he hpl) hdb)
  rintro us ⟨hp, g, dr, tk, os⟩ ⟨vs, H1, I1, rv, short, q1⟩
  refine ⟨I1.kIn, ?_⟩
  generalize hn : hp.objs.size + 1 = n
  have big : hp.objs.size ≤ n := by omega
  have wish := q1 n (I1.hok.fresh big)
  generalize hh : (hp.push (W.kdv_tup us)).push (excO C hp.objs.size) = h2
  have kept : ∀ b o, hp.get? b = some o → h2.get? b = some o := fun b o z => by
    rw [← hh]
    exact Heap.get?_push_of_some _ (Heap.get?_push_of_some _ z)
  have atn : h2.get? n = some (excO C hp.objs.size) := by
    rw [← hh, ← hn]
    heap_get
  have J : L2.Inv X pins σ (upd H1 n (exo n C none)) ⟨h2, g, dr, tk, os⟩ := I1.laid (t' := tk) kept big (exo_ok atn)
  have rv2 : Vals (V.ref n :: (vs ++ [])) (Value.ref n :: us) := by
    rw [List.append_nil]
    exact .cons rfl rv
  have len : (Value.ref n :: us).length = ps.length := rv2.length.symm.trans (F1.len _ _ _ _ wish)
  have lus : us.length ≤ sizeLine := by
    have := rv.length
    have := sizeLine_eq
    omega
  have b0 := bi ⟨h2, g, dr, tk, os⟩ (Value.ref n :: us) J.kIn (by rw [List.append_nil]; exact len)
  rw [List.append_nil] at b0
  show wpAny _ _ (call (.ref C) us) (MkP X pins σ Q) X.xe ⟨hp, g, dr, tk, os⟩
  refine wpAny_call (call_own fam.base (fun _ => rfl) (I1.kIn _ _ hC) (W.looks_findIn I1.kIn hi) (fun self => W.bind_fn I1.kIn self ti) lus ?_)
  rw [hh, hn]
  refine codeAny_mono (F1.run _ X.stack _ _ ⟨Value.ref n :: us, []⟩ (Value.ref n :: us) _ _ (fun _ _ _ => False) (hr.make C us []) (J.env0.make C us []) b0 rv2 wish) ?_
  rintro (er | fl) s' z
  · exact hx pins σ _ _ er s' J z
  · cases fl with
    | next => exact z.elim
    | brk => exact z.elim
    | cont => exact z.elim
    | ret w1 =>
      obtain ⟨v, H2, os2, bare2, un2, ok2, r2, rfl, d, fs, ea, ed, d1, q2⟩ := z
      obtain ⟨h3, g3, d3, t3, os3⟩ := s'
      refine ⟨r2, ?_⟩
      exact mk_end (raises_own T.ex T.ty) I1 big kept un2 ok2 os2 bare2 ea ed d1 q2
end
end OxF


set_option Elab.async false
set_option linter.all false
set_option maxRecDepth 100000
set_option maxHeartbeats 400000
namespace Rs
open PySem L2 Bs Fq LamX
/-! ### errors with a field of any name -/
structure ErrW (K : PySem.W.Frag) (mg : Str → Option Value) (x qual fld : Str) (st : Stmt) (C : Addr) : Prop where
  gC : mg x = some (.ref C)
  oex : OexC K C
  xf : XfC K C
  no : PySem.W.findIn K (.ref C) fld = some none
  ini : ∃ (fI : Addr) (fd : FuncData), PySem.W.findIn K (.ref C) "__init__" = some (some (.ref fI)) ∧ PySem.W.typeIn K (.ref fI) = some (.type "function") ∧ Fun K "__init__" qual st fI fd ∧ Binds K fd ["self", fld] []
/-- the family of TooMany -/
abbrev ovT : List Value := [.type "OverflowError", .type "ArithmeticError", .type "Exception", .type "BaseException", .type "object"]
abbrev OexO (K : PySem.W.Frag) (C : Addr) : Prop := OxF.OexF K "OverflowError.__new__" ovT C
structure ErrO (K : PySem.W.Frag) (mg : Str → Option Value) (x qual fld : Str) (st : Stmt) (C : Addr) : Prop where
  gC : mg x = some (.ref C)
  oex : OexO K C
  xf : XfC K C
  no : PySem.W.findIn K (.ref C) fld = some none
  ini : ∃ (fI : Addr) (fd : FuncData), PySem.W.findIn K (.ref C) "__init__" = some (some (.ref fI)) ∧ PySem.W.typeIn K (.ref fI) = some (.type "function") ∧ Fun K "__init__" qual st fI fd ∧ Binds K fd ["self", fld] []
def spInitW (K : PySem.W.Frag) (C : Addr) (fld : Str) : Sp := fun vs H Q _ => ∃ (a : Addr) (y : V), vs = [.ref a, y] ∧ H a = some (exo a C none) ∧
  ∀ dx, H dx = none → dx ≠ a → Q .non (upd (upd H dx (exd dx [(fld, y)])) a (exo a C (some dx)))
abbrev sIP : Stmt := inClass (top 14) 0
structure ErrOkW (P : Program) (w : World) (K : PySem.W.Frag) (mg : Str → Option Value) (base : Heap) (x fld : Str) (C : Addr) : Prop where
  gC : mg x = some (.ref C)
  oex : OexC K C
  ini : ∃ (fI : Addr) (fd : FuncData), PySem.W.findIn K (.ref C) "__init__" = some (some (.ref fI)) ∧ PySem.W.typeIn K (.ref fI) = some (.type "function") ∧ FnOk P w K mg base CX0 1 fI fd ["self", fld] (spInitW K C fld) ∧ Binds K fd ["self", fld] []
structure ErrOkO (P : Program) (w : World) (K : PySem.W.Frag) (mg : Str → Option Value) (base : Heap) (x fld : Str) (C : Addr) : Prop where
  gC : mg x = some (.ref C)
  oex : OexO K C
  ini : ∃ (fI : Addr) (fd : FuncData), PySem.W.findIn K (.ref C) "__init__" = some (some (.ref fI)) ∧ PySem.W.typeIn K (.ref fI) = some (.type "function") ∧ FnOk P w K mg base CX0 1 fI fd ["self", fld] (spInitW K C fld) ∧ Binds K fd ["self", fld] []
/-- the way out with an error of the class at C that carries v -/
def OutW (E : XK) (C : Addr) (fld : Str) (v : V) (H : Hp) : Prop := ∀ d : Addr, H d = none → E (.ref C) (some d) (upd H d (.xd [(fld, v)]))
def tRzW (C : Addr) (fld : Str) (W : WX) (te : TE) : TS := fun _ σ H => te σ H fun v H1 => ∀ d : Addr, H1 d = none → W (.ref C) (some d) σ (upd H1 d (.xd [(fld, v)]))
theorem ps_rzW {X : Cx} {x fld : Str} {C : Addr} {j : Nat} {e : Expr} {te : TE} {W : WX} {p pos pos2 : Pos} (hc : X.calm = true) (T : ErrOkW X.prog X.w X.K X.mg X.base x fld C) (hr : Room j X.A) (hj : 2 ≤ j) (tk : Takes X W) (he : PE X e te) (hg : Gl X x)
    (hdb : (x == ("__debug__" : Str)) = false := by decide) (hs : starEach (e :: []) X.env = (false, eval e X.env) :: starEach [] X.env := by rfl) (hpl : (backTo pos (starEach [] X.env)).any (·.1) = false := by rfl) :
    PS X (.Raise (some (.Call (.Name x p) [e] [] pos)) none pos2) (tRzW C fld W te) := by
  obtain ⟨fI, fd, iC, tI, F1, b⟩ := T.ini
  have h := ps_raise (pos := pos2) hc tk (pmk_oex (x := x) (p := p) (pos := pos) T.oex iC tI F1 (hr.mono hj) b .nil pass0 hg T.gC (pa_cons (pe_weak he) pa_nil hs) hdb hs hpl)
  constructor
  intro pins s σ H D I q
  refine h.run pins s σ H D I ?_
  refine ⟨_, q, fun v H1 z => ?_⟩
  refine ⟨(by show 1 ≤ 1000; decide), fun a ha => ⟨a, v, rfl, upd_same, fun dx n1 n2 => ⟨rfl, dx, [(fld, v)], upd_same, ?_, ?_, ?_⟩⟩⟩
  · rw [upd_ne n2]
    exact upd_same
  · rw [upd_ne n2] at n1
    exact n1
  · rw [upd_ne n2] at n1
    show W _ _ _ (upd (del _ a) dx _)
    rw [heap_end ha n2]
    exact z dx n1
theorem ps_rzO {X : Cx} {x fld : Str} {C : Addr} {j : Nat} {e : Expr} {te : TE} {W : WX} {p pos pos2 : Pos} (hc : X.calm = true) (T : ErrOkO X.prog X.w X.K X.mg X.base x fld C) (hr : Room j X.A) (hj : 2 ≤ j) (tk : Takes X W) (he : PE X e te) (hg : Gl X x)
    (hdb : (x == ("__debug__" : Str)) = false := by decide) (hs : starEach (e :: []) X.env = (false, eval e X.env) :: starEach [] X.env := by rfl) (hpl : (backTo pos (starEach [] X.env)).any (·.1) = false := by rfl) :
    PS X (.Raise (some (.Call (.Name x p) [e] [] pos)) none pos2) (tRzW C fld W te) := by
  obtain ⟨fI, fd, iC, tI, F1, b⟩ := T.ini
  have h := ps_raise (pos := pos2) hc tk (OxF.pmkF (x := x) (p := p) (pos := pos) OxF.famO T.oex iC tI F1 (hr.mono hj) b pass0 hg T.gC (pa_cons (pe_weak he) pa_nil hs) hdb hs hpl)
  constructor
  intro pins s σ H D I q
  refine h.run pins s σ H D I ?_
  refine ⟨_, q, fun v H1 z => ?_⟩
  refine ⟨(by show 1 ≤ 1000; decide), fun a ha => ⟨a, v, rfl, upd_same, fun dx n1 n2 => ⟨rfl, dx, [(fld, v)], upd_same, ?_, ?_, ?_⟩⟩⟩
  · rw [upd_ne n2]
    exact upd_same
  · rw [upd_ne n2] at n1
    exact n1
  · rw [upd_ne n2] at n1
    show W _ _ _ (upd (del _ a) dx _)
    rw [heap_end ha n2]
    exact z dx n1
section
variable {P : Program} {w : World} {K : PySem.W.Frag} {mg : Str → Option Value} {base : Heap} {f : Addr} {fd : FuncData}
theorem scIP : FnScope ["self", "given"] ["self", "given"] (defScope sIP) := ⟨rfl, rfl, rfl, by decide +kernel, rfl, by decide +kernel, by decide +kernel⟩
theorem ok_iP {C : Addr} {q : Str} (F : Fun K "__init__" q sIP f fd) (T : OexC K C) (no : PySem.W.findIn K (.ref C) "given" = some none) : FnOk P w K mg base CX0 1 f fd ["self", "given"] (spInitW K C "given") := by
  refine F.ok scIP (fun vs H Q E h => ?_) (fun cdv A outer s H vs Q E hr h => ?_)
  · obtain ⟨a, y, rfl, _⟩ := h
    rfl
  · obtain ⟨a, y, rfl, ha, k⟩ := h
    exact ⟨_, pss_one (ps_ost (pv 0) (pv 1)), _, rfl, _, rfl, a, C, rfl, T, no, .inl ⟨ha, fun dx n1 n2 => k dx n1 n2⟩⟩
theorem ErrW.okP {x q : Str} {C : Addr} (T : ErrW K mg x q "given" sIP C) : ErrOkW P w K mg base x "given" C := by
  obtain ⟨fI, fd, a, b, F, bi⟩ := T.ini
  exact ⟨T.gC, T.oex, fI, fd, a, b, ok_iP F T.oex T.no, bi⟩
end
abbrev sIsPoly : Stmt := top 26
structure MostOk (mg : Str → Option Value) : Prop where
  ex : ∃ t, mg "MOST" = some (.int 12 t)
def spIsPoly (K : PySem.W.Frag) : Sp := fun vs H Q _ => ∃ (v : V) (d : PyData), vs = [v] ∧ Dp K H v d ∧ ∀ H', Same H H' → Q (.bl (polyD d)) H'
def spNeedP (K : PySem.W.Frag) (C : Addr) : Sp := fun vs H Q E => ∃ (v : V) (d : PyData), vs = [v] ∧ Dp K H v d ∧ (polyD d = true → ∀ H', Same H H' → Q v H') ∧ (polyD d = false → ∀ H', Same H H' → OutW E C "given" v H')
def spPolyBy (K : PySem.W.Frag) (C : Addr) : Sp := fun vs H Q E => ∃ (v : V) (d : PyData), vs = [v] ∧ Dp K H v d ∧ (fracsD 12 d = false → ∀ H', Same H H' → OutW E C "given" v H') ∧
  (∀ qs, d = dP qs → fracsD 12 d = true → ∀ H' p, Same H H' → Po K H' (.ref p) (trim qs) → Q (.ref p) H')
/-- two polynomials wanted -/
def spP2 (K : PySem.W.Frag) (C : Addr) (R : List F → List F → Hp → VK → XK → Prop) : Sp := fun vs H Q E => ∃ (x y : V) (dx dy : PyData), vs = [x, y] ∧ Dp K H x dx ∧ Dp K H y dy ∧ (polyD dx = false → ∀ H', Same H H' → OutW E C "given" x H') ∧
  (polyD dx = true → polyD dy = false → ∀ H', Same H H' → OutW E C "given" y H') ∧ (∀ qs rs, dx = dP qs → dy = dP rs → polyD dx = true → polyD dy = true → R qs rs H Q E)
def rP2 (K : PySem.W.Frag) (op : F → F → F) : List F → List F → Hp → VK → XK → Prop := fun qs rs H Q _ => (∀ q ∈ qs, Dm q) ∧ (∀ r ∈ rs, Dm r) ∧
  ∀ H' p, Same H H' → Po K H' (.ref p) (trim (byPower op qs rs (max qs.length rs.length))) → Q (.ref p) H'
def rProd (K : PySem.W.Frag) (C : Addr) : List F → List F → Hp → VK → XK → Prop := fun qs rs H Q E => (∀ q ∈ qs, S3 q) ∧ (∀ r ∈ rs, S3 r) ∧
  ((trim (prodN (qs.length + rs.length) qs rs)).length ≤ 12 → ∀ H' p, Same H H' → Po K H' (.ref p) (trim (prodN (qs.length + rs.length) qs rs)) → Q (.ref p) H') ∧
  (12 < (trim (prodN (qs.length + rs.length) qs rs)).length → ∀ H', Same H H' → OutW E C "most" (.int 12) H')
def spWorth (K : PySem.W.Frag) (CP CF : Addr) : Sp := fun vs H Q E => ∃ (x m : V) (dx dm : PyData), vs = [x, m] ∧ Dp K H x dx ∧ Dp K H m dm ∧ (polyD dx = false → ∀ H', Same H H' → OutW E CP "given" x H') ∧
  (polyD dx = true → fracD dm = false → ∀ H', Same H H' → Out E CF m H') ∧ (∀ qs q, dx = dP qs → dm = dF q → polyD dx = true → fracD dm = true → S3 q ∧ (∀ q ∈ qs, S3 q) ∧ qs.length ≤ 6 ∧ ∀ H' p, Same H H' → Fr K H' (.ref p) (hor q qs) → Q (.ref p) H')
section
variable {P : Program} {w : World} {K : PySem.W.Frag} {mg : Str → Option Value} {base : Heap} {f : Addr} {fd : FuncData} {CP CF CFs CT : Addr}
theorem scIsPoly : FnScope ["thing"] ["thing"] (defScope sIsPoly) := ⟨rfl, rfl, rfl, by decide +kernel, rfl, by decide +kernel, by decide +kernel⟩
theorem ok_isPoly (F : Fun K "is_poly" "is_poly" sIsPoly f fd) (T : Blt mg) (Z : Nou K mg) (M : MostOk mg) (AF : Cal P w K mg base 3 "are_fractions" (spAreF K)) : FnOk P w K mg base CX0 4 f fd ["thing"] (spIsPoly K) := by
  refine F.ok scIsPoly (fun vs H Q E h => ?_) (fun cdv A outer s H vs Q E hr h => ?_)
  · obtain ⟨v, d, rfl, _⟩ := h
    rfl
  · obtain ⟨v, d, rfl, hd, kk⟩ := h
    obtain ⟨z, mz, sz⟩ := Z.ex
    obtain ⟨t, mt⟩ := M.ex
    refine ⟨_, pss_one (ps_ret (pe_and (pe_n AF hr (by decide) (by rfl) (pa_cons (pv 0) (pa_cons (pe_glob (v := .int 12) (by rfl) mt ⟨t, rfl⟩) pa_nil)))
      (pe_one (pe_or (pe_cmpR op_eq (pe_callB call_len_seq (by rfl) T.len (by decide +kernel) (pa_cons (pv 0) pa_nil)) pe_int (nomark _))
        (pe_one (pe_cmpR (op_neD hr.units) (pe_ix ix_tup (pv 0) (pe_un un_neg pe_int) (fun _ _ => rfl)) (pe_glob (v := .ref z) (by rfl) mz rfl) (nomark _))))))), ?_⟩
    refine ⟨v, rfl, v, d, 12, rfl, hd, by decide, fun H1 s1 => ⟨_, rfl, ?_⟩⟩
    have kk' := kk H1 s1
    rw [polyD_eq] at kk'
    cases e : fracsD 12 d with
    | false =>
      rw [e, Bool.false_and] at kk'
      exact iteF kk'
    | true =>
      rw [e, Bool.true_and] at kk'
      obtain ⟨qs, rfl, ok, lq⟩ := fracsD_true e
      obtain ⟨a, xs, rfl, sq, fx⟩ := (dp_po hd).mono s1
      have lx := fx.len
      have kk2 : Q (.bl (decide (Pn qs))) H1 := by
        rw [← lastNz_map]
        exact kk'
      refine iteT ⟨_, rfl, a, xs, rfl, Or.inr sq, rfl, _, rfl, ?_⟩
      refine ite2 (fun c => ?_) (fun c => ?_)
      · have l0 : qs = [] := by
          have : (xs.length : Int) = 0 := by simpa using c
          exact List.eq_nil_of_length_eq_zero (by omega)
        rw [decide_eq_true (show Pn qs from Or.inl l0)] at kk2
        exact kk2
      · have l0 : qs.length ≠ 0 := by
          intro z
          refine c ?_
          rw [lx, z]
          rfl
        obtain ⟨u, q, g1, g2, g3⟩ := fx.get (i := qs.length - 1) (by omega)
        have ha : atI xs (-1) = some u := by
          have e1 : ixN xs.length (-1) = some (qs.length - 1) := by
            unfold ixN
            rw [if_neg (by decide), if_pos (by omega)]
            exact congrArg some (by omega)
          unfold atI
          rw [e1]
          exact g1
        refine ⟨_, rfl, _, rfl, a, xs, _, u, rfl, rfl, sq, ha, dF q, dF (0, 1), g3.dp, .tup (sz H1) (.cons (.int 0) (.cons (.int 1) .nil)), rfl, rfl, ?_⟩
        have e2 : (!(PyData.eqv (dF q) (dF (0, 1)))) = decide (Pn qs) := by
          rw [eqv_nought]
          have ec := co_get g2
          by_cases z : q = (0, 1)
          · rw [decide_eq_true z]
            refine (decide_eq_false ?_).symm
            rintro (y | y)
            · rw [y] at l0
              exact l0 rfl
            · exact y (ec.trans z)
          · rw [decide_eq_false z]
            exact (decide_eq_true (show Pn qs from .inr (fun y => z (ec.symm.trans y)))).symm
        rw [e2]
        exact kk2
end
end Rs


set_option Elab.async false
set_option linter.all false
set_option maxRecDepth 100000
set_option maxHeartbeats 400000
namespace Rs
open PySem L2 Bs Fq LamX
theorem Dm.dl {q : F} (h : Dm q) : Dl q := ⟨h.big.mono (by decide), h.pos, h.l2.mono (by decide)⟩
theorem can_dFs : ∀ qs : List F, PyData.canLayAll0 (qs.map dF) = true
  | [] => by simp [PyData.canLayAll0]
  | q :: qs => by
    have := can_dFs qs
    simp [PyData.canLayAll0, PyData.canLay0, dF, this]
theorem dep_dFs : ∀ qs : List F, PyData.depthAll (qs.map dF) ≤ 2
  | [] => by simp [PyData.depthAll]
  | q :: qs => by
    have := dep_dFs qs
    simp only [List.map_cons, PyData.depthAll, PyData.depth, dF]
    omega
theorem shaped_dFs (qs : List F) : SeqAt.shaped (.list (qs.map dF)) = true := by
  unfold SeqAt.shaped
  rw [Bool.and_eq_true_iff]
  refine ⟨?_, decide_eq_true ?_⟩
  · simpa [PyData.canLay0] using can_dFs qs
  · have := dep_dFs qs
    simp only [PyData.depth]
    omega
theorem eqv_nil (qs : List F) : PyData.eqv (.list (qs.map dF)) (.list []) = qs.isEmpty := by
  cases qs <;> rfl
abbrev sLTrim : Stmt := top 54
abbrev sLPoly : Stmt := top 55
/-- a list of fractions -/
def Ls (K : PySem.W.Frag) (H : Hp) (v : V) (qs : List F) : Prop := ∃ a xs, v = .ref a ∧ SqL K H a xs ∧ FrAll K H xs qs
theorem Ls.mono {K : PySem.W.Frag} {H H' : Hp} {v : V} {qs : List F} (e : Same H H') (h : Ls K H v qs) : Ls K H' v qs := by
  obtain ⟨a, xs, rfl, s, f⟩ := h
  exact ⟨a, xs, rfl, e.seq s, f.mono e⟩
def spLProd (K : PySem.W.Frag) : Sp := fun vs H Q _ => ∃ (x y : V) (qs rs : List F), vs = [x, y] ∧ Ls K H x qs ∧ Ls K H y rs ∧ (∀ q ∈ qs, S3 q) ∧ (∀ r ∈ rs, S3 r) ∧ qs.length ≤ 12 ∧ rs.length ≤ 12 ∧
  ∀ H' v, Same H H' → Ls K H' v (prodL qs rs) → Q v H'
def spLWorth (K : PySem.W.Frag) : Sp := fun vs H Q _ => ∃ (x m : V) (qs : List F) (q : F), vs = [x, m] ∧ Ls K H x qs ∧ Fr K H m q ∧ S3 q ∧ (∀ q ∈ qs, S3 q) ∧ qs.length ≤ 6 ∧
  ∀ H' v, Same H H' → Fr K H' v (hor q qs) → Q v H'
def spLTrim (K : PySem.W.Frag) : Sp := fun vs H Q _ => ∃ (a : Addr) (xs : List V) (qs : List F), vs = [.ref a] ∧ (SqL K H a xs ∨ SqT K H a xs) ∧ FrAll K H xs qs ∧ xs.length ≤ 1000 ∧
  ∀ H' p, Same H H' → Po K H' (.ref p) (trim qs) → Q (.ref p) H'
section
variable {P : Program} {w : World} {K : PySem.W.Frag} {mg : Str → Option Value} {base : Heap} {f : Addr} {fd : FuncData}
theorem hor_dm {m : F} (hm : S3 m) {qs : List F} (h : ∀ q ∈ qs, S3 q) (l : qs.length ≤ 6) : Dm (hor m qs) := by
  obtain ⟨o, d⟩ := hor_ok hm h
  have n := hor_num hm h l
  have p3 := pow3_le l
  exact ⟨Lt2.mono (m := 20 + 12 * qs.length) n (by omega), o.1, by omega⟩
theorem mulh_dl {q m : F} (a : Dm q) (b : S3 m) : Dl (mul q m) := by
  have mp := Int.mul_pos a.pos b.ok.1
  have o := red_ok (a := q.1 * m.1) mp
  have l1 := red_top (a := q.1 * m.1) mp
  have l2 : (mul q m).2 ≤ q.2 * m.2 := Int.le_of_dvd mp (vl_dvd (ok_mul' a.pos b.ok.1) (vl_mul a.pos b.ok.1 (vl_self q) (vl_self m)))
  have t1 : Lt2 4000 (q.1 * m.1) := Lt2.mono (m := 2000 + 4) (wide_lt a.big (show Lt2 4 m.1 from b.a)) (by decide)
  have t2 : Lt2 4000 (q.2 * m.2) := Lt2.mono (m := 15 + 15) (wide_lt a.l2 b.dm.l2) (by decide)
  refine ⟨Nat.lt_of_le_of_lt l1 t1, o.1, Nat.lt_of_le_of_lt ?_ t2⟩
  have := o.1
  show (mul q m).2.natAbs ≤ _
  have h0 : 0 < (mul q m).2 := o.1
  omega
theorem scLTrim : FnScope ["some", "found_so"] ["some"] (defScope sLTrim) := ⟨rfl, rfl, rfl, by decide +kernel, rfl, by decide +kernel, by decide +kernel⟩
theorem ok_ltrim (F : Fun K "_law_trim" "_law_trim" sLTrim f fd) (T : Blt mg) : FnOk P w K mg base CX0 1 f fd ["some"] (spLTrim K) := by
  refine F.ok scLTrim (fun vs H Q E h => ?_) (fun cdv A outer s H vs Q E hr h => ?_)
  · obtain ⟨a, xs, qs, rfl, _⟩ := h
    rfl
  · obtain ⟨a, xs, qs, rfl, sx, fx, l1, kk⟩ := h
    refine ⟨_, pss_cons (ps_set (i := 1) scLTrim.nd rfl (Or.inl rfl) (pe_callTy call_list_of (by rfl) T.list (by decide +kernel) (pa_cons (pv 0) pa_nil)))
      (pss_cons (ps_while PassesOwn.never (PW.pt (pw_and (pt_cmpR (op_neD hr.units) (pv 1) (pe_lst pa_nil) (nomark _)) (pw_and1 (pt_cmpR (op_eqD hr.units) (pe_ix ix_list (pv 1) (pe_un un_neg pe_int) (fun _ _ => rfl)) (pe_tup (pa_cons pe_int (pa_cons pe_int pa_nil))) (nomark _)))))
        (pss_one (ps_expr (pe_bm0 PySem.F.plainAttrs_list PySem.F.slot_list_pop PySem.F.type_list_pop mt_pop (pv 1)))))
      (pss_one (ps_ret (pe_callTy call_tuple_of (by rfl) T.tuple (by decide +kernel) (pa_cons (pv 1) pa_nil))))), ?_⟩
    have lx := fx.len
    refine ⟨_, rfl, a, xs, rfl, sx, fun L hL => ?_⟩
    have s0 := same_new (o := .lst xs) hL
    refine ⟨fun m σ H1 => Same H H1 ∧ m ≤ qs.length ∧ trim qs = trimN qs m ∧ H1 L = some (.lst (xs.take m)) ∧ σ = [some (V.ref a), some (V.ref L)], ⟨qs.length, s0, Nat.le_refl _, rfl, by rw [upd_same, ← lx, List.take_length], rfl⟩, ?_⟩
    rintro m σ H1 ⟨s1, hm, e, hL1, rfl⟩
    have nL : ∀ {c : Addr} {o : HO}, H c = some o → c ≠ L := fun z => ne_of_none z hL
    have fin : ∀ H2, Same H1 H2 → trim qs = qs.take m → tRet (tCB (fun xs H_1 Q => ∃ p ys, xs = [V.ref p] ∧ ((SqL K H_1 p ys ∧ ∀ (l : Addr), H_1 l = none → Q (V.ref l) (upd H_1 l (HO.tup ys))) ∨ (SqT K H_1 p ys ∧ Q (V.ref p) H_1))) (tCons (tVar 1) tNil))
        { nx := fun _ H' => Q .non H', rt := Q } [some (V.ref a), some (V.ref L)] H2 := by
      intro H2 s2 et
      refine ⟨_, rfl, L, _, rfl, Or.inl ⟨SqL.of (s2 _ _ hL1), fun p hp => ?_⟩⟩
      have s3 := same_new (o := .tup (xs.take m)) hp
      refine kk _ p ((s1.trans s2).trans s3) ⟨p, _, rfl, SqT.of upd_same, ?_⟩
      rw [et]
      exact (fx.take m).mono ((s1.trans s2).trans s3)
    refine ⟨_, rfl, (by show 0 ≤ sizeLine; decide), fun p0 hp0 => ?_⟩
    have s2 := same_new (o := .lst []) hp0
    have hL2 := s2 _ _ hL1
    refine ⟨.list ((qs.take m).map dF), .list [], .lst (SqL.of hL2) ((fx.take m).mono (s1.trans s2)).dp, .lst (SqL.of upd_same) .nil, shaped_dFs _, rfl, _, rfl, ?_⟩
    rw [eqv_nil]
    cases m with
    | zero =>
      refine iteF ?_
      refine iteF (fin _ s2 ?_)
      rw [e]
      rfl
    | succ n =>
      have ne : (qs.take (n + 1)).isEmpty = false := by
        cases eq : qs with
        | nil => rw [eq] at hm; simp at hm
        | cons q r => rfl
      rw [ne]
      refine iteT ?_
      obtain ⟨u, q, h1, h2, h3⟩ := fx.get (i := n) (by omega)
      have ec : co qs n = q := co_get h2
      have lt : (xs.take (n + 1)).length = n + 1 := by rw [List.length_take]; omega
      have ht : (xs.take (n + 1))[n]? = some u := by rw [List.getElem?_take_of_lt (by omega)]; exact h1
      have ha : atI (xs.take (n + 1)) (-1) = some u := by
        have e1 : ixN (xs.take (n + 1)).length (-1) = some n := by
          rw [lt]
          unfold ixN
          rw [if_neg (by decide), if_pos (by omega)]
          exact congrArg some (by omega)
        unfold atI
        rw [e1]
        exact ht
      refine ⟨_, rfl, _, rfl, L, _, _, u, rfl, rfl, SqL.of hL2, ha, (by show 2 ≤ sizeLine; decide), fun pt hpt => ?_⟩
      have s3 := same_new (o := .tup [.int 0, .int 1]) hpt
      refine ⟨dF q, dF (0, 1), ((h3.mono s1).mono (s2.trans s3)).dp, .tup (SqT.of upd_same) (.cons (.int 0) (.cons (.int 1) .nil)), rfl, rfl, _, rfl, ?_⟩
      rw [eqv_nought]
      refine ite2 (fun c => ?_) (fun c => ?_)
      · have c1 : q = (0, 1) := of_decide_eq_true c
        have hL3 := s3 _ _ hL2
        refine ⟨fun σ' H' => Same H H' ∧ n ≤ qs.length ∧ trim qs = trimN qs n ∧ H' L = some (.lst (xs.take n)) ∧ σ' = [some (V.ref a), some (V.ref L)], fun σ' H' h => ⟨n, by omega, h⟩, ?_⟩
        refine ⟨_, rfl, Or.inl ⟨rfl, _, SqL.of hL3⟩, L, _, u, rfl, rfl, hL3, ?_, fun c o z => (upd_ne (nL z)).trans (s3 c o (s2 c o (s1 c o z))), by omega, ?_, ?_, rfl⟩
        · rw [lt, Nat.add_sub_cancel]
          exact ht
        · rw [e, trimN, if_pos (by rw [ec]; exact c1)]
        · rw [upd_same, List.dropLast_eq_take, lt, Nat.add_sub_cancel, List.take_take, Nat.min_eq_left (by omega)]
      · have c1 : ¬ q = (0, 1) := fun w => c (decide_eq_true w)
        refine fin _ (s2.trans s3) ?_
        rw [e, trimN, if_neg (by rw [ec]; exact c1)]
end
end Rs


set_option Elab.async false
set_option linter.all false
set_option maxRecDepth 100000
set_option maxHeartbeats 400000
namespace Rs
open PySem L2 Bs Fq LamX
theorem s3_red {x y : Int} (h1 : -6 ≤ x) (h2 : x ≤ 6) (h3 : 1 ≤ y) (h4 : y ≤ 3) : S3 (red x y) := by
  have hp : 0 < y := by omega
  refine ⟨red_ok hp, ?_, ?_⟩
  · have := Int.le_of_dvd hp (vl_dvd (red_ok (a := x) hp) (vl_red hp))
    omega
  · have := red_top (a := x) hp
    omega
/-- the list at D alone was changed -/
theorem Sta.off {H : Hp} {p c l D : Addr} {n : Nat} {t : Int} {xs : List V} {o : HO} (S : Sta H p c l n t) (h : H D = some (.lst xs)) (n1 : c ≠ D) (n2 : l ≠ D) : Sta (upd H D o) p c l n t := by
  obtain ⟨cs, a1, a2⟩ := S.cs
  obtain ⟨ls, b1, b2⟩ := S.ls
  have n3 : p ≠ D := ne_of S.d h (by intro z; cases z)
  exact ⟨(upd_ne n3).trans S.d, ⟨cs, (upd_ne n1).trans a1, a2⟩, ⟨ls, (upd_ne n2).trans b1, b2⟩, S.ne, S.n1, S.n2, S.t0⟩
theorem FrAll.kp {K : PySem.W.Frag} {H H' : Hp} {p c l : Addr} {n : Nat} {t : Int} (k : Kp p l H H') (S : Sta H p c l n t) : ∀ {vs : List V} {qs : List F}, FrAll K H vs qs → FrAll K H' vs qs
  | _, _, .nil => .nil
  | _, _, .cons a b => .cons (k.fr S a) (FrAll.kp k S b)
theorem Po.kp {K : PySem.W.Frag} {H H' : Hp} {p c l : Addr} {n : Nat} {t : Int} {v : V} {qs : List F} (k : Kp p l H H') (S : Sta H p c l n t) (h : Po K H v qs) : Po K H' v qs := by
  obtain ⟨a, xs, rfl, s, f⟩ := h
  obtain ⟨ls, b1, _⟩ := S.ls
  refine ⟨a, xs, rfl, ?_, f.kp k S⟩
  rcases s with (s | ⟨o, s⟩) | s
  · exact .inl (.inl (k a _ s (ne_of s S.d (by intro z; cases z)) (ne_of s b1 (by intro z; cases z))))
  · exact .inl (.inr ⟨o, k a _ s (ne_of s S.d (by intro z; cases z)) (ne_of s b1 (by intro z; cases z))⟩)
  · exact .inr s
/-- _law_poly(state, many) -/
def spLPoly (K : PySem.W.Frag) : Sp := fun vs H Q _ => ∃ (p c l : Addr) (n : Nat) (t m : Int), vs = [.ref p, .int m] ∧ Sta H p c l n t ∧ t ≤ 8000 ∧ 0 ≤ m ∧ m ≤ 8 ∧
  ∀ (H' : Hp) (v : V) (qs : List F) (t' : Int), Po K H' v qs → (∀ q ∈ qs, S3 q) → Pn qs → (qs.length : Int) ≤ m → t ≤ t' → t' ≤ t + 17 → Sta H' p c l n t' → Kp p l H H' → Q v H'
section
variable {P : Program} {w : World} {K : PySem.W.Frag} {mg : Str → Option Value} {base : Heap} {f : Addr} {fd : FuncData}
theorem scLPoly : FnScope ["state", "many", "k"] ["state", "many"] (defScope sLPoly) := ⟨rfl, rfl, rfl, by decide +kernel, rfl, by decide +kernel, by decide +kernel⟩
theorem ok_lpoly (F : Fun K "_law_poly" "_law_poly" sLPoly f fd) (T : Blt mg) (D : Cal P w K mg base 2 "_law_draw" spDraw) (S_ : Cal P w K mg base 3 "_law_small" spSmall) (Tr : Cal P w K mg base 1 "_law_trim" (spLTrim K)) : FnOk P w K mg base CX0 4 f fd ["state", "many"] (spLPoly K) := by
  refine F.ok scLPoly (fun vs H Q E h => ?_) (fun cdv A outer s H vs Q E hr h => ?_)
  · obtain ⟨p, c, l, n, t, m, rfl, _⟩ := h
    rfl
  · obtain ⟨p, c, l, n, t, m, rfl, S, t1, m0, m1, kk⟩ := h
    refine ⟨_, pss_one (ps_ret (pe_n Tr hr (by decide) (by rfl) (pa_cons (pe_lc (own := [("k", 2)]) (g := gName 2) (tt := tYes) rfl scLPoly.nd (pi_range1 rfl T.range (pa_cons (pe_n D hr (by decide) (by rfl) (pa_cons (pv 0) (pa_cons (pe_op op_add (pv 1) pe_int) pa_nil))) pa_nil)) (blkOk_by (N := ["state", "many", "k"]) (sc := defScope sLPoly) (by decide +kernel))
          (fun _ _ _ _ _ => pg_name (i := 2) scLPoly.nd rfl (Or.inl rfl)) (fun _ _ _ _ _ => pts_nil)
          (fun _ _ _ _ _ => pe_n S_ hr (by decide) (by rfl) (pa_cons (pv 0) pa_nil))) pa_nil))), ?_⟩
    refine ⟨_, rfl, _, rfl, _, _, rfl, rfl, p, c, l, n, t, m + 1, rfl, S, by omega, by omega, by omega, fun H1 r r0 r1 S1 k1 => ?_⟩
    obtain ⟨cs, c1, _⟩ := S1.cs
    obtain ⟨ls, l1, _⟩ := S1.ls
    refine ⟨r, rfl, by omega, by omega, fun D hD => ?_⟩
    have nc : c ≠ D := ne_of_none c1 hD
    have nl : l ≠ D := ne_of_none l1 hD
    have np : p ≠ D := ne_of_none S1.d hD
    have s1 := same_new (o := .lst []) hD
    refine lc_range (n := r.toNat) (fun i H2 => ∃ acc qs, H2 D = some (.lst acc) ∧ FrAll K H2 acc qs ∧ qs.length = i ∧ (∀ q ∈ qs, S3 q) ∧ Sta H2 p c l n (t + 1 + 2 * i) ∧ Kp p l H H2)
      ⟨[], [], upd_same, .nil, rfl, fun q h => by simp at h, by simpa using S1.mono s1, k1.trans (Kp.of s1)⟩ ?_ ?_
    · rintro i H2 hi ⟨acc, qs, hD2, fa, ql, q3, S2, k2⟩
      refine ⟨rfl, ?_⟩
      refine iteT (B := ∃ acc qs, H2 D = some (.lst acc) ∧ FrAll K H2 acc qs ∧ qs.length = i + 1 ∧ (∀ q ∈ qs, S3 q) ∧ Sta H2 p c l n (t + 1 + 2 * ((i + 1 : Nat) : Int)) ∧ Kp p l H H2) ?_
      refine ⟨_, rfl, p, c, l, n, t + 1 + 2 * i, rfl, S2, by omega, fun H3 b x y x0 x1 y0 y1 hb S3' k3 => ?_⟩
      have hD3 : H3 D = some (.lst acc) := k3 D _ hD2 np.symm nl.symm
      have la : acc.length < sizeLine := small1000 (by rw [fa.len]; omega)
      refine ⟨acc, hD3, la, _, qs ++ [red x y], upd_same, (FrAll.off hD3 (fa.kp k3 S2)).snoc ((Fr.of hb).off hD3), ?_, ?_, ?_, ?_⟩
      · rw [List.length_append, ql]
        rfl
      · intro q hq
        rcases List.mem_append.mp hq with h | h
        · exact q3 q h
        · rw [List.mem_singleton.mp h]
          exact s3_red x0 x1 y0 y1
      · have e : t + 1 + 2 * (i : Int) + 2 = t + 1 + 2 * ((i + 1 : Nat) : Int) := by omega
        rw [e] at S3'
        exact S3'.off hD3 nc nl
      · exact fun b' o e n1 n2 => (upd_ne (ne_of_none (k1 b' o e n1 n2) hD)).trans ((k2.trans k3) b' o e n1 n2)
    · rintro H2 ⟨acc, qs, hD2, fa, ql, q3, S2, k2⟩
      refine ⟨D, acc, qs, rfl, Or.inl (SqL.of hD2), fa, by rw [fa.len]; omega, fun H' p' s3 po => ?_⟩
      refine kk H' _ (trim qs) (t + 1 + 2 * r.toNat) po (fun q hq => q3 q (trim_mem hq)) (trim_pn _) ?_ (by omega) (by omega) (S2.mono s3) (k2.trans (Kp.of s3))
      have := trim_len qs
      omega
end
end Rs


set_option linter.all false
set_option maxRecDepth 100000
namespace Fq
/-! ### fractions over a common bottom, with their sizes -/
structure Db (D : Int) (n : Nat) (q : F) : Prop where
  ok : Ok q
  b : q.2 ∣ D
  a : q.1.natAbs < 2 ^ n
theorem Db.mono {D : Int} {n m : Nat} {q : F} (h : Db D n q) (e : n ≤ m) : Db D m q := ⟨h.ok, h.b, Nat.lt_of_lt_of_le h.a (Nat.pow_le_pow_right (by decide) e)⟩
theorem Db.weak {D E : Int} {n : Nat} {q : F} (h : Db D n q) (e : D ∣ E) : Db E n q := ⟨h.ok, Int.dvd_trans h.b e, h.a⟩
theorem Db.le {D : Int} {n : Nat} {q : F} (h : Db D n q) (p : 0 < D) : q.2 ≤ D := Int.le_of_dvd p h.b
theorem Db.zero {D : Int} : Db D 0 (0, 1) := ⟨ok01, Int.one_dvd D, by decide⟩
theorem Db.add {D : Int} {n : Nat} {q r : F} (h : Db D n q) (g : Db D n r) (p : 0 < D) (s : D < 4096) : Db D (n + 13) (add q r) := by
  refine ⟨ok_add' h.ok.1 g.ok.1, dvd_add h.ok g.ok (by omega) h.b g.b, ?_⟩
  refine Nat.lt_of_le_of_lt (Rs.red_top (Int.mul_pos h.ok.1 g.ok.1)) ?_
  have := Int.natAbs_add_le (q.1 * r.2) (r.1 * q.2)
  rw [Int.natAbs_mul, Int.natAbs_mul] at this
  have l1 := h.le p
  have l2 := g.le p
  have p1 := h.ok.1
  have p2 := g.ok.1
  have m1 : q.1.natAbs * r.2.natAbs ≤ q.1.natAbs * 4095 := Nat.mul_le_mul (Nat.le_refl _) (by omega)
  have m2 : r.1.natAbs * q.2.natAbs ≤ r.1.natAbs * 4095 := Nat.mul_le_mul (Nat.le_refl _) (by omega)
  have a1 := h.a
  have a2 := g.a
  have e : 2 ^ (n + 13) = 2 ^ n * 8192 := by rw [Nat.pow_add]
  rw [e]
  omega
theorem Db.mul {D E : Int} {n m : Nat} {q r : F} (h : Db D n q) (g : Db E m r) : Db (D * E) (n + m) (mul q r) := by
  refine ⟨ok_mul' h.ok.1 g.ok.1, dvd_mul h.ok g.ok h.b g.b, ?_⟩
  refine Nat.lt_of_le_of_lt (Rs.red_top (Int.mul_pos h.ok.1 g.ok.1)) ?_
  rw [Int.natAbs_mul, Nat.pow_add]
  exact Nat.mul_lt_mul'' h.a g.a
theorem lt_irr (q : F) : lt q q = false := by simp [lt]
theorem lt_iff {q r : F} : lt q r = true ↔ q.1 * r.2 < r.1 * q.2 := by simp [lt]
theorem lt_trans {q r s : F} (hq : 0 < q.2) (hr : 0 < r.2) (hs : 0 < s.2) (h1 : lt q r = true) (h2 : lt r s = true) : lt q s = true := by
  rw [lt_iff] at *
  have a := Int.mul_lt_mul_of_pos_right h1 hs
  have b := Int.mul_lt_mul_of_pos_right h2 hq
  have c : q.1 * s.2 * r.2 < s.1 * q.2 * r.2 := by
    have e1 : q.1 * s.2 * r.2 = q.1 * r.2 * s.2 := by grind
    have e2 : r.1 * q.2 * s.2 = r.1 * s.2 * q.2 := by grind
    have e3 : s.1 * q.2 * r.2 = s.1 * r.2 * q.2 := by grind
    omega
  exact Int.lt_of_mul_lt_mul_right c (Int.le_of_lt hr)
theorem lt_tri {q r : F} (a : Ok q) (b : Ok r) (n : q ≠ r) (h : lt q r = false) : lt r q = true := by
  have h' : ¬ q.1 * r.2 < r.1 * q.2 := by
    intro z
    rw [lt_iff.mpr z] at h
    cases h
  rw [lt_iff]
  have e : q.1 * r.2 ≠ r.1 * q.2 := by
    intro e
    refine n (vl_uniq (a := r.1) (b := r.2) a b (by have := b.1; omega) ?_ rfl)
    exact e
  omega
/-- ascending -/
inductive Asc : List F → Prop
  | nil : Asc []
  | cons {q : F} {l : List F} : (∀ r ∈ l, lt q r = true) → Asc l → Asc (q :: l)
theorem asc_ins {x : F} (ox : Ok x) : ∀ {l : List F}, (∀ r ∈ l, Ok r) → Asc l → x ∉ l →
    Asc (l.take (l.filter fun r => lt r x).length ++ [x] ++ l.drop (l.filter fun r => lt r x).length)
  | [], _, _, _ => .cons (fun r h => by simp at h) .nil
  | q :: l, o, h, n => by
    cases h with
    | cons h1 h2 =>
      have oq := o q List.mem_cons_self
      have ol : ∀ r ∈ l, Ok r := fun r hr => o r (List.mem_cons_of_mem _ hr)
      have nq : x ≠ q := fun z => n (by rw [z]; exact List.mem_cons_self)
      have nl : x ∉ l := fun z => n (List.mem_cons_of_mem _ z)
      cases c : lt q x with
      | true =>
        rw [List.filter_cons_of_pos (by exact c), List.length_cons, List.take_succ_cons, List.drop_succ_cons]
        refine .cons (fun r hr => ?_) (asc_ins ox ol h2 nl)
        rcases List.mem_append.mp hr with hr | hr
        · rcases List.mem_append.mp hr with hr | hr
          · exact h1 r (List.mem_of_mem_take hr)
          · rw [List.mem_singleton.mp hr]
            exact c
        · exact h1 r (List.mem_of_mem_drop hr)
      | false =>
        have g : lt x q = true := lt_tri oq ox (Ne.symm nq) c
        have e : (l.filter fun r => lt r x) = [] := by
          rw [List.filter_eq_nil_iff]
          intro r hr z
          have := lt_trans ox.1 oq.1 (ol r hr).1 g (h1 r hr)
          have z2 := lt_trans ox.1 (ol r hr).1 ox.1 this z
          rw [lt_irr] at z2
          cases z2
        rw [List.filter_cons_of_neg (by rw [c]; simp), e]
        refine .cons (fun r hr => ?_) (.cons h1 h2)
        rcases List.mem_cons.mp hr with rfl | hr
        · exact g
        · exact lt_trans ox.1 oq.1 (ol r hr).1 g (h1 r hr)
/-! ### sums -/
def sumF (z : F) (l : List F) : F := l.foldl add z
theorem sumF_db {D : Int} (p : 0 < D) (s : D < 4096) : ∀ {l : List F} {n m : Nat} {z : F}, (∀ q ∈ l, Db D n q) → Db D m z → n ≤ m → Db D (m + 13 * l.length) (sumF z l)
  | [], _, _, _, _, hz, _ => hz.mono (by simp)
  | q :: l, n, m, z, h, hz, e => by
    have a := (hz.add ((h q List.mem_cons_self).mono e) p s)
    have b := sumF_db p s (l := l) (n := n) (m := m + 13) (z := Fq.add z q) (fun r hr => h r (List.mem_cons_of_mem _ hr)) a (by omega)
    refine b.mono ?_
    rw [List.length_cons]
    omega
theorem sumF_snoc (z : F) (l : List F) (q : F) : sumF z (l ++ [q]) = add (sumF z l) q := by
  unfold sumF
  rw [List.foldl_append]
  rfl
/-- above nought -/
def Pos (q : F) : Prop := 0 < q.1 ∧ 0 < q.2
theorem red_pos {a b : Int} (ha : 0 < a) (hb : 0 < b) : Pos (red a b) := by
  have o := red_ok (a := a) hb
  refine ⟨?_, o.1⟩
  have v := vl_red (a := a) hb
  unfold Vl at v
  have h1 : 0 < a * (red a b).2 := Int.mul_pos ha o.1
  rw [← v] at h1
  exact Int.pos_of_mul_pos_left h1 hb
theorem pos_add {q r : F} (h1 : Pos q) (h2 : Pos r) : Pos (add q r) := red_pos (by have := Int.mul_pos h1.1 h2.2; have := Int.mul_pos h2.1 h1.2; omega) (Int.mul_pos h1.2 h2.2)
theorem pos_mul {q r : F} (h1 : Pos q) (h2 : Pos r) : Pos (mul q r) := red_pos (Int.mul_pos h1.1 h2.1) (Int.mul_pos h1.2 h2.2)
theorem pos_sum : ∀ {l : List F} {z : F}, (∀ q ∈ l, Pos q) → Pos z → Pos (sumF z l)
  | [], _, _, hz => hz
  | q :: l, z, h, hz => pos_sum (l := l) (z := add z q) (fun r hr => h r (List.mem_cons_of_mem _ hr)) (pos_add hz (h q List.mem_cons_self))
theorem zero_add {q : F} (h : Ok q) : add (0, 1) q = q := by
  show red (0 * q.2 + q.1 * 1) (1 * q.2) = q
  rw [Int.zero_mul, Int.zero_add, Int.mul_one, Int.one_mul]
  exact red_of h
/-! ### shares and their moments -/
abbrev Pr := F × F
/-- a pair of a share with small numbers -/
structure Sp2 (p : Pr) : Prop where
  o1 : Ok p.1
  b1 : p.1.2 ∣ 2
  a1 : p.1.1.natAbs < 8
  o2 : Ok p.2
  b2 : p.2.2 ∣ 2
  a2 : p.2.1.natAbs < 16
  p2 : 0 < p.2.1
theorem half {q : F} (o : Ok q) (h : q.2 ∣ 2) : q.2 = 1 ∨ q.2 = 2 := by
  have := Int.le_of_dvd (by decide) h
  have := o.1
  omega
def mom (ps : List Pr) (k : Nat) : F := sumF (0, 1) (ps.map fun p => mul p.2 (pw p.1 k))
theorem pow_dvd2 {x y : Int} (h : x ∣ y) : ∀ k : Nat, x ^ k ∣ y ^ k
  | 0 => by rw [Int.pow_zero, Int.pow_zero]; exact Int.dvd_refl 1
  | k + 1 => by
    rw [Int.pow_succ, Int.pow_succ]
    exact Int.mul_dvd_mul (pow_dvd2 h k) h
theorem pow2_dvd {x : Int} {k n : Nat} (h : x ∣ 2) (e : k ≤ n) : x ^ k ∣ 2 ^ n := by
  refine Int.dvd_trans (pow_dvd2 h k) ⟨2 ^ (n - k), ?_⟩
  rw [← Int.pow_add]
  congr 1
  omega
theorem pw_db {p : Pr} (h : Sp2 p) {k : Nat} (hk : k ≤ 8) : Db 256 24 (pw p.1 k) := by
  refine ⟨pw_ok h.o1 k, pow2_dvd (n := 8) h.b1 hk, ?_⟩
  show (p.1.1 ^ k).natAbs < _
  rw [Int.natAbs_pow]
  refine Nat.lt_of_le_of_lt (Nat.pow_le_pow_left (Nat.le_of_lt_succ h.a1) k) ?_
  refine Nat.lt_of_le_of_lt (Nat.pow_le_pow_right (by decide) hk) ?_
  decide
theorem term_db {p : Pr} (h : Sp2 p) {k : Nat} (hk : k ≤ 8) : Db 512 28 (mul p.2 (pw p.1 k)) := by
  have a : Db 2 4 p.2 := ⟨h.o2, h.b2, h.a2⟩
  exact a.mul (pw_db h hk)
theorem terms_db {ps : List Pr} (h : ∀ p ∈ ps, Sp2 p) {k : Nat} (hk : k ≤ 8) : ∀ q ∈ ps.map (fun p => mul p.2 (pw p.1 k)), Db 512 28 q := by
  intro q hq
  obtain ⟨p, hp, rfl⟩ := List.mem_map.mp hq
  exact term_db (h p hp) hk
theorem mom_db {ps : List Pr} (h : ∀ p ∈ ps, Sp2 p) (l : ps.length ≤ 6) {k : Nat} (hk : k ≤ 8) : Db 512 106 (mom ps k) := by
  refine (sumF_db (by decide) (by decide) (terms_db h hk) (Db.zero.mono (m := 28) (by decide)) (Nat.le_refl _)).mono ?_
  rw [List.length_map]
  omega
theorem mom_pos {ps : List Pr} (h : ∀ p ∈ ps, Sp2 p) (n : ps ≠ []) : 0 < (mom ps 0).1 := by
  cases ps with
  | nil => exact absurd rfl n
  | cons p ps =>
    have e : ∀ r ∈ p :: ps, Pos (mul r.2 (pw r.1 0)) := fun r hr => pos_mul ⟨(h r hr).p2, (h r hr).o2.1⟩ ⟨by show 0 < r.1.1 ^ 0; rw [Int.pow_zero]; decide, by show 0 < r.1.2 ^ 0; rw [Int.pow_zero]; decide⟩
    have hp := term_db (h p List.mem_cons_self) (k := 0) (by decide)
    show 0 < (sumF (add (0, 1) (mul p.2 (pw p.1 0))) (ps.map fun p => mul p.2 (pw p.1 0))).1
    rw [zero_add hp.ok]
    refine (pos_sum (fun q hq => ?_) (e p List.mem_cons_self)).1
    obtain ⟨r, hr, rfl⟩ := List.mem_map.mp hq
    exact e r (List.mem_cons_of_mem _ hr)
/-- the moments 0 to n -/
def moms (ps : List Pr) (n : Nat) : List F := (List.range (n + 1)).map (mom ps)
theorem moms_len (ps : List Pr) (n : Nat) : (moms ps n).length = n + 1 := by rw [moms, List.length_map, List.length_range]
theorem moms_db {ps : List Pr} (h : ∀ p ∈ ps, Sp2 p) (l : ps.length ≤ 6) {n : Nat} (hn : n ≤ 8) : ∀ q ∈ moms ps n, Db 512 106 q := by
  intro q hq
  obtain ⟨k, hk, rfl⟩ := List.mem_map.mp hq
  have := List.mem_range.mp hk
  exact mom_db h l (by omega)
/-- a row's fractions -/
structure Rw (qs : List F) : Prop where
  d : ∀ q ∈ qs, Db 512 130 q
  n : qs ≠ []
  l : qs.length ≤ 9
  p : ∀ q r, qs = q :: r → 0 < q.1
theorem moms_rw {ps : List Pr} (h : ∀ p ∈ ps, Sp2 p) (n : ps ≠ []) (l : ps.length ≤ 6) {k : Nat} (hk : k ≤ 8) : Rw (moms ps k) := by
  refine ⟨fun q hq => (moms_db h l hk q hq).mono (by decide), ?_, by rw [moms_len]; omega, ?_⟩
  · intro z
    have := congrArg List.length z
    rw [moms_len] at this
    cases this
  · intro q r e
    unfold moms at e
    rw [List.range_succ_eq_map, List.map_cons] at e
    have := (List.cons.inj e).1
    rw [← this]
    exact mom_pos h n
/-- sums by a row -/
def sumBy (qs rs : List F) : F := sumF (0, 1) (List.zipWith mul qs rs)
theorem zw_db {qs rs : List F} {n m : Nat} {D E : Int} (h1 : ∀ q ∈ qs, Db D n q) (h2 : ∀ r ∈ rs, Db E m r) : ∀ q ∈ List.zipWith mul qs rs, Db (D * E) (n + m) q := by
  intro q hq
  rw [List.zipWith_eq_zipWith_take_min, List.mem_iff_getElem?] at hq
  obtain ⟨i, hi⟩ := hq
  rw [List.getElem?_zipWith_eq_some] at hi
  obtain ⟨x, y, hx, hy, rfl⟩ := hi
  exact (h1 x (List.mem_of_mem_take (List.mem_of_getElem? hx))).mul (h2 y (List.mem_of_mem_take (List.mem_of_getElem? hy)))
/-- mixes -/
def mixF (a b : F) (q r : F) : F := add (mul a q) (mul b r)
theorem mix_db {a b q r : F} (ha : Db 6 4 a) (hb : Db 6 4 b) (hq : Db 512 130 q) (hr : Db 512 130 r) : Db 3072 147 (mixF a b q r) :=
  ((ha.mul hq).weak (E := 3072) (by decide)).add ((hb.mul hr).weak (E := 3072) (by decide)) (by decide) (by decide)
end Fq


set_option Elab.async false
set_option linter.all false
set_option maxRecDepth 100000
set_option maxHeartbeats 400000
namespace Rs
open PySem L2 Bs Fq LamX RZ
theorem walk_zipT {K : PySem.W.Frag} {a b : Addr} {xs ys : List V} {n : Nat} (hn : n = min xs.length ys.length) : Walk (ItzT K a b) n (fun H => SqT K H a xs ∧ SqT K H b ys) (YPair (fun i => xs[i]?) (fun i => ys[i]?)) := by
  rw [hn]
  refine ⟨fun i _ hi q => ?_, fun _ q => ⟨xs, ys, q.1, q.2, by omega⟩, fun i H v H' _ q y => ?_⟩
  · have h1 : i < xs.length := by omega
    have h2 : i < ys.length := by omega
    exact ⟨xs, ys, xs[i], ys[i], q.1, q.2, List.getElem?_eq_getElem h1, List.getElem?_eq_getElem h2⟩
  · obtain ⟨T, x, z, e1, e2, e3, e4, e5⟩ := y
    exact ⟨T, x, z, e1, e2, e3, e4 xs q.1, e5 ys q.2⟩
/-! ### rows and shares as data -/
def top0 : PyData → Bool
  | .tuple (.int a :: _) => decide (0 < a)
  | _ => false
def posD (d : PyData) : Bool := fracD d && top0 d
def row0 : PyData → Bool
  | .tuple (d :: _) => top0 d
  | _ => false
def rowD (d : PyData) : Bool := fracsD 9 d && row0 d
def weighD : PyData → Bool
  | .tuple [x, y] => fracD x && posD y
  | _ => false
def numD : PyData → F
  | .tuple (.tuple [.int a, .int b] :: _) => (a, b)
  | _ => (0, 1)
def ascD (ds : List PyData) : Bool := (List.zipWith (fun x y => lt (numD x) (numD y)) ds ds.tail).all id
def shareD : PyData → Bool
  | .tuple ds => decide (1 ≤ ds.length) && decide (ds.length ≤ 6) && ds.all weighD && ascD ds
  | _ => false
def dmB (q : F) : Bool := decide (q.1.natAbs < 2 ^ 100) && decide (0 < q.2) && decide (q.2 < 32768)
theorem dm_of {q : F} (h : dmB q = true) : Dm q := by
  simp only [dmB, Bool.and_eq_true, decide_eq_true_eq] at h
  exact ⟨Lt2.mono (m := 100) h.1.1 (by decide), h.1.2, h.2⟩
def smD : PyData → Bool
  | .tuple ds => ds.all fun e => dmB (numD e)
  | _ => true
def dPr (p : Pr) : PyData := .tuple [dF p.1, dF p.2]
def dSh (ps : List Pr) : PyData := .tuple (ps.map dPr)
abbrev sPosi : Stmt := top 21
abbrev sIsRow : Stmt := top 30
abbrev sNeedRow : Stmt := top 31
abbrev sWeigh : Stmt := top 32
abbrev sIsSh : Stmt := top 33
abbrev sNeedSh : Stmt := top 34
structure Mosts (mg : Str → Option Value) : Prop where
  m9 : ∃ t, mg "MOST_MOMENTS" = some (.int 9 t)
  m6 : ∃ t, mg "MOST_PAIRS" = some (.int 6 t)
def spPosi (K : PySem.W.Frag) : Sp := fun vs H Q _ => ∃ (v : V) (d : PyData), vs = [v] ∧ Dp K H v d ∧ Q (.bl (posD d)) H
def spIsRow (K : PySem.W.Frag) : Sp := fun vs H Q _ => ∃ (v : V) (d : PyData), vs = [v] ∧ Dp K H v d ∧ ∀ H', Same H H' → Q (.bl (rowD d)) H'
def spNeedRow (K : PySem.W.Frag) (C : Addr) : Sp := fun vs H Q E => ∃ (v : V) (d : PyData), vs = [v] ∧ Dp K H v d ∧ (rowD d = true → ∀ H', Same H H' → Q v H') ∧ (rowD d = false → ∀ H', Same H H' → OutW E C "given" v H')
def spWeigh (K : PySem.W.Frag) : Sp := fun vs H Q _ => ∃ (v : V) (d : PyData), vs = [v] ∧ Dp K H v d ∧ Q (.bl (weighD d)) H
def spIsSh (K : PySem.W.Frag) : Sp := fun vs H Q _ => ∃ (v : V) (d : PyData), vs = [v] ∧ Dp K H v d ∧ smD d = true ∧ ∀ H', Same H H' → Q (.bl (shareD d)) H'
def spNeedSh (K : PySem.W.Frag) (C : Addr) : Sp := fun vs H Q E => ∃ (v : V) (d : PyData), vs = [v] ∧ Dp K H v d ∧ smD d = true ∧ (shareD d = true → ∀ H', Same H H' → Q v H') ∧ (shareD d = false → ∀ H', Same H H' → OutW E C "given" v H')
theorem weighD_true {d : PyData} (h : weighD d = true) : ∃ p : Pr, d = dPr p ∧ Fq.Ok p.1 ∧ Fq.Ok p.2 ∧ 0 < p.2.1 := by
  unfold weighD at h
  split at h
  · rename_i x y
    rw [posD, Bool.and_eq_true, Bool.and_eq_true] at h
    obtain ⟨q, rfl, oq⟩ := fracD_true h.1
    obtain ⟨r, rfl, or_⟩ := fracD_true h.2.1
    exact ⟨(q, r), rfl, oq, or_, of_decide_eq_true h.2.2⟩
  · cases h
theorem weigh_all : ∀ {ds : List PyData}, ds.all weighD = true → ∃ ps : List Pr, ds = ps.map dPr ∧ ∀ p ∈ ps, Fq.Ok p.1 ∧ Fq.Ok p.2 ∧ 0 < p.2.1
  | [], _ => ⟨[], rfl, fun p h => by simp at h⟩
  | d :: ds, h => by
    rw [List.all_cons, Bool.and_eq_true] at h
    obtain ⟨p, rfl, o⟩ := weighD_true h.1
    obtain ⟨ps, rfl, os⟩ := weigh_all h.2
    refine ⟨p :: ps, rfl, fun r hr => ?_⟩
    rcases List.mem_cons.mp hr with rfl | h
    · exact o
    · exact os r h
theorem weighD_of {p : Pr} (h1 : Fq.Ok p.1) (h2 : Fq.Ok p.2) (h3 : 0 < p.2.1) : weighD (dPr p) = true := by
  show (fracD (dF p.1) && (fracD (dF p.2) && decide (0 < p.2.1))) = true
  rw [fracD_dF h1, fracD_dF h2, decide_eq_true h3]
  rfl
section
variable {P : Program} {w : World} {K : PySem.W.Frag} {mg : Str → Option Value} {base : Heap} {f : Addr} {fd : FuncData} {CR CS : Addr}
theorem scPosi : FnScope ["thing"] ["thing"] (defScope sPosi) := ⟨rfl, rfl, rfl, by decide +kernel, rfl, by decide +kernel, by decide +kernel⟩
theorem ok_posi (F : Fun K "is_positive" "is_positive" sPosi f fd) (W : Cal P w K mg base 2 "is_fraction" (spFraction K)) : FnOk P w K mg base CX0 3 f fd ["thing"] (spPosi K) := by
  refine F.ok scPosi (fun vs H Q E h => ?_) (fun cdv A outer s H vs Q E hr h => ?_)
  · obtain ⟨v, d, rfl, _⟩ := h
    rfl
  · obtain ⟨v, d, rfl, hd, kk⟩ := h
    refine ⟨_, pss_one (ps_ret (pe_and (pe_n W hr (by decide) (by rfl) (pa_cons (pv 0) pa_nil)) (pe_one (pe_cmpR op_gt (pe_ix ix_tup (pv 0) pe_int (fun _ _ => rfl)) pe_int (nomark _))))), ?_⟩
    refine ⟨v, rfl, v, d, rfl, hd, _, rfl, ?_⟩
    unfold posD at kk
    cases e : fracD d with
    | false =>
      rw [e] at kk
      exact iteF kk
    | true =>
      rw [e] at kk
      obtain ⟨q, rfl, o⟩ := fracD_true e
      obtain ⟨a, rfl, sq⟩ := dp_fr hd
      exact iteT ⟨_, rfl, a, _, 0, _, rfl, rfl, sq, rfl, _, _, rfl, rfl, kk⟩
theorem scIsRow : FnScope ["thing"] ["thing"] (defScope sIsRow) := ⟨rfl, rfl, rfl, by decide +kernel, rfl, by decide +kernel, by decide +kernel⟩
theorem ok_isRow (F : Fun K "is_row" "is_row" sIsRow f fd) (T : Blt mg) (M : Mosts mg) (AF : Cal P w K mg base 3 "are_fractions" (spAreF K)) : FnOk P w K mg base CX0 4 f fd ["thing"] (spIsRow K) := by
  refine F.ok scIsRow (fun vs H Q E h => ?_) (fun cdv A outer s H vs Q E hr h => ?_)
  · obtain ⟨v, d, rfl, _⟩ := h
    rfl
  · obtain ⟨v, d, rfl, hd, kk⟩ := h
    obtain ⟨t, mt⟩ := M.m9
    refine ⟨_, pss_one (ps_ret (pe_and (pe_n AF hr (by decide) (by rfl) (pa_cons (pv 0) (pa_cons (pe_glob (v := .int 9) (by rfl) mt ⟨t, rfl⟩) pa_nil)))
      (pe_and (pe_cmpR op_gt (pe_callB call_len_seq (by rfl) T.len (by decide +kernel) (pa_cons (pv 0) pa_nil)) pe_int (nomark _))
        (pe_one (pe_cmpR op_gt (pe_ix ix_tup (pe_ix ix_tup (pv 0) pe_int (fun _ _ => rfl)) pe_int (fun _ _ => rfl)) pe_int (nomark _)))))), ?_⟩
    refine ⟨v, rfl, v, d, 9, rfl, hd, by decide, fun H1 s1 => ⟨_, rfl, ?_⟩⟩
    have kk' := kk H1 s1
    unfold rowD at kk'
    cases e : fracsD 9 d with
    | false =>
      rw [e] at kk'
      exact iteF kk'
    | true =>
      rw [e] at kk'
      obtain ⟨qs, rfl, ok, lq⟩ := fracsD_true e
      obtain ⟨a, xs, rfl, sq, fx⟩ := (dp_po hd).mono s1
      refine iteT ⟨_, rfl, a, xs, rfl, Or.inr sq, _, _, rfl, rfl, _, rfl, ?_⟩
      cases fx with
      | nil => exact iteF kk'
      | cons h1 h2 =>
        rename_i v1 vs1 q1 qs1
        obtain ⟨b, rfl, sb⟩ := h1
        refine ite2 (fun c => ?_) (fun c => ?_)
        · exact ⟨_, rfl, a, _, 0, _, rfl, rfl, sq, atI_nat (j := 0) rfl, b, _, 0, _, rfl, rfl, sb, rfl, _, _, rfl, rfl, kk'⟩
        · exact absurd (decide_eq_true (by rw [List.length_cons]; omega)) c
theorem scNeedRow : FnScope ["thing"] ["thing"] (defScope sNeedRow) := ⟨rfl, rfl, rfl, by decide +kernel, rfl, by decide +kernel, by decide +kernel⟩
theorem ok_needRow (F : Fun K "need_row" "need_row" sNeedRow f fd) (T : ErrOkW P w K mg base "BadRow" "given" CR) (W : Cal P w K mg base 4 "is_row" (spIsRow K)) : FnOk P w K mg base (L2.CX P w) 5 f fd ["thing"] (spNeedRow K CR) := by
  refine F.okX scNeedRow (fun vs H Q E h => ?_) (fun cdv A outer s H vs Q E hr h => ?_)
  · obtain ⟨v, d, rfl, _⟩ := h
    rfl
  · obtain ⟨v, d, rfl, hd, k1, k2⟩ := h
    refine ⟨_, pss_cons (ps_if (pt_not (pt_val (pe_n W hr (by decide) (by rfl) (pa_cons (pv 0) pa_nil)))) (pss_one (ps_rzW rfl T hr (by decide) (takes_of rfl rfl rfl rfl) (pv 0) (by rfl))) pss_nil) (pss_one (ps_ret (pv 0))), ?_⟩
    refine ⟨_, rfl, v, d, rfl, hd, fun H' s => ⟨_, rfl, ?_⟩⟩
    cases e : rowD d with
    | true => exact iteF ⟨_, rfl, k1 e H' s⟩
    | false => exact iteT ⟨_, rfl, k2 e H' s⟩
theorem scWeigh : FnScope ["thing"] ["thing"] (defScope sWeigh) := ⟨rfl, rfl, rfl, by decide +kernel, rfl, by decide +kernel, by decide +kernel⟩
theorem ok_weigh (F : Fun K "is_weighed" "is_weighed" sWeigh f fd) (T : Blt mg) (FR : Cal P w K mg base 2 "is_fraction" (spFraction K)) (PO : Cal P w K mg base 3 "is_positive" (spPosi K)) : FnOk P w K mg base CX0 4 f fd ["thing"] (spWeigh K) := by
  refine F.ok scWeigh (fun vs H Q E h => ?_) (fun cdv A outer s H vs Q E hr h => ?_)
  · obtain ⟨v, d, rfl, _⟩ := h
    rfl
  · obtain ⟨v, d, rfl, hd, kk⟩ := h
    refine ⟨_, pss_one (ps_ret (pe_and (pe_callB call_isi (by rfl) T.isinstance (by decide +kernel) (pa_cons (pv 0) (pa_cons (pe_bltn (v := .ty "tuple") (by rfl) T.tuple (by decide +kernel) rfl) pa_nil)))
      (pe_and (pe_cmpR op_eq (pe_callB call_len_seq (by rfl) T.len (by decide +kernel) (pa_cons (pv 0) pa_nil)) pe_int (nomark _))
        (pe_and (pe_n FR hr (by decide) (by rfl) (pa_cons (pe_ix ix_tup (pv 0) pe_int (fun _ _ => rfl)) pa_nil))
          (pe_one (pe_n PO hr (by decide) (by rfl) (pa_cons (pe_ix ix_tup (pv 0) pe_int (fun _ _ => rfl)) pa_nil))))))), ?_⟩
    refine ⟨v, rfl, v, _, _, _, _, rfl, .ty _, hd.ty, kitT K d, _, rfl, ?_⟩
    cases d with
    | tuple ds =>
      refine iteT ?_
      cases hd with
      | tup sq all =>
        rename_i a xs
        have l := dpAll_len all
        refine ⟨_, rfl, a, xs, rfl, Or.inr sq, rfl, _, rfl, ?_⟩
        have no : ds.length ≠ 2 → Q (.bl false) H := fun n => by
          have e : weighD (.tuple ds) = false := by
            unfold weighD
            split
            · rename_i h
              cases h
              exact absurd rfl n
            · rfl
          rw [e] at kk
          exact kk
        refine ite2 (fun c => ?_) (fun c => ?_)
        · have l2 : xs.length = 2 := by
            have : (xs.length : Int) = 2 := by simpa using c
            omega
          cases all with
          | nil => cases l2
          | cons h1 t1 =>
            cases t1 with
            | nil => cases l2
            | cons h2 t2 =>
              cases t2 with
              | cons _ _ => simp at l2
              | nil =>
                rename_i x dx y dy
                refine ⟨_, rfl, a, _, 0, _, rfl, rfl, sq, rfl, x, dx, rfl, h1, _, rfl, ?_⟩
                have kk' : Q (.bl (fracD dx && posD dy)) H := kk
                cases e : fracD dx with
                | false =>
                  rw [e] at kk'
                  exact iteF kk'
                | true =>
                  rw [e] at kk'
                  exact iteT ⟨_, rfl, a, _, 1, _, rfl, rfl, sq, rfl, y, dy, rfl, h2, kk'⟩
        · refine no (fun z => c ?_)
          rw [l, z]
          rfl
    | none => exact iteF kk
    | bool b => exact iteF kk
    | int i => exact iteF kk
    | str x => exact iteF kk
    | list xs => exact iteF kk
    | dict xs => exact iteF kk
end
end Rs


set_option Elab.async false
set_option linter.all false
set_option maxRecDepth 100000
set_option maxHeartbeats 400000
namespace Rs
open PySem L2 Bs Fq LamX RZ
theorem cut_tail {xs : List V} (h : 1 ≤ xs.length) : cutV xs (some 1) none = xs.tail := by
  cases xs with
  | nil => cases h
  | cons x r =>
    have e1 : HT.sIx (x :: r).length 0 (some 1) = 1 := by simp [HT.sIx]
    have e2 : HT.sIx (x :: r).length (x :: r).length none = (x :: r).length := by simp [HT.sIx]
    unfold cutV
    rw [e1, e2]
    simp
theorem not_whole {n : Nat} (h : 1 ≤ n) : ¬ (HT.sIx n 0 (some 1) = 0 ∧ HT.sIx n n none = n) := by
  rintro ⟨z, _⟩
  have : HT.sIx n 0 (some 1) = 1 := by simp [HT.sIx]; omega
  omega
theorem prOf {K : PySem.W.Frag} {H : Hp} {v : V} {p : Pr} (h : Dp K H v (dPr p)) : ∃ a u1 u2, v = .ref a ∧ SqT K H a [u1, u2] ∧ Fr K H u1 p.1 ∧ Fr K H u2 p.2 := by
  cases h with
  | tup sq all =>
    cases all with
    | cons h1 t1 =>
      cases t1 with
      | cons h2 t2 =>
        cases t2
        exact ⟨_, _, _, rfl, sq, dp_fr h1, dp_fr h2⟩
theorem dpAll_tail {K : PySem.W.Frag} {H : Hp} : ∀ {ds : List PyData} {xs : List V}, DpAll K H xs ds → DpAll K H xs.tail ds.tail
  | _, _, .nil => .nil
  | _, _, .cons _ h => h
theorem map_some {α β : Type} {f : α → β} {l : List α} {i : Nat} {y : β} (h : (l.map f)[i]? = some y) : ∃ x, l[i]? = some x ∧ y = f x := by
  rw [List.getElem?_map] at h
  cases e : l[i]? with
  | none =>
    rw [e] at h
    cases h
  | some x =>
    rw [e] at h
    exact ⟨x, rfl, (Option.some.inj h).symm⟩
abbrev NSh : List Str := ["thing", "pair", "one", "other"]
section
variable {P : Program} {w : World} {K : PySem.W.Frag} {mg : Str → Option Value} {base : Heap} {f : Addr} {fd : FuncData} {CR CS CN : Addr}
theorem scIsSh : FnScope NSh ["thing"] (defScope sIsSh) := ⟨rfl, rfl, rfl, by decide +kernel, rfl, by decide +kernel, by decide +kernel⟩
theorem ok_isSh (F : Fun K "is_share" "is_share" sIsSh f fd) (T : Blt mg) (M : Mosts mg) (al : mg "all" = none) (zp : mg "zip" = none) (WE : Cal P w K mg base 4 "is_weighed" (spWeigh K)) (BE : Cal P w K mg base 1 "is_below" (spLt K)) :
    FnOk P w K mg base CX0 5 f fd ["thing"] (spIsSh K) := by
  refine F.ok scIsSh (fun vs H Q E h => ?_) (fun cdv A outer s H vs Q E hr h => ?_)
  · obtain ⟨v, d, rfl, _⟩ := h
    rfl
  · obtain ⟨v, d, rfl, hd, sm, kk⟩ := h
    obtain ⟨t, mt⟩ := M.m6
    refine ⟨_, pss_cons (ps_if (PW.pt (pw_or (pt_not (pt_val (pe_callB call_isi (by rfl) T.isinstance (by decide +kernel) (pa_cons (pv 0) (pa_cons (pe_bltn (v := .ty "tuple") (by rfl) T.tuple (by decide +kernel) rfl) pa_nil)))))
        (pw_or (pt_cmpR op_lt (pe_callB call_len_seq (by rfl) T.len (by decide +kernel) (pa_cons (pv 0) pa_nil)) pe_int (nomark _))
          (pw_or1 (pt_cmpR op_gt (pe_callB call_len_seq (by rfl) T.len (by decide +kernel) (pa_cons (pv 0) pa_nil)) (pe_glob (v := .int 6) (by rfl) mt ⟨t, rfl⟩) (nomark _)))))) (pss_one (ps_ret pe_bl)) pss_nil)
      (pss_cons (ps_if (pt_not (pt_val (pe_callB (cr_all rfl) (by rfl) al (by decide +kernel) (pa_cons (pe_lc (own := [("pair", 1)]) (g := gName 1) (tt := tYes) rfl scIsSh.nd (pi_tup (pv 0)) (blkOk_by (N := NSh) (sc := defScope sIsSh) (by decide +kernel))
          (fun _ _ _ _ _ => pg_name (i := 1) scIsSh.nd rfl (Or.inl rfl)) (fun _ _ _ _ _ => pts_nil)
          (fun _ _ _ _ _ => pe_n WE hr (by decide) (by rfl) (pa_cons (pv 1) pa_nil))) pa_nil)))) (pss_one (ps_ret pe_bl)) pss_nil)
      (pss_one (ps_ret (pe_callB (cr_all rfl) (by rfl) al (by decide +kernel) (pa_cons (pe_lc (own := [("one", 2), ("other", 3)]) (g := gTup K 2 (gCons (gName 2) (gCons (gName 3) gNil))) (tt := tYes) rfl scIsSh.nd
          (pi_zipA (by rfl) zp (pa_cons (pv 0) (pa_cons (pe_slice sl_tupA (pv 0) (po_some pe_int) po_none) pa_nil))) (blkOk_by (N := NSh) (sc := defScope sIsSh) (by decide +kernel))
          (fun _ _ _ _ _ => pg_tup rfl (pgs_cons (pg_name (i := 2) scIsSh.nd rfl (Or.inl rfl)) (pgs_cons (pg_name (i := 3) scIsSh.nd rfl (Or.inl rfl)) pgs_nil))) (fun _ _ _ _ _ => pts_nil)
          (fun _ _ _ _ _ => pe_n BE hr (by decide) (by rfl) (pa_cons (pe_ix (show IxR _ (rIxT K) from ix_tup) (pv 2) pe_int (fun _ _ => rfl)) (pa_cons (pe_ix (show IxR _ (rIxT K) from ix_tup) (pv 3) pe_int (fun _ _ => rfl)) pa_nil)))) pa_nil))))), ?_⟩
    refine ⟨v, rfl, v, _, _, _, _, rfl, .ty _, hd.ty, kitT K d, _, rfl, ?_⟩
    have no : ∀ H', Same H H' → shareD d = false → Q (.bl false) H' := fun H' s e => by
      have := kk H' s
      rwa [e] at this
    have sr : Same H H := fun _ _ z => z
    cases d with
    | tuple ds =>
      refine iteF ?_
      cases hd with
      | tup sq all =>
        rename_i a xs
        have l := dpAll_len all
        refine ⟨_, rfl, a, xs, rfl, Or.inr sq, _, _, rfl, rfl, _, rfl, ?_⟩
        refine ite2 (fun c => ?_) (fun c => ?_)
        · have c1 : (xs.length : Int) < 1 := of_decide_eq_true c
          refine iteT (no H sr ?_)
          show (decide (1 ≤ ds.length) && _ && _ && _) = false
          rw [decide_eq_false (by omega)]
          rfl
        have c1 : ¬ (xs.length : Int) < 1 := fun z => c (decide_eq_true z)
        refine ⟨_, rfl, a, xs, rfl, Or.inr sq, _, _, rfl, rfl, _, rfl, ?_⟩
        refine ite2 (fun c' => ?_) (fun c' => ?_)
        · have c2 : (xs.length : Int) > 6 := of_decide_eq_true c'
          refine no H sr ?_
          show (decide (1 ≤ ds.length) && decide (ds.length ≤ 6) && _ && _) = false
          rw [decide_eq_false (show ¬ ds.length ≤ 6 by omega), Bool.and_false]
          rfl
        have c2 : ¬ (xs.length : Int) > 6 := fun z => c' (decide_eq_true z)
        -- all weighed
        refine ⟨_, rfl, a, rfl, ⟨_, sq⟩, fun D hD => lc_tup (K := K) (a := a) (xs := xs) (fun i H2 => Same H H2 ∧ H2 D = some (.lst (((ds.take i).map weighD).map V.bl))) ⟨same_new hD, upd_same⟩ (fun i H2 _ z => Bs.Same.t z.1 sq) ?_ ?_⟩
        · rintro i x H2 hx ⟨s2, hD2⟩
          obtain ⟨d', hd', dd⟩ := dpAll_at all hx
          refine ⟨rfl, ?_⟩
          refine iteT (B := Same H H2 ∧ H2 D = some (.lst (((ds.take (i + 1)).map weighD).map V.bl))) ?_
          refine ⟨_, rfl, x, d', rfl, dps s2 dd, ?_⟩
          refine ⟨_, hD2, ?_, fun b o e => (upd_ne (ne_of_none e hD)).trans (s2 b o e), ?_⟩
          · rw [List.length_map, List.length_map, List.length_take]
            exact small1000 (by omega)
          · rw [upd_same, take_one hd', List.map_append, List.map_append]
            rfl
        rintro H2 ⟨s2, hD2⟩
        rw [l, List.take_length] at hD2
        refine ⟨D, _, rfl, SqL.of hD2, _, rfl, ?_⟩
        have ev : ((ds.map weighD).all id) = ds.all weighD := by rw [List.all_map]; rfl
        rw [ev]
        cases e : ds.all weighD with
        | false =>
          refine iteT (no H2 s2 ?_)
          show (decide (1 ≤ ds.length) && decide (ds.length ≤ 6) && ds.all weighD && _) = false
          rw [e, Bool.and_false]
          rfl
        | true =>
          refine iteF ?_
          obtain ⟨ps, rfl, okp⟩ := weigh_all e
          rw [List.length_map] at l
          have eq : shareD (.tuple (ps.map dPr)) = ascD (ps.map dPr) := by
            show (decide (1 ≤ (ps.map dPr).length) && decide ((ps.map dPr).length ≤ 6) && (ps.map dPr).all weighD && ascD (ps.map dPr)) = _
            rw [List.length_map, decide_eq_true (show 1 ≤ ps.length by omega), decide_eq_true (show ps.length ≤ 6 by omega), e]
            rfl
          rw [eq] at kk
          have dmq : ∀ p ∈ ps, Dm p.1 := fun p hp => by
            have := List.all_eq_true.mp (show (ps.map dPr).all (fun e => dmB (numD e)) = true from sm) (dPr p) (List.mem_map.mpr ⟨p, hp, rfl⟩)
            exact dm_of this
          have lx : 1 ≤ xs.length := by omega
          refine ⟨_, rfl, _, rfl, 1, rfl, a, xs, rfl, Bs.Same.t s2 sq, (fun z => absurd z (not_whole lx)), fun _ b hb => ?_⟩
          rw [cut_tail lx]
          have s3 := same_new (o := .tup xs.tail) hb
          have s23 := s2.trans s3
          have sq3 := Bs.Same.t s23 sq
          refine ⟨a, b, xs, xs.tail, rfl, Or.inr ⟨sq3, SqT.of upd_same, fun D2 hD2' => ?_⟩⟩
          have lt_ : xs.tail.length = xs.length - 1 := List.length_tail
          generalize hb2 : upd H2 b (.tup xs.tail) = H3 at s3 s23 sq3 hD2'
          have sqb : SqT K H3 b xs.tail := by rw [← hb2]; exact SqT.of upd_same
          have all3 := dpAll_same' s23 _ _ all
          have tail3 := dpAll_tail all3
          generalize hbs : List.zipWith (fun x y => lt (numD x) (numD y)) (ps.map dPr) (ps.map dPr).tail = bs at kk
          have lbs : bs.length = xs.length - 1 := by
            rw [← hbs, List.length_zipWith, List.length_tail, List.length_map]
            omega
          refine lc_it (walk_zipT (xs := xs) (ys := xs.tail) (n := xs.length - 1) (by omega)) (fun i H4 => Same H3 H4 ∧ H4 D2 = some (.lst ((bs.take i).map V.bl))) ⟨same_new hD2', upd_same⟩ (fun i H4 _ z => ⟨Bs.Same.t z.1 sq3, Bs.Same.t z.1 sqb⟩) ?_ ?_
          · rintro i x H4 H5 hi ⟨s4, hD4⟩ ⟨T', x', y', rfl, hT, rfl, h1, h2⟩
            have h1' : xs[i]? = some x' := h1
            have h2' : xs.tail[i]? = some y' := h2
            have s5 := same_new (o := .tup [x', y']) hT
            have s45 := s4.trans s5
            obtain ⟨d1, e1, dd1⟩ := dpAll_at all3 h1'
            obtain ⟨d2, e2, dd2⟩ := dpAll_at tail3 h2'
            have eb : bs[i]? = some (lt (numD d1) (numD d2)) := by
              rw [← hbs, List.getElem?_zipWith_eq_some]
              exact ⟨d1, d2, e1, e2, rfl⟩
            obtain ⟨p1, g1, rfl⟩ := map_some e1
            rw [← List.map_tail] at e2
            obtain ⟨p2, g2, rfl⟩ := map_some e2
            obtain ⟨a1, u1, w1, rfl, sq1, f1, _⟩ := prOf (dps s45 dd1)
            obtain ⟨a2, u2, w2, rfl, sq2, f2, _⟩ := prOf (dps s45 dd2)
            refine ⟨T', _, rfl, SqT.of upd_same, rfl, _, _, rfl, _, _, rfl, rfl, rfl, ?_⟩
            refine iteT (B := Same H3 (upd H4 T' (.tup [.ref a1, .ref a2])) ∧ upd H4 T' (.tup [.ref a1, .ref a2]) D2 = some (.lst ((bs.take (i + 1)).map V.bl))) ?_
            refine ⟨_, rfl, a1, _, 0, _, rfl, rfl, sq1, rfl, _, rfl, a2, _, 0, _, rfl, rfl, sq2, rfl, u1, u2, p1.1, p2.1, rfl, f1, f2, ⟨dmq p1 (List.mem_of_getElem? g1), dmq p2 (List.mem_of_mem_tail (List.mem_of_getElem? g2))⟩, ?_⟩
            refine ⟨_, s5 _ _ hD4, ?_, fun c o z => (upd_ne (ne_of_none z hD2')).trans (s45 c o z), ?_⟩
            · rw [List.length_map, List.length_take]
              exact small1000 (by omega)
            · rw [upd_same, take_one eb, List.map_append]
              rfl
          · rintro H4 ⟨s4, hD4⟩
            rw [← lbs, List.take_length] at hD4
            refine ⟨D2, bs, rfl, SqL.of hD4, ?_⟩
            have := kk H4 (s23.trans s4)
            unfold ascD at this
            rw [hbs] at this
            exact this
    | none => exact iteT (no H sr rfl)
    | bool b => exact iteT (no H sr rfl)
    | int i => exact iteT (no H sr rfl)
    | str x => exact iteT (no H sr rfl)
    | list xs => exact iteT (no H sr rfl)
    | dict xs => exact iteT (no H sr rfl)
theorem scNeedSh : FnScope ["thing"] ["thing"] (defScope sNeedSh) := ⟨rfl, rfl, rfl, by decide +kernel, rfl, by decide +kernel, by decide +kernel⟩
theorem ok_needSh (F : Fun K "need_share" "need_share" sNeedSh f fd) (T : ErrOkW P w K mg base "BadShare" "given" CS) (W : Cal P w K mg base 5 "is_share" (spIsSh K)) : FnOk P w K mg base (L2.CX P w) 6 f fd ["thing"] (spNeedSh K CS) := by
  refine F.okX scNeedSh (fun vs H Q E h => ?_) (fun cdv A outer s H vs Q E hr h => ?_)
  · obtain ⟨v, d, rfl, _⟩ := h
    rfl
  · obtain ⟨v, d, rfl, hd, sm, k1, k2⟩ := h
    refine ⟨_, pss_cons (ps_if (pt_not (pt_val (pe_n W hr (by decide) (by rfl) (pa_cons (pv 0) pa_nil)))) (pss_one (ps_rzW rfl T hr (by decide) (takes_of rfl rfl rfl rfl) (pv 0) (by rfl))) pss_nil) (pss_one (ps_ret (pv 0))), ?_⟩
    refine ⟨_, rfl, v, d, rfl, hd, sm, fun H' s => ⟨_, rfl, ?_⟩⟩
    cases e : shareD d with
    | true => exact iteF ⟨_, rfl, k1 e H' s⟩
    | false => exact iteT ⟨_, rfl, k2 e H' s⟩
end
end Rs


set_option Elab.async false
set_option linter.all false
set_option maxRecDepth 100000
set_option maxHeartbeats 400000
namespace Rs
open PySem L2 Bs Fq LamX RZ
theorem dm_db {D : Int} {n : Nat} {q : F} (h : Db D n q) (p : 0 < D) (l : D < 32768) (m : n ≤ 2000) : Dm q := ⟨Lt2.mono (m := n) h.a m, h.ok.1, by have := h.le p; omega⟩
theorem db_s3 {q : F} (h : S3 q) : Db 6 4 q := ⟨h.ok, h.d6, h.a⟩
theorem zw_get {qs rs : List F} {i : Nat} {q r : F} (h1 : qs[i]? = some q) (h2 : rs[i]? = some r) : (List.zipWith mul qs rs)[i]? = some (mul q r) := by
  rw [List.getElem?_zipWith_eq_some]
  exact ⟨q, r, h1, h2, rfl⟩
abbrev sPaired : Stmt := top 8
abbrev sRowSum : Stmt := top 9
abbrev sMomOf : Stmt := top 35
def spPaired (K : PySem.W.Frag) : Sp := fun vs H Q _ => ∃ (x y : V) (qs rs : List F), vs = [x, y] ∧ Po K H x qs ∧ Po K H y rs ∧ (∀ q ∈ qs, Db 6 4 q) ∧ (∀ r ∈ rs, Db 512 130 r) ∧ qs.length ≤ 9 ∧ ∀ H' u, Same H H' → Fr K H' u (sumBy qs rs) → Q u H'
def spRowSum (K : PySem.W.Frag) : Sp := fun vs H Q _ => ∃ (x y : V) (qs rs : List F), vs = [x, y, .int 0] ∧ Po K H x rs ∧ Po K H y qs ∧ (∀ q ∈ qs, Db 6 4 q) ∧ (∀ r ∈ rs, Db 512 130 r) ∧ qs.length ≤ 9 ∧ ∀ H' u, Same H H' → Fr K H' u (sumBy qs rs) → Q u H'
/-- a share -/
def Shr (K : PySem.W.Frag) (H : Hp) (v : V) (ps : List Pr) : Prop := Dp K H v (dSh ps)
theorem Shr.mono {K : PySem.W.Frag} {H H' : Hp} {v : V} {ps : List Pr} (e : Same H H') (h : Shr K H v ps) : Shr K H' v ps := dps e h
theorem Shr.open {K : PySem.W.Frag} {H : Hp} {v : V} {ps : List Pr} (h : Shr K H v ps) : ∃ a xs, v = .ref a ∧ SqT K H a xs ∧ DpAll K H xs (ps.map dPr) := by
  cases h with
  | tup sq all => exact ⟨_, _, rfl, sq, all⟩
def spMomOf (K : PySem.W.Frag) : Sp := fun vs H Q _ => ∃ (v : V) (ps : List Pr) (k : Nat), vs = [v, .int k] ∧ Shr K H v ps ∧ (∀ p ∈ ps, Sp2 p) ∧ ps.length ≤ 6 ∧ k ≤ 8 ∧ ∀ H' u, Same H H' → Fr K H' u (mom ps k) → Q u H'
section
variable {P : Program} {w : World} {K : PySem.W.Frag} {mg : Str → Option Value} {base : Heap} {f : Addr} {fd : FuncData} {CR CS CN : Addr}
theorem scPaired : FnScope ["some", "others", "whole", "one", "other"] ["some", "others"] (defScope sPaired) := ⟨rfl, rfl, rfl, by decide +kernel, rfl, by decide +kernel, by decide +kernel⟩
theorem ok_paired (F : Fun K "paired_sum" "paired_sum" sPaired f fd) (Z : Nou K mg) (zp : mg "zip" = none) (Ad : Cal P w K mg base 2 "added" (spOp K add dom2)) (Ti : Cal P w K mg base 2 "timed" (spOp K mul dom2)) : FnOk P w K mg base CX0 3 f fd ["some", "others"] (spPaired K) := by
  refine F.ok scPaired (fun vs H Q E h => ?_) (fun cdv A outer s H vs Q E hr h => ?_)
  · obtain ⟨x, y, qs, rs, rfl, _⟩ := h
    rfl
  · obtain ⟨x, y, qs, rs, rfl, ⟨a, xs, rfl, sx, fx⟩, ⟨b, ys, rfl, sy, fy⟩, hq, hrs, lq, kk⟩ := h
    obtain ⟨z, mz, sz⟩ := Z.ex
    have lx := fx.len
    have ly := fy.len
    refine ⟨_, pss_cons (ps_set (i := 2) scPaired.nd rfl (Or.inl rfl) (pe_glob (v := .ref z) (by rfl) mz rfl))
      (pss_cons (ps_for PassesOwn.never rfl (pi_zipA (by rfl) zp (pa_cons (pv 0) (pa_cons (pv 1) pa_nil))) (pg_tup rfl (pgs_cons (pg_name (i := 3) scPaired.nd rfl (.inl rfl)) (pgs_cons (pg_name (i := 4) scPaired.nd rfl (.inl rfl)) pgs_nil)))
        (pss_one (ps_set (i := 2) scPaired.nd rfl (Or.inl rfl) (pe_n Ad hr (by decide) (by rfl) (pa_cons (pv 2) (pa_cons (pe_n Ti hr (by decide) (by rfl) (pa_cons (pv 3) (pa_cons (pv 4) pa_nil))) pa_nil))))))
      (pss_one (ps_ret (pv 2)))), ?_⟩
    refine ⟨_, rfl, _, rfl, a, b, xs, ys, rfl, Or.inr ⟨sx, sy, ?_⟩⟩
    have zw := zw_db hq hrs
    refine for_it (walk_zipT (xs := xs) (ys := ys) (n := min xs.length ys.length) rfl) (fun i σ H1 => Same H H1 ∧ ∃ u v3 v4, Fr K H1 u (sumF (0, 1) ((List.zipWith mul qs rs).take i)) ∧ σ = [some (V.ref a), some (V.ref b), some u, v3, v4])
      ⟨fun _ _ z => z, .ref z, none, none, ⟨z, rfl, sz H⟩, rfl⟩ (fun i σ H1 _ p => ⟨Bs.Same.t p.1 sx, Bs.Same.t p.1 sy⟩) ?_ ?_
    · rintro i x σ H1 H2 hi ⟨s1, u, v3, v4, fu, rfl⟩ ⟨T, x', y', rfl, hT, rfl, h1, h2⟩
      have h1' : xs[i]? = some x' := h1
      have h2' : ys[i]? = some y' := h2
      have s2 := same_new (o := .tup [x', y']) hT
      have s12 := s1.trans s2
      obtain ⟨x1, q, e1, e2, fq⟩ := fx.get (i := i) (by omega)
      obtain ⟨y1, r, e3, e4, fr_⟩ := fy.get (i := i) (by omega)
      rw [h1'] at e1
      cases e1
      rw [h2'] at e3
      cases e3
      have et := zw_get e2 e4
      have dbm := zw _ (List.mem_of_getElem? et)
      have sdb := sumF_db (D := 6 * 512) (by decide) (by decide) (l := (List.zipWith mul qs rs).take i) (n := 134) (m := 134) (z := (0, 1)) (fun q h => zw q (List.mem_of_mem_take h)) (Db.zero.mono (by decide)) (Nat.le_refl _)
      have lt_ : ((List.zipWith mul qs rs).take i).length ≤ 9 := by
        rw [List.length_take, List.length_zipWith]
        omega
      refine ⟨T, _, rfl, SqT.of upd_same, rfl, _, _, rfl, _, _, rfl, rfl, ?_⟩
      refine ⟨_, rfl, _, rfl, _, rfl, x', y', q, r, rfl, fq.mono s12, fr_.mono s12, ⟨dm_db (hq q (List.mem_of_getElem? e2)) (by decide) (by decide) (by decide), dm_db (hrs r (List.mem_of_getElem? e4)) (by decide) (by decide) (by decide)⟩, fun p1 hp1 => ?_⟩
      have s3 := same_new (o := fr (mul q r)) hp1
      refine ⟨u, .ref p1, _, mul q r, rfl, (fu.mono s2).mono s3, Fr.of upd_same, ⟨dm_db sdb (by decide) (by decide) (by omega), dm_db dbm (by decide) (by decide) (by decide)⟩, fun p2 hp2 => ?_⟩
      have s4 := same_new (o := fr (add (sumF (0, 1) ((List.zipWith mul qs rs).take i)) (mul q r))) hp2
      refine ⟨(s12.trans s3).trans s4, .ref p2, some x', some y', ?_, rfl⟩
      rw [take_one et, sumF_snoc]
      exact Fr.of upd_same
    · rintro σ H1 ⟨s1, u, v3, v4, fu, rfl⟩
      rw [List.take_of_length_le (by rw [List.length_zipWith, lx, ly]; exact Nat.le_refl _)] at fu
      exact ⟨_, rfl, kk H1 u s1 fu⟩
theorem scRowSum : FnScope ["row", "poly", "shift"] ["row", "poly", "shift"] (defScope sRowSum) := ⟨rfl, rfl, rfl, by decide +kernel, rfl, by decide +kernel, by decide +kernel⟩
theorem ok_rowsum (F : FunD K "row_sum" "row_sum" (defArgs sRowSum) (defBody sRowSum) (defScope sRowSum) [.int 0] [] f fd) (PS_ : Cal P w K mg base 3 "paired_sum" (spPaired K)) : FnOk P w K mg base CX0 4 f fd ["row", "poly", "shift"] (spRowSum K) := by
  refine F.ok scRowSum (fun vs H Q E h => ?_) (fun cdv A outer s H vs Q E hr h => ?_)
  · obtain ⟨x, y, qs, rs, rfl, _⟩ := h
    rfl
  · obtain ⟨x, y, qs, rs, rfl, px, py, hq, hrs, lq, kk⟩ := h
    obtain ⟨a, xs, rfl, sx, fx⟩ := id px
    refine ⟨_, pss_one (ps_ret (pe_n PS_ hr (by decide) (by rfl) (pa_cons (pv 1) (pa_cons (pe_slice sl_tupA (pv 0) (po_some (pv 2)) po_none) pa_nil)))), ?_⟩
    refine ⟨_, rfl, _, rfl, _, rfl, 0, rfl, a, xs, rfl, sx, (fun _ => ⟨y, .ref a, qs, rs, rfl, py, px, hq, hrs, lq, kk⟩), fun z => absurd ⟨?_, rfl⟩ z⟩
    simp [HT.sIx]
theorem scMomOf : FnScope ["share", "number", "whole", "place", "weight"] ["share", "number"] (defScope sMomOf) := ⟨rfl, rfl, rfl, by decide +kernel, rfl, by decide +kernel, by decide +kernel⟩
theorem ok_momOf (F : Fun K "moment_of" "moment_of" sMomOf f fd) (Z : Nou K mg) (Ad : Cal P w K mg base 2 "added" (spOp K add dom2)) (Ti : Cal P w K mg base 2 "timed" (spOp K mul dom2)) (Ra : Cal P w K mg base 1 "raised" (spRaised K)) : FnOk P w K mg base CX0 3 f fd ["share", "number"] (spMomOf K) := by
  refine F.ok scMomOf (fun vs H Q E h => ?_) (fun cdv A outer s H vs Q E hr h => ?_)
  · obtain ⟨v, ps, k, rfl, _⟩ := h
    rfl
  · obtain ⟨v, ps, k, rfl, hs, sp2, lp, lk, kk⟩ := h
    obtain ⟨z, mz, sz⟩ := Z.ex
    obtain ⟨a, xs, rfl, sx, all⟩ := hs.open
    have l := dpAll_len all
    rw [List.length_map] at l
    refine ⟨_, pss_cons (ps_set (i := 2) scMomOf.nd rfl (Or.inl rfl) (pe_glob (v := .ref z) (by rfl) mz rfl))
      (pss_cons (ps_for PassesOwn.never rfl (pi_tup (pv 0)) (pg_tup rfl (pgs_cons (pg_name (i := 3) scMomOf.nd rfl (.inl rfl)) (pgs_cons (pg_name (i := 4) scMomOf.nd rfl (.inl rfl)) pgs_nil)))
        (pss_one (ps_set (i := 2) scMomOf.nd rfl (Or.inl rfl) (pe_n Ad hr (by decide) (by rfl) (pa_cons (pv 2) (pa_cons (pe_n Ti hr (by decide) (by rfl) (pa_cons (pv 4) (pa_cons (pe_n Ra hr (by decide) (by rfl) (pa_cons (pv 3) (pa_cons (pv 1) pa_nil))) pa_nil))) pa_nil))))))
      (pss_one (ps_ret (pv 2)))), ?_⟩
    have tm := terms_db sp2 lk
    refine ⟨_, rfl, a, rfl, ⟨_, sx⟩, for_tup (xs := xs) (fun i σ H1 => Same H H1 ∧ ∃ u v3 v4, Fr K H1 u (sumF (0, 1) ((ps.map fun p => mul p.2 (pw p.1 k)).take i)) ∧ σ = [some (V.ref a), some (V.int k), some u, v3, v4])
      ⟨fun _ _ z => z, .ref z, none, none, ⟨z, rfl, sz H⟩, rfl⟩ (fun i σ H1 _ p => Bs.Same.t p.1 sx) ?_ ?_⟩
    · rintro i x σ H1 hx ⟨s1, u, v3, v4, fu, rfl⟩
      obtain ⟨d, ed, dx⟩ := dpAll_at all hx
      obtain ⟨p, ep, rfl⟩ := map_some ed
      obtain ⟨b, u1, u2, rfl, sb, f1, f2⟩ := prOf (dps s1 dx)
      have hp := sp2 p (List.mem_of_getElem? ep)
      have et : (ps.map fun p => mul p.2 (pw p.1 k))[i]? = some (mul p.2 (pw p.1 k)) := by rw [List.getElem?_map, ep]; rfl
      have sdb := sumF_db (D := 512) (by decide) (by decide) (l := (ps.map fun p => mul p.2 (pw p.1 k)).take i) (n := 28) (m := 28) (z := (0, 1)) (fun q h => tm q (List.mem_of_mem_take h)) (Db.zero.mono (by decide)) (Nat.le_refl _)
      have lt_ : ((ps.map fun p => mul p.2 (pw p.1 k)).take i).length ≤ 6 := by
        rw [List.length_take, List.length_map]
        omega
      refine ⟨b, _, rfl, sb, rfl, _, _, rfl, _, _, rfl, rfl, ?_⟩
      have hb2 := Int.le_of_dvd (by decide) hp.b1
      have ho := hp.o1.1
      refine ⟨_, rfl, _, rfl, _, rfl, _, rfl, u1, p.1, k, rfl, f1, Lt2.mono (m := 3) hp.a1 (by decide), Lt2.mono (m := 2) (by show p.1.2.natAbs < 4; omega) (by decide), by omega, by omega, fun p1 hp1 => ?_⟩
      have s2 := same_new (o := fr (pw p.1 (k : Int).toNat)) hp1
      refine ⟨u2, .ref p1, p.2, pw p.1 k, rfl, f2.mono s2, Fr.of upd_same, ⟨dm_db (D := 2) (n := 4) ⟨hp.o2, hp.b2, hp.a2⟩ (by decide) (by decide) (by decide), dm_db (pw_db hp lk) (by decide) (by decide) (by decide)⟩, fun p2 hp2 => ?_⟩
      have s3 := same_new (o := fr (mul p.2 (pw p.1 k))) hp2
      refine ⟨u, .ref p2, _, _, rfl, (fu.mono s2).mono s3, Fr.of upd_same, ⟨dm_db sdb (by decide) (by decide) (by omega), dm_db (term_db hp lk) (by decide) (by decide) (by decide)⟩, fun p3 hp3 => ?_⟩
      have s4 := same_new (o := fr (add (sumF (0, 1) ((ps.map fun p => mul p.2 (pw p.1 k)).take i)) (mul p.2 (pw p.1 k)))) hp3
      refine ⟨((s1.trans s2).trans s3).trans s4, .ref p3, some u1, some u2, ?_, rfl⟩
      rw [take_one et, sumF_snoc]
      exact Fr.of upd_same
    · rintro σ H1 ⟨s1, u, v3, v4, fu, rfl⟩
      rw [List.take_of_length_le (by rw [List.length_map]; omega)] at fu
      exact ⟨_, rfl, kk H1 u s1 fu⟩
end
end Rs


set_option Elab.async false
set_option linter.all false
set_option maxRecDepth 100000
set_option maxHeartbeats 400000
namespace Rs
open PySem L2 Bs Fq LamX RZ
abbrev sMoments : Stmt := top 36
abbrev sSumBy : Stmt := top 37
abbrev sFromN : Stmt := top 38
abbrev sMixedR : Stmt := top 39
def lenD : PyData → Nat
  | .tuple ds => ds.length
  | _ => 0
def polyLe (dx dy : PyData) : Bool := polyD dy && decide (lenD dy ≤ lenD dx)
def sameRow (dx dy : PyData) : Bool := rowD dy && decide (lenD dy = lenD dx)
def nn0 : PyData → Bool
  | .tuple (.int a :: _) => !decide (a < 0)
  | _ => false
def fromD (d : PyData) : Bool := fracD d && nn0 d
def zero2 (da db : PyData) : Bool := PyData.eqv db (dF (0, 1)) && PyData.eqv da (dF (0, 1))
def mixs (q r : F) (qs rs : List F) : List F := List.zipWith (mixF q r) qs rs
/-- structural data of a share that is one -/
theorem shareD_true {d : PyData} (h : shareD d = true) : ∃ ps : List Pr, d = dSh ps ∧ ps ≠ [] ∧ ps.length ≤ 6 := by
  unfold shareD at h
  split at h
  · rename_i ds
    rw [Bool.and_eq_true, Bool.and_eq_true, Bool.and_eq_true, decide_eq_true_eq, decide_eq_true_eq] at h
    obtain ⟨ps, rfl, _⟩ := weigh_all h.1.2
    rw [List.length_map] at h
    exact ⟨ps, rfl, fun z => by rw [z] at h; simp at h, h.1.1.2⟩
  · cases h
theorem rowD_true {d : PyData} (h : rowD d = true) : ∃ qs : List F, d = dP qs ∧ (∀ q ∈ qs, Fq.Ok q) ∧ qs.length ≤ 9 := by
  rw [rowD, Bool.and_eq_true] at h
  obtain ⟨qs, rfl, o, l⟩ := fracsD_true h.1
  exact ⟨qs, rfl, o, by omega⟩
def spMoments (K : PySem.W.Frag) (CS CN : Addr) : Sp := fun vs H Q E => ∃ (v t : V) (dv dt : PyData), vs = [v, t] ∧ Dp K H v dv ∧ Dp K H t dt ∧ smD dv = true ∧ (shareD dv = false → ∀ H', Same H H' → OutW E CS "given" v H') ∧
  (shareD dv = true → betwD 0 8 dt = false → ∀ H', Same H H' → OutW E CN "given" t H') ∧
  (∀ ps k, dv = dSh ps → dt = .int k → shareD dv = true → 0 ≤ k → k ≤ 8 → (∀ p ∈ ps, Sp2 p) ∧ ∀ H' p, Same H H' → Po K H' (.ref p) (moms ps k.toNat) → Q (.ref p) H')
def spSumBy (K : PySem.W.Frag) (CR CP : Addr) : Sp := fun vs H Q E => ∃ (x y : V) (dx dy : PyData), vs = [x, y] ∧ Dp K H x dx ∧ Dp K H y dy ∧ (rowD dx = false → ∀ H', Same H H' → OutW E CR "given" x H') ∧
  (rowD dx = true → polyLe dx dy = false → ∀ H', Same H H' → OutW E CP "given" y H') ∧
  (∀ rs qs, dx = dP rs → dy = dP qs → rowD dx = true → polyLe dx dy = true → (∀ q ∈ qs, Db 6 4 q) ∧ (∀ r ∈ rs, Db 512 130 r) ∧ ∀ H' u, Same H H' → Fr K H' u (sumBy qs rs) → Q u H')
def spFromN (K : PySem.W.Frag) (CF : Addr) : Sp := fun vs H Q E => ∃ (v : V) (d : PyData), vs = [v] ∧ Dp K H v d ∧ (fromD d = true → Q v H) ∧ (fromD d = false → Out E CF v H)
def spMixed2 (K : PySem.W.Frag) (CR CF : Addr) : Sp := fun vs H Q E => ∃ (x y a b : V) (dx dy da db : PyData), vs = [x, y, a, b] ∧ Dp K H x dx ∧ Dp K H y dy ∧ Dp K H a da ∧ Dp K H b db ∧ (rowD dx = false → ∀ H', Same H H' → OutW E CR "given" x H') ∧
  (rowD dx = true → sameRow dx dy = false → ∀ H', Same H H' → OutW E CR "given" y H') ∧
  (rowD dx = true → sameRow dx dy = true → fromD da = false → ∀ H', Same H H' → Out E CF a H') ∧
  (rowD dx = true → sameRow dx dy = true → fromD da = true → fromD db = false → ∀ H', Same H H' → Out E CF b H') ∧
  (rowD dx = true → sameRow dx dy = true → fromD da = true → fromD db = true → zero2 da db = true → ∀ H', Same H H' → Out E CF b H') ∧
  (∀ qs rs q r, dx = dP qs → dy = dP rs → da = dF q → db = dF r → rowD dx = true → sameRow dx dy = true → fromD da = true → fromD db = true → zero2 da db = false →
    Db 6 4 q ∧ Db 6 4 r ∧ (∀ q ∈ qs, Db 512 130 q) ∧ (∀ r ∈ rs, Db 512 130 r) ∧ ∀ H' p, Same H H' → Po K H' (.ref p) (mixs q r qs rs) → Q (.ref p) H')
section
variable {P : Program} {w : World} {K : PySem.W.Frag} {mg : Str → Option Value} {base : Heap} {f : Addr} {fd : FuncData} {CR CS CN CP CF : Addr}
theorem scMoments : FnScope ["share", "top", "number"] ["share", "top"] (defScope sMoments) := ⟨rfl, rfl, rfl, by decide +kernel, rfl, by decide +kernel, by decide +kernel⟩
theorem ok_moments (F : Fun K "moments" "moments" sMoments f fd) (T : Blt mg) (M : Mosts mg) (NS : CalX P w K mg base 6 "need_share" (spNeedSh K CS)) (NB : CalX P w K mg base 3 "need_between" (spNeedB K CN)) (MO : Cal P w K mg base 3 "moment_of" (spMomOf K)) :
    FnOk P w K mg base (L2.CX P w) 7 f fd ["share", "top"] (spMoments K CS CN) := by
  refine F.okX scMoments (fun vs H Q E h => ?_) (fun cdv A outer s H vs Q E hr h => ?_)
  · obtain ⟨v, t, dv, dt, rfl, _⟩ := h
    rfl
  · obtain ⟨v, t, dv, dt, rfl, hv, ht, sm, k1, k2, k3⟩ := h
    obtain ⟨t9, mt⟩ := M.m9
    refine ⟨_, pss_cons (ps_expr (pe_x (E := E) NS hr (by decide) (by rfl) (passes_call (takes_of rfl rfl rfl rfl) (fun _ _ _ _ h => h)) (pa_cons (pv 0) pa_nil)))
      (pss_cons (ps_expr (pe_x (E := E) NB hr (by decide) (by rfl) (passes_call (takes_of rfl rfl rfl rfl) (fun _ _ _ _ h => h)) (pa_cons (pv 1) (pa_cons pe_int (pa_cons (pe_op op_sub (pe_glob (v := .int 9) (by rfl) mt ⟨t9, rfl⟩) pe_int) pa_nil)))))
      (pss_one (ps_ret (pe_callTy call_tuple_of (by rfl) T.tuple (by decide +kernel) (pa_cons (pe_lc (own := [("number", 2)]) (g := gName 2) (tt := tYes) rfl scMoments.nd (pi_range1 rfl T.range (pa_cons (pe_op op_add (pv 1) pe_int) pa_nil)) (blkOk_by (N := ["share", "top", "number"]) (sc := defScope sMoments) (by decide +kernel))
          (fun _ _ _ _ _ => pg_name (i := 2) scMoments.nd rfl (Or.inl rfl)) (fun _ _ _ _ _ => pts_nil)
          (fun _ _ _ _ _ => pe_n MO hr (by decide) (by rfl) (pa_cons (pv 0) (pa_cons (pv 2) pa_nil)))) pa_nil))))), ?_⟩
    refine ⟨_, rfl, v, dv, rfl, hv, sm, fun e1 H1 s1 => ?_, fun e1 H1 s1 => k1 e1 H1 s1⟩
    refine ⟨_, rfl, _, _, rfl, rfl, t, dt, 0, 8, rfl, dps s1 ht, fun e2 => ?_, fun e2 => k2 e1 e2 H1 s1⟩
    have hk : ∃ k : Int, dt = .int k ∧ 0 ≤ k ∧ k ≤ 8 := by
      cases dt <;> simp [betwD] at e2
      rename_i i
      exact ⟨i, rfl, e2.1, e2.2⟩
    obtain ⟨k, rfl, c0, c8⟩ := hk
    obtain ⟨ps, rfl, _, lp⟩ := shareD_true e1
    obtain ⟨sp2, kk⟩ := k3 ps k rfl rfl e1 c0 c8
    cases ht
    have hv1 : Shr K H1 v ps := dps s1 hv
    refine ⟨_, rfl, _, _, rfl, rfl, _, rfl, by omega, by omega, fun D hD => ?_⟩
    have et : (k + 1).toNat = k.toNat + 1 := by omega
    refine lc_range (n := (k + 1).toNat) (fun i H2 => ∃ acc, H2 D = some (.lst acc) ∧ FrAll K H2 acc ((List.range i).map (mom ps)) ∧ Same H1 H2) ⟨[], upd_same, .nil, same_new hD⟩ ?_ ?_
    · rintro i H2 hi ⟨acc, hD2, fa, s2⟩
      have la : acc.length = i := by rw [fa.len, List.length_map, List.length_range]
      refine ⟨rfl, ?_⟩
      refine iteT (B := ∃ acc, H2 D = some (.lst acc) ∧ FrAll K H2 acc ((List.range (i + 1)).map (mom ps)) ∧ Same H1 H2) ?_
      refine ⟨_, rfl, _, rfl, v, ps, i, (by rw [Int.zero_add]; rfl), hv1.mono s2, sp2, lp, by omega, fun H3 u s3 fu => ?_⟩
      refine ⟨acc, s3 _ _ hD2, small1000 (by omega), acc ++ [u], upd_same, ?_, fun c o e => (upd_ne (ne_of_none e hD)).trans (s3 c o (s2 c o e))⟩
      rw [List.range_succ, List.map_append]
      exact (FrAll.off (s3 _ _ hD2) (fa.mono s3)).snoc (fu.off (s3 _ _ hD2))
    · rintro H2 ⟨acc, hD2, fa, s2⟩
      refine ⟨D, acc, rfl, Or.inl ⟨SqL.of hD2, fun p hp => ?_⟩⟩
      have s3 := same_new (o := .tup acc) hp
      refine kk _ p ((s1.trans s2).trans s3) ⟨p, acc, rfl, SqT.of upd_same, ?_⟩
      rw [et] at fa
      exact fa.mono s3
theorem scSumBy : FnScope ["row", "poly"] ["row", "poly"] (defScope sSumBy) := ⟨rfl, rfl, rfl, by decide +kernel, rfl, by decide +kernel, by decide +kernel⟩
theorem ok_sumBy (F : Fun K "sum_by" "sum_by" sSumBy f fd) (T : Blt mg) (NR : CalX P w K mg base 5 "need_row" (spNeedRow K CR)) (EP : ErrOkW P w K mg base "BadPoly" "given" CP) (IP : Cal P w K mg base 4 "is_poly" (spIsPoly K)) (RS : C8.Cal P w K mg base 4 "row_sum" (spRowSum K) [.int 0]) :
    FnOk P w K mg base (L2.CX P w) 6 f fd ["row", "poly"] (spSumBy K CR CP) := by
  refine F.okX scSumBy (fun vs H Q E h => ?_) (fun cdv A outer s H vs Q E hr h => ?_)
  · obtain ⟨x, y, dx, dy, rfl, _⟩ := h
    rfl
  · obtain ⟨x, y, dx, dy, rfl, hx, hy, k1, k2, k3⟩ := h
    refine ⟨_, pss_cons (ps_expr (pe_x (E := E) NR hr (by decide) (by rfl) (passes_call (takes_of rfl rfl rfl rfl) (fun _ _ _ _ h => h)) (pa_cons (pv 0) pa_nil)))
      (pss_cons (ps_if (PW.pt (pw_or (pt_not (pt_val (pe_n IP hr (by decide) (by rfl) (pa_cons (pv 1) pa_nil)))) (pw_or1 (pt_cmpR op_gt (pe_callB call_len_seq (by rfl) T.len (by decide +kernel) (pa_cons (pv 1) pa_nil)) (pe_callB call_len_seq (by rfl) T.len (by decide +kernel) (pa_cons (pv 0) pa_nil)) (nomark _)))))
          (pss_one (ps_rzW rfl EP hr (by decide) (takes_of rfl rfl rfl rfl) (pv 1) (by rfl))) pss_nil)
      (pss_one (ps_ret (C8.pe_c RS hr (by decide) (by rfl) (pa_cons (pv 0) (pa_cons (pv 1) pa_nil)))))), ?_⟩
    refine ⟨_, rfl, x, dx, rfl, hx, fun e1 H1 s1 => ?_, fun e1 H1 s1 => k1 e1 H1 s1⟩
    refine ⟨_, rfl, y, dy, rfl, dps s1 hy, fun H2 s2 => ⟨_, rfl, ?_⟩⟩
    have s12 := s1.trans s2
    obtain ⟨rs, rfl, _, lr⟩ := rowD_true e1
    cases e2 : polyD dy with
    | false =>
      refine iteT ⟨_, rfl, k2 e1 ?_ H2 s12⟩
      rw [polyLe, e2]
      rfl
    | true =>
      refine iteF ?_
      obtain ⟨qs, rfl, _, lq, _⟩ := polyD_true e2
      obtain ⟨a, xs, rfl, sx, fx⟩ := (dp_po hx).mono s12
      obtain ⟨b, ys, rfl, sy, fy⟩ := (dp_po hy).mono s12
      have lx := fx.len
      have ly := fy.len
      have ed : polyLe (dP rs) (dP qs) = decide (qs.length ≤ rs.length) := by
        rw [polyLe, e2]
        show (true && decide ((qs.map dF).length ≤ (rs.map dF).length)) = _
        rw [List.length_map, List.length_map, Bool.true_and]
      refine ⟨_, rfl, b, ys, rfl, Or.inr sy, _, rfl, a, xs, rfl, Or.inr sx, _, _, rfl, rfl, _, rfl, ?_⟩
      refine ite2 (fun c => ?_) (fun c => ?_)
      · have c1 : (ys.length : Int) > (xs.length : Int) := of_decide_eq_true c
        exact ⟨_, rfl, k2 e1 (by rw [ed]; exact decide_eq_false (by omega)) H2 s12⟩
      · have c1 : ¬ (ys.length : Int) > (xs.length : Int) := fun z => c (decide_eq_true z)
        obtain ⟨d1, d2, kk⟩ := k3 rs qs rfl rfl e1 (by rw [ed]; exact decide_eq_true (by omega))
        exact ⟨_, rfl, _, rfl, _, _, qs, rs, rfl, ⟨a, xs, rfl, sx, fx⟩, ⟨b, ys, rfl, sy, fy⟩, d1, d2, by omega, fun H3 u s3 fu => kk H3 u (s12.trans s3) fu⟩
theorem scFromN : FnScope ["thing"] ["thing"] (defScope sFromN) := ⟨rfl, rfl, rfl, by decide +kernel, rfl, by decide +kernel, by decide +kernel⟩
theorem ok_fromN (F : Fun K "need_from_nought" "need_from_nought" sFromN f fd) (EF : ErrOk P w K mg base "BadFraction" CF) (FR : Cal P w K mg base 2 "is_fraction" (spFraction K)) : FnOk P w K mg base (L2.CX P w) 3 f fd ["thing"] (spFromN K CF) := by
  refine F.okX scFromN (fun vs H Q E h => ?_) (fun cdv A outer s H vs Q E hr h => ?_)
  · obtain ⟨v, d, rfl, _⟩ := h
    rfl
  · obtain ⟨v, d, rfl, hd, k1, k2⟩ := h
    refine ⟨_, pss_cons (ps_if (PW.pt (pw_or (pt_not (pt_val (pe_n FR hr (by decide) (by rfl) (pa_cons (pv 0) pa_nil)))) (pw_or1 (pt_cmpR op_lt (pe_ix ix_tup (pv 0) pe_int (fun _ _ => rfl)) pe_int (nomark _)))))
        (pss_one (ps_rz rfl EF hr (by decide) (takes_of rfl rfl rfl rfl) (pv 0) (by rfl))) pss_nil) (pss_one (ps_ret (pv 0))), ?_⟩
    refine ⟨_, rfl, v, d, rfl, hd, _, rfl, ?_⟩
    unfold fromD at k1 k2
    cases e : fracD d with
    | false =>
      rw [e] at k2
      exact iteT ⟨_, rfl, k2 rfl⟩
    | true =>
      refine iteF ?_
      rw [e] at k1 k2
      obtain ⟨q, rfl, o⟩ := fracD_true e
      obtain ⟨a, rfl, sq⟩ := dp_fr hd
      refine ⟨_, rfl, a, _, 0, _, rfl, rfl, sq, rfl, _, _, rfl, rfl, _, rfl, ?_⟩
      have en : nn0 (dF q) = !decide (q.1 < 0) := rfl
      refine ite2 (fun c => ?_) (fun c => ?_)
      · exact ⟨_, rfl, k2 (by rw [en, c]; rfl)⟩
      · exact ⟨_, rfl, k1 (by rw [en, Bool.eq_false_iff.mpr c]; rfl)⟩
end
end Rs


set_option Elab.async false
set_option linter.all false
set_option maxRecDepth 100000
set_option maxHeartbeats 400000
namespace Rs
open PySem L2 Bs Fq LamX RZ
theorem mixs_get {a b : F} {qs rs : List F} {i : Nat} {q r : F} (h1 : qs[i]? = some q) (h2 : rs[i]? = some r) : (mixs a b qs rs)[i]? = some (mixF a b q r) := by
  unfold mixs
  rw [List.getElem?_zipWith_eq_some]
  exact ⟨q, r, h1, h2, rfl⟩
theorem shaped_dF (q : F) : SeqAt.shaped (dF q) = true := by
  simp [SeqAt.shaped, dF, PyData.canLay0, PyData.canLayAll0, PyData.depth, PyData.depthAll]
theorem fromD_true {d : PyData} (h : fromD d = true) : ∃ q : F, d = dF q ∧ Fq.Ok q := by
  rw [fromD, Bool.and_eq_true] at h
  exact fracD_true h.1
section
variable {P : Program} {w : World} {K : PySem.W.Frag} {mg : Str → Option Value} {base : Heap} {f : Addr} {fd : FuncData} {CR CS CN CP CF : Addr}
theorem scMixedR : FnScope ["row", "other", "near", "far", "one", "two"] ["row", "other", "near", "far"] (defScope sMixedR) := ⟨rfl, rfl, rfl, by decide +kernel, rfl, by decide +kernel, by decide +kernel⟩
theorem ok_mixedR (F : Fun K "mixed" "mixed" sMixedR f fd) (T : Blt mg) (Z : Nou K mg) (zp : mg "zip" = none) (NR : CalX P w K mg base 5 "need_row" (spNeedRow K CR)) (ER : ErrOkW P w K mg base "BadRow" "given" CR) (IR : Cal P w K mg base 4 "is_row" (spIsRow K))
    (EF : ErrOk P w K mg base "BadFraction" CF) (FN : CalX P w K mg base 3 "need_from_nought" (spFromN K CF)) (Ad : Cal P w K mg base 2 "added" (spOp K add dom2)) (Ti : Cal P w K mg base 2 "timed" (spOp K mul dom2)) :
    FnOk P w K mg base (L2.CX P w) 6 f fd ["row", "other", "near", "far"] (spMixed2 K CR CF) := by
  refine F.okX scMixedR (fun vs H Q E h => ?_) (fun cdv A outer s H vs Q E hr h => ?_)
  · obtain ⟨x, y, a, b, dx, dy, da, db, rfl, _⟩ := h
    rfl
  · obtain ⟨x, y, a, b, dx, dy, da, db, rfl, hx, hy, ha, hb, k1, k2, k3, k4, k5, k6⟩ := h
    obtain ⟨z, mz, sz⟩ := Z.ex
    refine ⟨_, pss_cons (ps_expr (pe_x (E := E) NR hr (by decide) (by rfl) (passes_call (takes_of rfl rfl rfl rfl) (fun _ _ _ _ h => h)) (pa_cons (pv 0) pa_nil)))
      (pss_cons (ps_if (PW.pt (pw_or (pt_not (pt_val (pe_n IR hr (by decide) (by rfl) (pa_cons (pv 1) pa_nil)))) (pw_or1 (pt_cmpR op_ne (pe_callB call_len_seq (by rfl) T.len (by decide +kernel) (pa_cons (pv 1) pa_nil)) (pe_callB call_len_seq (by rfl) T.len (by decide +kernel) (pa_cons (pv 0) pa_nil)) (nomark _)))))
          (pss_one (ps_rzW rfl ER hr (by decide) (takes_of rfl rfl rfl rfl) (pv 1) (by rfl))) pss_nil)
      (pss_cons (ps_expr (pe_x (E := E) FN hr (by decide) (by rfl) (passes_call (takes_of rfl rfl rfl rfl) (fun _ _ _ _ h => h)) (pa_cons (pv 2) pa_nil)))
      (pss_cons (ps_if (PW.pt (pw_and (pt_cmpR (op_eqD hr.units) (pe_x (E := E) FN hr (by decide) (by rfl) (passes_call (takes_of rfl rfl rfl rfl) (fun _ _ _ _ h => h)) (pa_cons (pv 3) pa_nil)) (pe_glob (v := .ref z) (by rfl) mz rfl) (nomark _)) (pw_and1 (pt_cmpR (op_eqD hr.units) (pv 2) (pe_glob (v := .ref z) (by rfl) mz rfl) (nomark _)))))
          (pss_one (ps_rz rfl EF hr (by decide) (takes_of rfl rfl rfl rfl) (pv 3) (by rfl))) pss_nil)
      (pss_one (ps_ret (pe_callTy call_tuple_of (by rfl) T.tuple (by decide +kernel) (pa_cons (pe_lc (own := [("one", 4), ("two", 5)]) (g := gTup K 2 (gCons (gName 4) (gCons (gName 5) gNil))) (tt := tYes) rfl scMixedR.nd
          (pi_zipA (by rfl) zp (pa_cons (pv 0) (pa_cons (pv 1) pa_nil))) (blkOk_by (N := ["row", "other", "near", "far", "one", "two"]) (sc := defScope sMixedR) (by decide +kernel))
          (fun _ _ _ _ _ => pg_tup rfl (pgs_cons (pg_name (i := 4) scMixedR.nd rfl (Or.inl rfl)) (pgs_cons (pg_name (i := 5) scMixedR.nd rfl (Or.inl rfl)) pgs_nil))) (fun _ _ _ _ _ => pts_nil)
          (fun _ _ _ _ _ => pe_n Ad hr (by decide) (by rfl) (pa_cons (pe_n Ti hr (by decide) (by rfl) (pa_cons (pv 2) (pa_cons (pv 4) pa_nil))) (pa_cons (pe_n Ti hr (by decide) (by rfl) (pa_cons (pv 3) (pa_cons (pv 5) pa_nil))) pa_nil)))) pa_nil))))))), ?_⟩
    refine ⟨_, rfl, x, dx, rfl, hx, fun e1 H1 s1 => ?_, fun e1 H1 s1 => k1 e1 H1 s1⟩
    refine ⟨_, rfl, y, dy, rfl, dps s1 hy, fun H2 s2 => ⟨_, rfl, ?_⟩⟩
    have s12 := s1.trans s2
    obtain ⟨qs, rfl, _, lq⟩ := rowD_true e1
    cases e2 : rowD dy with
    | false =>
      refine iteT ⟨_, rfl, k2 e1 ?_ H2 s12⟩
      rw [sameRow, e2]
      rfl
    | true =>
      refine iteF ?_
      obtain ⟨rs, rfl, _, lr⟩ := rowD_true e2
      obtain ⟨aa, xs, rfl, sx, fx⟩ := (dp_po hx).mono s12
      obtain ⟨ab, ys, rfl, sy, fy⟩ := (dp_po hy).mono s12
      have lx := fx.len
      have ly := fy.len
      have ed : sameRow (dP qs) (dP rs) = decide (rs.length = qs.length) := by
        rw [sameRow, e2]
        show (true && decide ((rs.map dF).length = (qs.map dF).length)) = _
        rw [List.length_map, List.length_map, Bool.true_and]
      refine ⟨_, rfl, ab, ys, rfl, Or.inr sy, _, rfl, aa, xs, rfl, Or.inr sx, rfl, _, rfl, ?_⟩
      refine ite2 (fun c => ?_) (fun c => ?_)
      · have c1 : ¬ rs.length = qs.length := by
          intro z
          rw [lx, ly, z] at c
          simp at c
        exact ⟨_, rfl, k2 e1 (by rw [ed]; exact decide_eq_false c1) H2 s12⟩
      have c1 : rs.length = qs.length := by
        have : ¬ (!decide (V.int (ys.length : Int) = V.int (xs.length : Int))) = true := c
        simp at this
        omega
      have e3 : sameRow (dP qs) (dP rs) = true := by rw [ed]; exact decide_eq_true c1
      refine ⟨_, rfl, a, da, rfl, dps s12 ha, fun e4 => ?_, fun e4 => k3 e1 e3 e4 H2 s12⟩
      refine ⟨_, rfl, b, db, rfl, dps s12 hb, fun e5 => ?_, fun e5 => k4 e1 e3 e4 e5 H2 s12⟩
      obtain ⟨q, rfl, oq⟩ := fromD_true e4
      obtain ⟨r, rfl, or_⟩ := fromD_true e5
      have zd : Dp K H2 (.ref z) (dF (0, 1)) := .tup (sz H2) (.cons (.int 0) (.cons (.int 1) .nil))
      refine ⟨dF r, dF (0, 1), dps s12 hb, zd, shaped_dF _, shaped_dF _, _, rfl, ?_⟩
      have whole : zero2 (dF q) (dF r) = false → tRet (tCB (fun xs H_1 Q => ∃ p ys, xs = [V.ref p] ∧ ((SqL K H_1 p ys ∧ ∀ (l : Addr), H_1 l = none → Q (V.ref l) (upd H_1 l (HO.tup ys))) ∨ (SqT K H_1 p ys ∧ Q (V.ref p) H_1)))
            (tCons (tLc (iZipA K (tCons (tVar 0) (tCons (tVar 1) tNil))) (gTup K 2 (gCons (gName 4) (gCons (gName 5) gNil))) tYes
              (tCall (spOp K add dom2) [] E0 (tCons (tCall (spOp K mul dom2) [] E0 (tCons (tVar 2) (tCons (tVar 4) tNil))) (tCons (tCall (spOp K mul dom2) [] E0 (tCons (tVar 3) (tCons (tVar 5) tNil))) tNil))) [4, 5]) tNil))
          { nx := fun _ H' => Q .non H', rt := Q } [some (V.ref aa), some (V.ref ab), some a, some b, none, none] H2 := by
        intro e6
        obtain ⟨d1, d2, d3, d4, kk⟩ := k6 qs rs q r rfl rfl rfl rfl e1 e3 e4 e5 e6
        have fa := dp_fr (dps s12 ha)
        have fb := dp_fr (dps s12 hb)
        refine ⟨_, rfl, _, rfl, aa, ab, xs, ys, rfl, Or.inr ⟨sx, sy, fun D hD => ?_⟩⟩
        refine lc_it (walk_zipT (xs := xs) (ys := ys) (n := xs.length) (by omega)) (fun i H4 => Same H2 H4 ∧ ∃ acc, H4 D = some (.lst acc) ∧ FrAll K H4 acc ((mixs q r qs rs).take i)) ⟨same_new hD, [], upd_same, .nil⟩ (fun i H4 _ z => ⟨Bs.Same.t z.1 sx, Bs.Same.t z.1 sy⟩) ?_ ?_
        · rintro i x H4 H5 hi ⟨s4, acc, hD4, fac⟩ ⟨T', x', y', rfl, hT, rfl, h1, h2⟩
          have h1' : xs[i]? = some x' := h1
          have h2' : ys[i]? = some y' := h2
          have s5 := same_new (o := .tup [x', y']) hT
          have s45 := s4.trans s5
          obtain ⟨x1, u, g1, g2, fu⟩ := fx.get (i := i) (by omega)
          obtain ⟨y1, v, g3, g4, fv⟩ := fy.get (i := i) (by omega)
          rw [h1'] at g1
          cases g1
          rw [h2'] at g3
          cases g3
          have gm := mixs_get (a := q) (b := r) g2 g4
          have la : acc.length ≤ 9 := by
            rw [fac.len, List.length_take]
            unfold mixs
            rw [List.length_zipWith]
            omega
          have du := d3 u (List.mem_of_getElem? g2)
          have dv := d4 v (List.mem_of_getElem? g4)
          refine ⟨T', _, rfl, SqT.of upd_same, rfl, _, _, rfl, _, _, rfl, rfl, rfl, ?_⟩
          refine iteT (B := Same H2 (upd H4 T' (.tup [x', y'])) ∧ ∃ acc, upd H4 T' (.tup [x', y']) D = some (.lst acc) ∧ FrAll K (upd H4 T' (.tup [x', y'])) acc ((mixs q r qs rs).take (i + 1))) ?_
          refine ⟨_, rfl, _, rfl, a, x', q, u, rfl, fa.mono s45, fu.mono s45, ⟨dm_db d1 (by decide) (by decide) (by decide), dm_db du (by decide) (by decide) (by decide)⟩, fun p1 hp1 => ?_⟩
          have s6 := same_new (o := fr (mul q u)) hp1
          refine ⟨_, rfl, _, rfl, b, y', r, v, rfl, fb.mono (s45.trans s6), fv.mono (s45.trans s6), ⟨dm_db d2 (by decide) (by decide) (by decide), dm_db dv (by decide) (by decide) (by decide)⟩, fun p2 hp2 => ?_⟩
          have s7 := same_new (o := fr (mul r v)) hp2
          have f1 : Fr K (upd (upd (upd H4 T' (.tup [x', y'])) p1 (fr (mul q u))) p2 (fr (mul r v))) (.ref p1) (mul q u) := (Fr.of (upd_same (H := upd H4 T' (.tup [x', y'])))).mono s7
          refine ⟨.ref p1, .ref p2, mul q u, mul r v, rfl, f1, Fr.of upd_same, ⟨dm_db (d1.mul du) (by decide) (by decide) (by decide), dm_db (d2.mul dv) (by decide) (by decide) (by decide)⟩, fun p3 hp3 => ?_⟩
          have s8 := same_new (o := fr (add (mul q u) (mul r v))) hp3
          have s58 := s5.trans (s6.trans (s7.trans s8))
          refine ⟨acc, s58 _ _ hD4, small1000 (by omega), fun c o e => (upd_ne (ne_of_none e hD)).trans (s58 c o (s4 c o e)), acc ++ [.ref p3], upd_same, ?_⟩
          rw [take_one gm]
          exact (FrAll.off (s58 _ _ hD4) (fac.mono s58)).snoc ((Fr.of upd_same).off (s58 _ _ hD4))
        · rintro H4 ⟨s4, acc, hD4, fac⟩
          refine ⟨D, acc, rfl, Or.inl ⟨SqL.of hD4, fun p hp => ?_⟩⟩
          have s5 := same_new (o := .tup acc) hp
          refine kk _ p ((s12.trans s4).trans s5) ⟨p, acc, rfl, SqT.of upd_same, ?_⟩
          rw [List.take_of_length_le (by unfold mixs; rw [List.length_zipWith]; omega)] at fac
          exact fac.mono s5
      cases e6 : PyData.eqv (dF r) (dF (0, 1)) with
      | false => exact iteF (whole (by rw [zero2, e6]; rfl))
      | true =>
        refine iteT ⟨_, rfl, dF q, dF (0, 1), dps s12 ha, zd, shaped_dF _, shaped_dF _, _, rfl, ?_⟩
        cases e7 : PyData.eqv (dF q) (dF (0, 1)) with
        | false => exact iteF (whole (by rw [zero2, e6, e7]; rfl))
        | true => exact iteT ⟨_, rfl, k5 e1 e3 e4 e5 (by rw [zero2, e6, e7]; rfl) H2 s12⟩
end
end Rs


set_option Elab.async false
set_option linter.all false
set_option maxRecDepth 100000
set_option maxHeartbeats 400000
namespace Rs
open PySem L2 Bs Fq LamX RZ
abbrev sLSum : Stmt := top 48
abbrev sLShare : Stmt := top 49
abbrev sLMoms : Stmt := top 51
abbrev sLSumBy : Stmt := top 52
abbrev sLRow : Stmt := top 56
def spLSum (K : PySem.W.Frag) : Sp := fun vs H Q _ => ∃ (a : Addr) (xs : List V) (qs : List F), vs = [.ref a] ∧ SqL K H a xs ∧ FrAll K H xs qs ∧ (∀ q ∈ qs, Db 3072 134 q) ∧ qs.length ≤ 9 ∧ ∀ H' u, Same H H' → Fr K H' u (sumF (0, 1) qs) → Q u H'
def spLMoms (K : PySem.W.Frag) : Sp := fun vs H Q _ => ∃ (v : V) (ps : List Pr) (k : Int), vs = [v, .int k] ∧ Shr K H v ps ∧ (∀ p ∈ ps, Sp2 p) ∧ ps.length ≤ 6 ∧ 0 ≤ k ∧ k ≤ 8 ∧ ∀ H' p, Same H H' → Po K H' (.ref p) (moms ps k.toNat) → Q (.ref p) H'
def spLSumBy (K : PySem.W.Frag) : Sp := fun vs H Q _ => ∃ (x y : V) (qs rs : List F), vs = [x, y] ∧ Po K H x rs ∧ Po K H y qs ∧ (∀ q ∈ qs, Db 6 4 q) ∧ (∀ r ∈ rs, Db 512 130 r) ∧ qs.length ≤ 9 ∧ ∀ H' u, Same H H' → Fr K H' u (sumBy qs rs) → Q u H'
theorem dl_db {D : Int} {n : Nat} {q : F} (h : Db D n q) (p : 0 < D) (l : D < 32768) (m : n ≤ 2000) : Dl q := (dm_db h p l m).dl
section
variable {P : Program} {w : World} {K : PySem.W.Frag} {mg : Str → Option Value} {base : Heap} {f : Addr} {fd : FuncData}
theorem scLSum : FnScope ["some", "found", "one"] ["some"] (defScope sLSum) := ⟨rfl, rfl, rfl, by decide +kernel, rfl, by decide +kernel, by decide +kernel⟩
theorem ok_lsum (F : Fun K "_law_sum" "_law_sum" sLSum f fd) (lP : Cal P w K mg base 2 "_law_plus" (spOp K add domL)) : FnOk P w K mg base CX0 3 f fd ["some"] (spLSum K) := by
  refine F.ok scLSum (fun vs H Q E h => ?_) (fun cdv A outer s H vs Q E hr h => ?_)
  · obtain ⟨a, xs, qs, rfl, _⟩ := h
    rfl
  · obtain ⟨a, xs, qs, rfl, sx, fx, hq, lq, kk⟩ := h
    refine ⟨_, pss_cons (ps_set (i := 1) scLSum.nd rfl (Or.inl rfl) (pe_tup (pa_cons pe_int (pa_cons pe_int pa_nil))))
      (pss_cons (ps_for PassesOwn.never rfl (pi_list (pv 0)) (pg_name (i := 2) scLSum.nd rfl (Or.inl rfl)) (pss_one (ps_set (i := 1) scLSum.nd rfl (Or.inl rfl) (pe_n lP hr (by decide) (by rfl) (pa_cons (pv 1) (pa_cons (pv 2) pa_nil))))))
      (pss_one (ps_ret (pv 1)))), ?_⟩
    have lx := fx.len
    refine ⟨(by show 2 ≤ sizeLine; decide), fun z hz => ?_⟩
    have s0 := same_new (o := .tup [.int 0, .int 1]) hz
    refine ⟨_, rfl, a, rfl, ⟨_, s0.seq sx⟩, for_list (xs := xs) (fun i σ H1 => Same H H1 ∧ ∃ u v2, Fr K H1 u (sumF (0, 1) (qs.take i)) ∧ σ = [some (V.ref a), some u, v2])
      ⟨s0, .ref z, none, Fr.of upd_same, rfl⟩ (fun i σ H1 _ p => p.1.seq sx) ?_ ?_⟩
    · rintro i x σ H1 hx ⟨s1, u, v2, fu, rfl⟩
      obtain ⟨hi, _⟩ := List.getElem?_eq_some_iff.mp hx
      obtain ⟨x1, q, e1, e2, fq⟩ := fx.get (i := i) (by omega)
      rw [hx] at e1
      cases e1
      have sdb := sumF_db (D := 3072) (by decide) (by decide) (l := qs.take i) (n := 134) (m := 134) (z := (0, 1)) (fun q h => hq q (List.mem_of_mem_take h)) (Db.zero.mono (by decide)) (Nat.le_refl _)
      have lt_ : (qs.take i).length ≤ 9 := by rw [List.length_take]; omega
      refine ⟨_, rfl, _, rfl, u, x, _, q, rfl, fu, fq.mono s1, ⟨dl_db sdb (by decide) (by decide) (by omega), dl_db (hq q (List.mem_of_getElem? e2)) (by decide) (by decide) (by decide)⟩, fun p hp => ?_⟩
      have s2 := same_new (o := fr (add (sumF (0, 1) (qs.take i)) q)) hp
      refine ⟨s1.trans s2, .ref p, some x, ?_, rfl⟩
      rw [take_one e2, sumF_snoc]
      exact Fr.of upd_same
    · rintro σ H1 ⟨s1, u, v2, fu, rfl⟩
      rw [lx, List.take_length] at fu
      exact ⟨_, rfl, kk H1 u s1 fu⟩
theorem scLSumBy : FnScope ["row", "some", "one", "moment"] ["row", "some"] (defScope sLSumBy) := ⟨rfl, rfl, rfl, by decide +kernel, rfl, by decide +kernel, by decide +kernel⟩
theorem ok_lsumBy (F : Fun K "_law_sum_by" "_law_sum_by" sLSumBy f fd) (zp : mg "zip" = none) (lT : Cal P w K mg base 2 "_law_times" (spOp K mul domL)) (LS : Cal P w K mg base 3 "_law_sum" (spLSum K)) : FnOk P w K mg base CX0 4 f fd ["row", "some"] (spLSumBy K) := by
  refine F.ok scLSumBy (fun vs H Q E h => ?_) (fun cdv A outer s H vs Q E hr h => ?_)
  · obtain ⟨x, y, qs, rs, rfl, _⟩ := h
    rfl
  · obtain ⟨x, y, qs, rs, rfl, ⟨b, ys, rfl, sy, fy⟩, ⟨a, xs, rfl, sx, fx⟩, hq, hrs, lq, kk⟩ := h
    have lx := fx.len
    have ly := fy.len
    refine ⟨_, pss_one (ps_ret (pe_n LS hr (by decide) (by rfl) (pa_cons (pe_lc (own := [("one", 2), ("moment", 3)]) (g := gTup K 2 (gCons (gName 2) (gCons (gName 3) gNil))) (tt := tYes) rfl scLSumBy.nd
          (pi_zipA (by rfl) zp (pa_cons (pv 1) (pa_cons (pv 0) pa_nil))) (blkOk_by (N := ["row", "some", "one", "moment"]) (sc := defScope sLSumBy) (by decide +kernel))
          (fun _ _ _ _ _ => pg_tup rfl (pgs_cons (pg_name (i := 2) scLSumBy.nd rfl (Or.inl rfl)) (pgs_cons (pg_name (i := 3) scLSumBy.nd rfl (Or.inl rfl)) pgs_nil))) (fun _ _ _ _ _ => pts_nil)
          (fun _ _ _ _ _ => pe_n lT hr (by decide) (by rfl) (pa_cons (pv 2) (pa_cons (pv 3) pa_nil)))) pa_nil))), ?_⟩
    have zw := zw_db hq hrs
    refine ⟨_, rfl, _, rfl, a, b, xs, ys, rfl, Or.inr ⟨sx, sy, fun D hD => ?_⟩⟩
    refine lc_it (walk_zipT (xs := xs) (ys := ys) (n := min xs.length ys.length) rfl) (fun i H4 => Same H H4 ∧ ∃ acc, H4 D = some (.lst acc) ∧ FrAll K H4 acc ((List.zipWith mul qs rs).take i)) ⟨same_new hD, [], upd_same, .nil⟩ (fun i H4 _ z => ⟨Bs.Same.t z.1 sx, Bs.Same.t z.1 sy⟩) ?_ ?_
    · rintro i x H4 H5 hi ⟨s4, acc, hD4, fac⟩ ⟨T', x', y', rfl, hT, rfl, h1, h2⟩
      have h1' : xs[i]? = some x' := h1
      have h2' : ys[i]? = some y' := h2
      have s5 := same_new (o := .tup [x', y']) hT
      have s45 := s4.trans s5
      obtain ⟨x1, q, e1, e2, fq⟩ := fx.get (i := i) (by omega)
      obtain ⟨y1, r, e3, e4, fr_⟩ := fy.get (i := i) (by omega)
      rw [h1'] at e1
      cases e1
      rw [h2'] at e3
      cases e3
      have et := zw_get e2 e4
      have la : acc.length ≤ 9 := by
        rw [fac.len, List.length_take, List.length_zipWith]
        omega
      refine ⟨T', _, rfl, SqT.of upd_same, rfl, _, _, rfl, _, _, rfl, rfl, rfl, ?_⟩
      refine iteT (B := Same H (upd H4 T' (.tup [x', y'])) ∧ ∃ acc, upd H4 T' (.tup [x', y']) D = some (.lst acc) ∧ FrAll K (upd H4 T' (.tup [x', y'])) acc ((List.zipWith mul qs rs).take (i + 1))) ?_
      refine ⟨_, rfl, _, rfl, x', y', q, r, rfl, fq.mono s45, fr_.mono s45, ⟨dl_db (hq q (List.mem_of_getElem? e2)) (by decide) (by decide) (by decide), dl_db (hrs r (List.mem_of_getElem? e4)) (by decide) (by decide) (by decide)⟩, fun p hp => ?_⟩
      have s6 := same_new (o := fr (mul q r)) hp
      have s56 := s5.trans s6
      refine ⟨acc, s56 _ _ hD4, small1000 (by omega), fun c o e => (upd_ne (ne_of_none e hD)).trans (s56 c o (s4 c o e)), acc ++ [.ref p], upd_same, ?_⟩
      rw [take_one et]
      exact (FrAll.off (s56 _ _ hD4) (fac.mono s56)).snoc ((Fr.of upd_same).off (s56 _ _ hD4))
    · rintro H4 ⟨s4, acc, hD4, fac⟩
      rw [List.take_of_length_le (by rw [List.length_zipWith, lx, ly]; exact Nat.le_refl _)] at fac
      exact ⟨D, acc, _, rfl, SqL.of hD4, fac, zw, by rw [List.length_zipWith]; omega, fun H' u s5 fu => kk H' u (s4.trans s5) fu⟩
abbrev NLM : List Str := ["share_so", "top", "found_so", "k", "number", "weight"]
theorem scLMoms : FnScope NLM ["share_so", "top"] (defScope sLMoms) := ⟨rfl, rfl, rfl, by decide +kernel, rfl, by decide +kernel, by decide +kernel⟩
theorem ok_lmoms (F : Fun K "_law_moments" "_law_moments" sLMoms f fd) (T : Blt mg) (lT : Cal P w K mg base 2 "_law_times" (spOp K mul domL)) (LP : Cal P w K mg base 3 "_law_power" (spLPower K)) (LS : Cal P w K mg base 3 "_law_sum" (spLSum K)) : FnOk P w K mg base CX0 4 f fd ["share_so", "top"] (spLMoms K) := by
  refine F.ok scLMoms (fun vs H Q E h => ?_) (fun cdv A outer s H vs Q E hr h => ?_)
  · obtain ⟨v, ps, k, rfl, _⟩ := h
    rfl
  · obtain ⟨v, ps, k, rfl, hs, sp2, lp, k0, k8, kk⟩ := h
    obtain ⟨a, xs, rfl, sx, all⟩ := hs.open
    have l := dpAll_len all
    rw [List.length_map] at l
    refine ⟨_, pss_cons (ps_set (i := 2) scLMoms.nd rfl (Or.inl rfl) (pe_lst pa_nil))
      (pss_cons (ps_for PassesOwn.never rfl (pi_range1 rfl T.range (pa_cons (pe_op op_add (pv 1) pe_int) pa_nil)) (pg_name (i := 3) scLMoms.nd rfl (Or.inr rfl))
        (pss_one (ps_expr (pe_bm PySem.F.plainAttrs_list PySem.F.slot_list_append PySem.F.type_list_append mt_append (pv 2) (pa_cons (pe_n LS hr (by decide) (by rfl) (pa_cons (pe_lc (own := [("number", 4), ("weight", 5)]) (g := gTup K 2 (gCons (gName 4) (gCons (gName 5) gNil))) (tt := tYes) rfl scLMoms.nd
          (pi_tup (pv 0)) (blkOk_by (N := NLM) (sc := defScope sLMoms) (by decide +kernel))
          (fun _ _ _ _ _ => pg_tup rfl (pgs_cons (pg_name (i := 4) scLMoms.nd rfl (Or.inl rfl)) (pgs_cons (pg_name (i := 5) scLMoms.nd rfl (Or.inl rfl)) pgs_nil))) (fun _ _ _ _ _ => pts_nil)
          (fun _ _ _ _ _ => pe_n lT hr (by decide) (by rfl) (pa_cons (pv 5) (pa_cons (pe_n LP hr (by decide) (by rfl) (pa_cons (pv 4) (pa_cons (pv 3) pa_nil))) pa_nil)))) pa_nil)) pa_nil)))))
      (pss_one (ps_ret (pe_callTy call_tuple_of (by rfl) T.tuple (by decide +kernel) (pa_cons (pv 2) pa_nil))))), ?_⟩
    refine ⟨(by show 0 ≤ sizeLine; decide), fun L hL => ?_⟩
    have s0 := same_new (o := .lst []) hL
    have et : (k + 1).toNat = k.toNat + 1 := by omega
    refine ⟨_, rfl, _, _, rfl, rfl, _, rfl, by omega, by omega, for_range (n := (k + 1).toNat) (fun i σ H1 => Same H H1 ∧ ∃ acc v3, H1 L = some (.lst acc) ∧ FrAll K H1 acc ((List.range i).map (mom ps)) ∧ σ = [some (V.ref a), some (V.int k), some (V.ref L), v3, none, none])
      ⟨s0, [], none, upd_same, .nil, rfl⟩ ?_ ?_⟩
    · rintro i σ H1 hi ⟨s1, acc, v3, hL1, fa, rfl⟩
      have la : acc.length = i := by rw [fa.len, List.length_map, List.length_range]
      have ki : i ≤ 8 := by omega
      have tm := terms_db sp2 ki
      refine ⟨_, rfl, Or.inl ⟨rfl, _, SqL.of hL1⟩, _, rfl, a, rfl, ⟨_, Bs.Same.t s1 sx⟩, fun D hD => ?_⟩
      refine lc_tup (K := K) (a := a) (xs := xs) (fun j H2 => Same H1 H2 ∧ ∃ bc, H2 D = some (.lst bc) ∧ FrAll K H2 bc ((ps.map fun p => mul p.2 (pw p.1 i)).take j)) ⟨same_new hD, [], upd_same, .nil⟩ (fun j H2 _ z => Bs.Same.t (s1.trans z.1) sx) ?_ ?_
      · rintro j x H2 hx ⟨s2, bc, hD2, fb⟩
        obtain ⟨d, ed, dx⟩ := dpAll_at all hx
        obtain ⟨p, ep, rfl⟩ := map_some ed
        have hp := sp2 p (List.mem_of_getElem? ep)
        obtain ⟨b, u1, u2, rfl, sb, f1, f2⟩ := prOf (dps (s1.trans s2) dx)
        have et2 : (ps.map fun p => mul p.2 (pw p.1 i))[j]? = some (mul p.2 (pw p.1 i)) := by rw [List.getElem?_map, ep]; rfl
        have lb : bc.length ≤ 6 := by
          rw [fb.len, List.length_take, List.length_map]
          omega
        refine ⟨b, _, rfl, sb, rfl, _, _, rfl, _, _, rfl, rfl, rfl, ?_⟩
        refine iteT (B := Same H1 H2 ∧ ∃ bc, H2 D = some (.lst bc) ∧ FrAll K H2 bc ((ps.map fun p => mul p.2 (pw p.1 i)).take (j + 1))) ?_
        have hb2 := Int.le_of_dvd (by decide) hp.b1
        have ho := hp.o1.1
        refine ⟨_, rfl, _, rfl, _, rfl, u1, p.1, (i : Int), (by rw [Int.zero_add]; rfl), f1, hp.o1, Lt2.mono (m := 3) hp.a1 (by decide), Lt2.mono (m := 2) (by show p.1.2.natAbs < 4; omega) (by decide), by omega, by omega, fun H3 p1 s3 hp1 => ?_⟩
        have f3 : Fr K H3 (.ref p1) (pw p.1 i) := Fr.of hp1
        refine ⟨u2, .ref p1, p.2, pw p.1 i, rfl, f2.mono s3, f3, ⟨dl_db (D := 2) (n := 4) ⟨hp.o2, hp.b2, hp.a2⟩ (by decide) (by decide) (by decide), dl_db (pw_db hp ki) (by decide) (by decide) (by decide)⟩, fun p2 hp2 => ?_⟩
        have s4 := same_new (o := fr (mul p.2 (pw p.1 i))) hp2
        have s34 := s3.trans s4
        refine ⟨bc, s34 _ _ hD2, small1000 (by omega), fun c o e => (upd_ne (ne_of_none e hD)).trans (s34 c o (s2 c o e)), bc ++ [.ref p2], upd_same, ?_⟩
        rw [take_one et2]
        exact (FrAll.off (s34 _ _ hD2) (fb.mono s34)).snoc ((Fr.of upd_same).off (s34 _ _ hD2))
      · rintro H2 ⟨s2, bc, hD2, fb⟩
        rw [List.take_of_length_le (by rw [List.length_map]; omega)] at fb
        refine ⟨D, bc, _, rfl, SqL.of hD2, fb, fun q hq => ((tm q hq).weak (E := 3072) (by decide)).mono (by decide), by rw [List.length_map]; omega, fun H3 u s3 fu => ?_⟩
        have s23 := s2.trans s3
        have hL3 := s23 _ _ hL1
        refine ⟨L, acc, u, rfl, rfl, hL3, small1000 (by omega), ?_⟩
        refine ⟨fun c o e => (upd_ne (ne_of_none e hL)).trans (s23 c o (s1 c o e)), acc ++ [u], some (.int i), upd_same, ?_, (by rw [Int.zero_add]; rfl)⟩
        rw [List.range_succ, List.map_append]
        exact (FrAll.off hL3 (fa.mono s23)).snoc (fu.off hL3)
    · rintro σ H1 ⟨s1, acc, v3, hL1, fa, rfl⟩
      rw [et] at fa
      refine ⟨_, rfl, L, acc, rfl, Or.inl ⟨SqL.of hL1, fun p hp => ?_⟩⟩
      have s2 := same_new (o := .tup acc) hp
      exact kk _ p (s1.trans s2) ⟨p, acc, rfl, SqT.of upd_same, fa.mono s2⟩
end
end Rs


set_option Elab.async false
set_option linter.all false
set_option maxRecDepth 100000
set_option maxHeartbeats 1000000
namespace Rs
open PySem L2 Bs Fq LamX RZ
/-! ### pairs in memory -/
def PrV (K : PySem.W.Frag) (H : Hp) (v : V) (p : Pr) : Prop := ∃ a u1 u2, v = .ref a ∧ SqT K H a [u1, u2] ∧ Fr K H u1 p.1 ∧ Fr K H u2 p.2
theorem sqT_kp {K : PySem.W.Frag} {H H' : Hp} {p c l a : Addr} {n : Nat} {t : Int} {xs : List V} (k : Kp p l H H') (S : Sta H p c l n t) (h : SqT K H a xs) : SqT K H' a xs := by
  obtain ⟨ls, b1, _⟩ := S.ls
  rcases h with (s | ⟨o, s⟩) | s
  · exact .inl (.inl (k a _ s (ne_of s S.d (by intro z; cases z)) (ne_of s b1 (by intro z; cases z))))
  · exact .inl (.inr ⟨o, k a _ s (ne_of s S.d (by intro z; cases z)) (ne_of s b1 (by intro z; cases z))⟩)
  · exact .inr s
theorem sqT_off {K : PySem.W.Frag} {H : Hp} {D a : Addr} {acc xs : List V} {o : HO} (hD : H D = some (.lst acc)) (h : SqT K H a xs) : SqT K (upd H D o) a xs := by
  rcases h with (s | ⟨o', s⟩) | s
  · exact .inl (.inl ((upd_ne (ne_of s hD (by intro z; cases z))).trans s))
  · exact .inl (.inr ⟨o', (upd_ne (ne_of s hD (by intro z; cases z))).trans s⟩)
  · exact .inr s
theorem PrV.mono {K : PySem.W.Frag} {H H' : Hp} {v : V} {p : Pr} (h : PrV K H v p) (e : Same H H') : PrV K H' v p := by
  obtain ⟨a, u1, u2, rfl, s, f1, f2⟩ := h
  exact ⟨a, u1, u2, rfl, Bs.Same.t e s, f1.mono e, f2.mono e⟩
theorem PrV.kp {K : PySem.W.Frag} {H H' : Hp} {p c l : Addr} {n : Nat} {t : Int} {v : V} {r : Pr} (k : Kp p l H H') (S : Sta H p c l n t) (h : PrV K H v r) : PrV K H' v r := by
  obtain ⟨a, u1, u2, rfl, s, f1, f2⟩ := h
  exact ⟨a, u1, u2, rfl, sqT_kp k S s, k.fr S f1, k.fr S f2⟩
theorem PrV.off {K : PySem.W.Frag} {H : Hp} {D : Addr} {acc : List V} {o : HO} {v : V} {r : Pr} (hD : H D = some (.lst acc)) (h : PrV K H v r) : PrV K (upd H D o) v r := by
  obtain ⟨a, u1, u2, rfl, s, f1, f2⟩ := h
  exact ⟨a, u1, u2, rfl, sqT_off hD s, f1.off hD, f2.off hD⟩
theorem PrV.dp {K : PySem.W.Frag} {H : Hp} {v : V} {r : Pr} (h : PrV K H v r) : Dp K H v (dPr r) := by
  obtain ⟨a, u1, u2, rfl, s, f1, f2⟩ := h
  exact .tup s (.cons f1.dp (.cons f2.dp .nil))
inductive PrAll (K : PySem.W.Frag) (H : Hp) : List V → List Pr → Prop
  | nil : PrAll K H [] []
  | cons {v : V} {vs : List V} {p : Pr} {ps : List Pr} : PrV K H v p → PrAll K H vs ps → PrAll K H (v :: vs) (p :: ps)
section
variable {K : PySem.W.Frag} {H H' : Hp}
theorem PrAll.mono (e : Same H H') : ∀ {vs : List V} {ps : List Pr}, PrAll K H vs ps → PrAll K H' vs ps
  | _, _, .nil => .nil
  | _, _, .cons a b => .cons (a.mono e) (PrAll.mono e b)
theorem PrAll.kp {p c l : Addr} {n : Nat} {t : Int} (k : Kp p l H H') (S : Sta H p c l n t) : ∀ {vs : List V} {ps : List Pr}, PrAll K H vs ps → PrAll K H' vs ps
  | _, _, .nil => .nil
  | _, _, .cons a b => .cons (a.kp k S) (PrAll.kp k S b)
theorem PrAll.off {D : Addr} {acc : List V} {o : HO} (hD : H D = some (.lst acc)) : ∀ {vs : List V} {ps : List Pr}, PrAll K H vs ps → PrAll K (upd H D o) vs ps
  | _, _, .nil => .nil
  | _, _, .cons a b => .cons (a.off hD) (PrAll.off hD b)
theorem PrAll.snoc : ∀ {vs : List V} {ps : List Pr} {v : V} {p : Pr}, PrAll K H vs ps → PrV K H v p → PrAll K H (vs ++ [v]) (ps ++ [p])
  | _, _, _, _, .nil, h => .cons h .nil
  | _, _, _, _, .cons a b, h => .cons a (PrAll.snoc b h)
theorem PrAll.dp : ∀ {vs : List V} {ps : List Pr}, PrAll K H vs ps → DpAll K H vs (ps.map dPr)
  | _, _, .nil => .nil
  | _, _, .cons a b => .cons a.dp (PrAll.dp b)
theorem PrAll.len : ∀ {vs : List V} {ps : List Pr}, PrAll K H vs ps → vs.length = ps.length
  | _, _, .nil => rfl
  | _, _, .cons _ b => congrArg (· + 1) (PrAll.len b)
theorem FrAll.drop : ∀ {vs : List V} {qs : List F} (n : Nat), FrAll K H vs qs → FrAll K H (vs.drop n) (qs.drop n)
  | _, _, 0, h => h
  | _, _, _ + 1, .nil => .nil
  | _, _, n + 1, .cons _ b => FrAll.drop n b
theorem FrAll.app : ∀ {vs ws : List V} {qs rs : List F}, FrAll K H vs qs → FrAll K H ws rs → FrAll K H (vs ++ ws) (qs ++ rs)
  | _, _, _, _, .nil, h => h
  | _, _, _, _, .cons a b, h => .cons a (FrAll.app b h)
end
/-! ### what is drawn is a share -/
structure Sn (q : F) : Prop where
  ok : Fq.Ok q
  b : q.2 ∣ 2
  a : q.1.natAbs < 8
theorem eqv_frac {q r : F} : PyData.eqv (dF q) (dF r) = decide (q = r) := by
  obtain ⟨a, b⟩ := q
  obtain ⟨c, d⟩ := r
  have e : PyData.eqv (dF (a, b)) (dF (c, d)) = (decide (a = c) && decide (b = d)) := by
    simp only [dF, PyData.eqv, PyData.eqvAll, Bool.and_true]
    rfl
  rw [e]
  simp [Prod.ext_iff]
theorem any_mem {q : F} : ∀ {ns : List F}, ((ns.map dF).any fun z => PyData.eqv z (dF q)) = decide (q ∈ ns)
  | [] => by simp
  | r :: ns => by
    rw [List.map_cons, List.any_cons, eqv_frac, any_mem]
    by_cases c : r = q
    · rw [decide_eq_true c, decide_eq_true (show q ∈ r :: ns by rw [c]; exact List.mem_cons_self)]
      rfl
    · rw [decide_eq_false c, Bool.false_or]
      congr 1
      refine propext ⟨fun h => List.mem_cons_of_mem _ h, fun h => ?_⟩
      rcases List.mem_cons.mp h with z | h
      · exact absurd z.symm c
      · exact h
theorem asc_dPr : ∀ {ps : List Pr}, Asc (ps.map (·.1)) → ascD (ps.map dPr) = true
  | [], _ => rfl
  | [p], _ => rfl
  | p :: r :: ps, h => by
    cases h with
    | cons h1 h2 =>
      have ih := asc_dPr (ps := r :: ps) h2
      have e := h1 r.1 (List.mem_cons_self)
      show ((lt p.1 r.1) && ascD ((r :: ps).map dPr)) = true
      rw [e, ih]
      rfl
theorem share_of {ps : List Pr} (h : ∀ p ∈ ps, Sp2 p) (n : ps ≠ []) (l : ps.length ≤ 6) (a : Asc (ps.map (·.1))) : shareD (dSh ps) = true := by
  show (decide (1 ≤ (ps.map dPr).length) && decide ((ps.map dPr).length ≤ 6) && (ps.map dPr).all weighD && ascD (ps.map dPr)) = true
  have e : (ps.map dPr).all weighD = true := by
    rw [List.all_eq_true]
    intro d hd
    obtain ⟨p, hp, rfl⟩ := List.mem_map.mp hd
    exact weighD_of (h p hp).o1 (h p hp).o2 (h p hp).p2
  have := List.length_pos_iff.mpr n
  rw [asc_dPr a, e, List.length_map, decide_eq_true (by omega), decide_eq_true l]
  rfl
theorem sm_of {ps : List Pr} (h : ∀ p ∈ ps, Sp2 p) : smD (dSh ps) = true := by
  show (ps.map dPr).all (fun e => dmB (numD e)) = true
  rw [List.all_eq_true]
  intro d hd
  obtain ⟨p, hp, rfl⟩ := List.mem_map.mp hd
  have s := h p hp
  have l := Int.le_of_dvd (by decide) s.b1
  have o := s.o1.1
  have a := s.a1
  show dmB p.1 = true
  unfold dmB
  rw [decide_eq_true (show p.1.1.natAbs < 2 ^ 100 from Nat.lt_of_lt_of_le a (by decide)), decide_eq_true o, decide_eq_true (show p.1.2 < 32768 by omega)]
  rfl
theorem red_small {x y : Int} (h : y = 1 ∨ y = 2) : Fq.Ok (red x y) ∧ (red x y).2 ∣ 2 ∧ (red x y).1.natAbs ≤ x.natAbs := by
  have hp : 0 < y := by omega
  refine ⟨red_ok hp, ?_, red_top hp⟩
  refine Int.dvd_trans (vl_dvd (red_ok (a := x) hp) (vl_red hp)) ?_
  rcases h with rfl | rfl <;> decide
theorem cut_to {xs : List V} {k : Nat} (h : k ≤ xs.length) : cutV xs none (some (k : Int)) = xs.take k := by
  unfold cutV
  have e : HT.sIx xs.length xs.length (some (k : Int)) = k := by
    rw [HT.sIx_nat]
    omega
  rw [e]
  show (xs.drop 0).take (k - 0) = _
  rw [List.drop_zero, Nat.sub_zero]
theorem cut_from {xs : List V} {k : Nat} (h : k ≤ xs.length) : cutV xs (some (k : Int)) none = xs.drop k := by
  unfold cutV
  have e : HT.sIx xs.length 0 (some (k : Int)) = k := by
    rw [HT.sIx_nat]
    omega
  rw [e]
  show (xs.drop k).take (xs.length - k) = _
  rw [List.take_of_length_le (by rw [List.length_drop]; exact Nat.le_refl _)]
/-- the numbers drawn so far -/
structure NI (K : PySem.W.Frag) (H H1 : Hp) (p c l : Addr) (n : Nat) (t : Int) (i : Nat) (t' : Int) (a : Addr) (xs : List V) (ns : List F) : Prop where
  S : Sta H1 p c l n t'
  t1 : t ≤ t'
  t2 : t' ≤ t + 1 + 2 * i
  k : Kp p l H H1
  sq : H1 a = some (.lst xs)
  nl : a ≠ l
  fx : FrAll K H1 xs ns
  sn : ∀ q ∈ ns, Sn q
  asc : Asc ns
  ne : 0 < i → ns ≠ []
  len : ns.length ≤ i
/-- _law_share(state, few) -/
def spLShare (K : PySem.W.Frag) : Sp := fun vs H Q _ => ∃ (p c l : Addr) (n : Nat) (t few : Int), vs = [.ref p, .int few] ∧ Sta H p c l n t ∧ t ≤ 8000 ∧ 1 ≤ few ∧ few ≤ 4 ∧
  ∀ (H' : Hp) (v : V) (ps : List Pr) (t' : Int), Shr K H' v ps → (∀ p ∈ ps, Sp2 p) → ps ≠ [] → ps.length ≤ 6 → shareD (dSh ps) = true → t ≤ t' → t' ≤ t + 17 → Sta H' p c l n t' → Kp p l H H' → Q v H'
abbrev NLS : List Str := ["state", "few", "numbers", "k", "one", "spot", "far"]
section
variable {P : Program} {w : World} {K : PySem.W.Frag} {mg : Str → Option Value} {base : Heap} {f : Addr} {fd : FuncData}
theorem scLShare : FnScope NLS ["state", "few"] (defScope sLShare) := ⟨rfl, rfl, rfl, by decide +kernel, rfl, by decide +kernel, by decide +kernel⟩
theorem ok_lshare (F : Fun K "_law_share" "_law_share" sLShare f fd) (T : Blt mg) (DR : Cal P w K mg base 2 "_law_draw" spDraw) (LR : Cal P w K mg base 1 "_law_ratio" spLRatio) (LU : Cal P w K mg base 1 "_law_under" (spLt' K)) : FnOk P w K mg base CX0 3 f fd ["state", "few"] (spLShare K) := by
  refine F.ok scLShare (fun vs H Q E h => ?_) (fun cdv A outer s H vs Q E hr h => ?_)
  · obtain ⟨p, c, l, n, t, few, rfl, _⟩ := h
    rfl
  · obtain ⟨p, c, l, n, t, few, rfl, S, t8, f1, f4, kk⟩ := h
    have hu65 : (cxOf CX0 P w K mg base NLS "_law_share" (defScope sLShare) f cdv A outer s H E).nox.A.units + 65 < cLine := by
      have := hr.un
      show (A.deeper _).units + 65 < cLine
      omega
    refine ⟨_, pss_cons (ps_set (i := 2) scLShare.nd rfl (Or.inl rfl) (pe_lst pa_nil))
      (C8.pss_cut (ps_for PassesOwn.never rfl (pi_range1 rfl T.range (pa_cons (pe_op op_add pe_int (pe_n DR hr (by decide) (by rfl) (pa_cons (pv 0) (pa_cons (pv 1) pa_nil)))) pa_nil)) (pg_name (i := 3) scLShare.nd rfl (Or.inl rfl))
        (pss_cons (ps_set (i := 4) scLShare.nd rfl (Or.inr rfl) (pe_n LR hr (by decide) (by rfl) (pa_cons (pe_op op_sub (pe_n DR hr (by decide) (by rfl) (pa_cons (pv 0) (pa_cons pe_int pa_nil))) pe_int) (pa_cons (pe_op op_add pe_int (pe_n DR hr (by decide) (by rfl) (pa_cons (pv 0) (pa_cons pe_int pa_nil)))) pa_nil))))
        (pss_cons (ps_set (i := 5) scLShare.nd rfl (Or.inl rfl) (pe_callB call_len_seq (by rfl) T.len (by decide +kernel) (pa_cons (pe_lc (own := [("far", 6)]) (g := gName 6) (tt := tB (tCall (spLt' K) [] E0 (tCons (tVar 6) (tCons (tVar 4) tNil)))) rfl scLShare.nd (pi_list (pv 2)) (blkOk_by (N := NLS) (sc := defScope sLShare) (by decide +kernel))
            (fun _ _ _ _ _ => pg_name (i := 6) scLShare.nd rfl (Or.inl rfl)) (fun _ _ _ _ _ => pts_one (pt_val (pe_n LU hr (by decide) (by rfl) (pa_cons (pv 6) (pa_cons (pv 4) pa_nil)))))
            (fun _ _ _ _ _ => pv 6)) pa_nil)))
        (pss_one (ps_if (pt_cmpR (op_notInD hu65) (pv 4) (pv 2) (by rfl)) (pss_one (ps_set (i := 2) scLShare.nd rfl (Or.inl rfl) (pe_op op_cat (pe_op op_cat (pe_slice sl_list (pv 2) po_none (po_some (pv 5))) (pe_lst (pa_cons (pv 4) pa_nil))) (pe_slice sl_list (pv 2) (po_some (pv 5)) po_none)))) pss_nil)))))
      (pss_one (ps_ret (pe_callTy call_tuple_of (by rfl) T.tuple (by decide +kernel) (pa_cons (pe_lc (own := [("one", 4)]) (g := gName 4) (tt := tYes) rfl scLShare.nd (pi_list (pv 2)) (blkOk_by (N := NLS) (sc := defScope sLShare) (by decide +kernel))
            (fun _ _ _ _ _ => pg_name (i := 4) scLShare.nd rfl (Or.inl rfl)) (fun _ _ _ _ _ => pts_nil)
            (fun _ _ _ _ _ => pe_tup (pa_cons (pv 4) (pa_cons (pe_n LR hr (by decide) (by rfl) (pa_cons (pe_op op_add pe_int (pe_n DR hr (by decide) (by rfl) (pa_cons (pv 0) (pa_cons pe_int pa_nil)))) (pa_cons (pe_op op_add pe_int (pe_n DR hr (by decide) (by rfl) (pa_cons (pv 0) (pa_cons pe_int pa_nil)))) pa_nil))) pa_nil)))) pa_nil))))), ?_⟩
    refine ⟨(by show 0 ≤ sizeLine; decide), fun a0 h0 => ?_⟩
    have s0 := same_new (o := .lst []) h0
    obtain ⟨ls, l1, _⟩ := S.ls
    have na0 : a0 ≠ l := (ne_of_none l1 h0).symm
    refine ⟨fun σ H1 => ∃ (t' : Int) (i : Nat) (a : Addr) (xs : List V) (ns : List Fq.F) (v3 v4 v5 : Option V), NI K H H1 p c l n t i t' a xs ns ∧ 0 < i ∧ i ≤ 4 ∧ σ = [some (V.ref p), some (V.int few), some (V.ref a), v3, v4, v5, none], ?_, ?_⟩
    · refine ⟨_, rfl, _, rfl, p, c, l, n, t, few, rfl, S.mono s0, by omega, by omega, by omega, fun H1 r r0 r1 S1 k1 => ?_⟩
      have sq0 : H1 a0 = some (.lst []) := k1 a0 _ upd_same (ne_of upd_same (S.mono s0).d (by intro z; cases z)) na0
      refine ⟨_, _, rfl, rfl, _, rfl, by omega, by omega, for_range (n := (1 + r).toNat) (fun i σ H1 => ∃ (t' : Int) (a : Addr) (xs : List V) (ns : List Fq.F) (v3 v4 v5 : Option V), NI K H H1 p c l n t i t' a xs ns ∧ σ = [some (V.ref p), some (V.int few), some (V.ref a), v3, v4, v5, none])
        ⟨t + 1, a0, [], [], none, none, none, ⟨S1, by omega, by omega, (Kp.of s0).trans k1, sq0, na0, .nil, fun q h => by simp at h, .nil, fun z => absurd z (by decide), Nat.zero_le _⟩, rfl⟩ ?_ ?_⟩
      · rintro i σ H2 hi ⟨t', a, xs, ns, v3, v4, v5, N, rfl⟩
        have ti := N.t2
        have tj := N.t1
        have lx := N.fx.len
        have ln := N.len
        refine ⟨_, rfl, p, c, l, n, t', 9, rfl, N.S, by omega, by decide, by decide, fun Ha x x0 x1 Sa ka => ?_⟩
        refine ⟨_, _, rfl, rfl, _, rfl, p, c, l, n, t' + 1, 2, rfl, Sa, by omega, by decide, by decide, fun Hb y y0 y1 Sb kb => ?_⟩
        refine ⟨_, _, rfl, rfl, _, _, rfl, by omega, ?_, fun p1 hp1 => ?_⟩
        · have : (1 + y).natAbs < 2 ^ 2 := by omega
          exact Lt2.mono (m := 2) this (by decide)
        have s1 := same_new (o := fr (red (x - 4) (1 + y))) hp1
        have f1 : Fr K (upd Hb p1 (fr (red (x - 4) (1 + y)))) (.ref p1) (red (x - 4) (1 + y)) := Fr.of upd_same
        obtain ⟨o1, o2, o3⟩ := red_small (x := x - 4) (y := 1 + y) (by omega)
        have sn1 : Sn (red (x - 4) (1 + y)) := ⟨o1, o2, by omega⟩
        have Sc : Sta (upd Hb p1 (fr (red (x - 4) (1 + y)))) p c l n (t' + 1 + 1) := Sb.mono s1
        have nap : a ≠ p := ne_of N.sq N.S.d (by intro z; cases z)
        have sqc : upd Hb p1 (fr (red (x - 4) (1 + y))) a = some (.lst xs) := s1 _ _ (kb a _ (ka a _ N.sq nap N.nl) nap N.nl)
        have fxc : FrAll K (upd Hb p1 (fr (red (x - 4) (1 + y)))) xs ns := ((N.fx.kp ka N.S).kp kb Sa).mono s1
        have kc : Kp p l H (upd Hb p1 (fr (red (x - 4) (1 + y)))) := ((N.k.trans ka).trans kb).trans (Kp.of s1)
        generalize upd Hb p1 (fr (red (x - 4) (1 + y))) = Hc at f1 Sc sqc fxc kc
        generalize red (x - 4) (1 + y) = q at f1 sn1
        clear o1 o2 o3 s1 hp1 ka kb Sa Sb
        have dlq : ∀ {r : Fq.F}, Sn r → Dl r := fun {r} h => dl_db (D := 2) (n := 3) ⟨h.ok, h.b, h.a⟩ (by decide) (by decide) (by decide)
        -- spot
        refine ⟨_, rfl, a, rfl, ⟨_, SqL.of sqc⟩, fun D hD => ?_⟩
        refine lc_list (K := K) (a := a) (xs := xs) (fun j H3 => Same Hc H3 ∧ ∃ acc, H3 D = some (.lst acc) ∧ acc.length = ((ns.take j).filter fun r => lt r q).length) ⟨same_new hD, [], upd_same, rfl⟩ (fun j H3 _ z => SqL.of (z.1 _ _ sqc)) ?_ ?_
        · rintro j u H3 hu ⟨s3, acc, hD3, la⟩
          obtain ⟨hj, _⟩ := List.getElem?_eq_some_iff.mp hu
          obtain ⟨u1, r, e1, e2, fr_⟩ := fxc.get (i := j) (by omega)
          rw [hu] at e1
          cases e1
          refine ⟨rfl, ?_⟩
          refine ⟨_, rfl, _, rfl, u, .ref p1, r, q, rfl, fr_.mono s3, f1.mono s3, ⟨dlq (N.sn r (List.mem_of_getElem? e2)), dlq sn1⟩, _, rfl, ?_⟩
          have et : ((ns.take (j + 1)).filter fun r => lt r q).length = ((ns.take j).filter fun r => lt r q).length + (if lt r q = true then 1 else 0) := by
            rw [take_one e2, List.filter_append, List.length_append]
            congr 1
            by_cases c : lt r q = true
            · rw [if_pos c, List.filter_cons_of_pos (by exact c)]
              rfl
            · rw [if_neg c, List.filter_cons_of_neg (by exact c)]
              rfl
          have lf : ((ns.take j).filter fun r => lt r q).length ≤ ns.length := Nat.le_trans (List.length_filter_le _ _) (by rw [List.length_take]; omega)
          refine ite2 (fun c => ?_) (fun c => ?_)
          · refine ⟨_, rfl, acc, hD3, small1000 (by omega), fun b o e => (upd_ne (ne_of_none e hD)).trans (s3 b o e), acc ++ [u], upd_same, ?_⟩
            rw [et, if_pos c, List.length_append, la]
            rfl
          · exact ⟨s3, acc, hD3, by rw [et, if_neg c, la]; rfl⟩
        rintro H3 ⟨s3, acc, hD3, la⟩
        rw [lx, List.take_length] at la
        refine ⟨D, acc, rfl, Or.inl (SqL.of hD3), ?_⟩
        have sp_le : acc.length ≤ xs.length := by
          rw [la, lx]
          exact List.length_filter_le _ _
        have sq3 := s3 _ _ sqc
        have fx3 := fxc.mono s3
        have S3' := Sc.mono s3
        have k3 := kc.trans (Kp.of s3)
        have f3 := f1.mono s3
        -- not in
        refine ⟨_, rfl, _, rfl, dF q, ns.map dF, f3.dp, .lst (SqL.of sq3) fx3.dp, shaped_dF q, shaped_dFs ns, _, rfl, ?_⟩
        rw [any_mem]
        by_cases m : q ∈ ns
        · rw [decide_eq_true m]
          refine iteF ?_
          exact ⟨t' + 1 + 1, a, xs, ns, _, _, _, ⟨S3', by omega, by omega, k3, sq3, N.nl, fx3, N.sn, N.asc, (fun _ z => by rw [z] at m; exact absurd m (List.not_mem_nil)), by omega⟩, rfl⟩
        · rw [decide_eq_false m]
          refine iteT ?_
          refine ⟨_, rfl, _, rfl, (acc.length : Int), rfl, a, xs, rfl, SqL.of sq3, fun b1 hb1 => ?_⟩
          rw [cut_to sp_le]
          have s4 := same_new (o := .lst (xs.take acc.length)) hb1
          refine ⟨_, rfl, (by show 1 ≤ sizeLine; decide), fun b2 hb2 => ?_⟩
          have s5 := same_new (o := .lst [V.ref p1]) hb2
          have l1' : (xs.take acc.length).length ≤ 4 := by rw [List.length_take]; omega
          refine ⟨b1, b2, _, _, rfl, rfl, s5 _ _ upd_same, upd_same, Nat.le_of_lt (small1000 (by show _ + 1 ≤ 1000; omega)), fun b3 hb3 => ?_⟩
          have s6 := same_new (o := .lst (xs.take acc.length ++ [V.ref p1])) hb3
          have s46 := s4.trans (s5.trans s6)
          refine ⟨_, rfl, _, rfl, (acc.length : Int), rfl, a, xs, rfl, SqL.of (s46 _ _ sq3), fun b4 hb4 => ?_⟩
          rw [cut_from sp_le]
          have s7 := same_new (o := .lst (xs.drop acc.length)) hb4
          have l2' : (xs.drop acc.length).length ≤ 4 := by rw [List.length_drop]; omega
          refine ⟨b3, b4, _, _, rfl, rfl, s7 _ _ upd_same, upd_same, Nat.le_of_lt (small1000 (by rw [List.length_append]; show _ + 1 + _ ≤ 1000; omega)), fun b5 hb5 => ?_⟩
          have s8 := same_new (o := .lst (xs.take acc.length ++ [V.ref p1] ++ xs.drop acc.length)) hb5
          have s48 := s46.trans (s7.trans s8)
          have S8 := S3'.mono s48
          obtain ⟨ls8, l8, _⟩ := (S3'.mono (s46.trans s7)).ls
          have nb5 : b5 ≠ l := (ne_of_none l8 hb5).symm
          have fx8 := fx3.mono s48
          have ea := asc_ins sn1.ok (fun r hr => (N.sn r hr).ok) N.asc m
          rw [← la] at ea
          refine ⟨t' + 1 + 1, b5, _, ns.take acc.length ++ [q] ++ ns.drop acc.length, _, _, _, ⟨S8, by omega, by omega, k3.trans (Kp.of s48), upd_same, nb5, FrAll.app (FrAll.app (fx8.take _) (.cons (f3.mono s48) .nil)) (FrAll.drop _ fx8), ?_, ea, ?_, ?_⟩, rfl⟩
          · intro r hr
            rcases List.mem_append.mp hr with h | h
            · rcases List.mem_append.mp h with h | h
              · exact N.sn r (List.mem_of_mem_take h)
              · rw [List.mem_singleton.mp h]
                exact sn1
            · exact N.sn r (List.mem_of_mem_drop h)
          · intro _ z
            have := congrArg List.length z
            rw [List.length_append, List.length_append] at this
            simp at this
          · rw [List.length_append, List.length_append, List.length_take, List.length_drop]
            show _ + 1 + _ ≤ _
            omega
      · rintro σ H2 ⟨t', a, xs, ns, v3, v4, v5, N, rfl⟩
        exact ⟨t', (1 + r).toNat, a, xs, ns, v3, v4, v5, N, by omega, by omega, rfl⟩
    rintro σ H1 ⟨t', i, a, xs, ns, v3, v4, v5, N, i0, i4, rfl⟩
    have ti := N.t2
    have tj := N.t1
    have lx := N.fx.len
    have ln := N.len
    refine ⟨_, rfl, a, rfl, ⟨_, SqL.of N.sq⟩, fun D hD => ?_⟩
    have s1 := same_new (o := .lst []) hD
    obtain ⟨ls1, c1, _⟩ := N.S.ls
    obtain ⟨cs1, c2, _⟩ := N.S.cs
    have nc : c ≠ D := ne_of_none c2 hD
    have nl : l ≠ D := ne_of_none c1 hD
    have np : p ≠ D := ne_of_none N.S.d hD
    refine lc_list (K := K) (a := a) (xs := xs) (fun j H2 => ∃ (u : Int) (acc : List V) (ps : List Pr), H2 D = some (.lst acc) ∧ PrAll K H2 acc ps ∧ ps.map (·.1) = ns.take j ∧ (∀ r ∈ ps, Sp2 r) ∧ Sta H2 p c l n u ∧ t' ≤ u ∧ u ≤ t' + 2 * j ∧ (∀ b o, H b = some o → b ≠ p → b ≠ l → H2 b = some o) ∧ H2 a = some (.lst xs) ∧ FrAll K H2 xs ns)
      ⟨t', [], [], upd_same, .nil, rfl, fun r h => by simp at h, N.S.mono s1, by omega, by omega, fun b o e n1 n2 => s1 b o (N.k b o e n1 n2), s1 _ _ N.sq, N.fx.mono s1⟩ ?_ ?_ ?_
    · rintro j H2 _ ⟨_, _, _, _, _, _, _, _, _, _, _, z, _⟩
      exact SqL.of z
    · rintro j x H2 hx ⟨u, acc, ps, hD2, pa, em, sp2, S2, u1, u2, kk2, sq2, fx2⟩
      obtain ⟨hj, _⟩ := List.getElem?_eq_some_iff.mp hx
      obtain ⟨x1, q, e1, e2, fq⟩ := fx2.get (i := j) (by omega)
      rw [hx] at e1
      cases e1
      have snq := N.sn q (List.mem_of_getElem? e2)
      have la : acc.length ≤ 4 := by
        rw [pa.len]
        have := congrArg List.length em
        rw [List.length_map, List.length_take] at this
        omega
      refine ⟨rfl, ?_⟩
      refine iteT (B := ∃ (u : Int) (acc : List V) (ps : List Pr), H2 D = some (.lst acc) ∧ PrAll K H2 acc ps ∧ ps.map (·.1) = ns.take (j + 1) ∧ (∀ r ∈ ps, Sp2 r) ∧ Sta H2 p c l n u ∧ t' ≤ u ∧ u ≤ t' + 2 * ((j + 1 : Nat) : Int) ∧ (∀ b o, H b = some o → b ≠ p → b ≠ l → H2 b = some o) ∧ H2 a = some (.lst xs) ∧ FrAll K H2 xs ns) ?_
      refine ⟨_, rfl, _, rfl, p, c, l, n, u, 4, rfl, S2, by omega, by decide, by decide, fun Ha y y0 y1 Sa ka => ?_⟩
      refine ⟨_, _, rfl, rfl, _, rfl, p, c, l, n, u + 1, 2, rfl, Sa, by omega, by decide, by decide, fun Hb y2 y20 y21 Sb kb => ?_⟩
      refine ⟨_, _, rfl, rfl, _, _, rfl, by omega, ?_, fun p1 hp1 => ?_⟩
      · have : (1 + y2).natAbs < 2 ^ 2 := by omega
        exact Lt2.mono (m := 2) this (by decide)
      have s3 := same_new (o := fr (red (1 + y) (1 + y2))) hp1
      refine ⟨(by show 2 ≤ sizeLine; decide), fun p2 hp2 => ?_⟩
      have s4 := same_new (o := .tup [x, V.ref p1]) hp2
      have s34 := s3.trans s4
      obtain ⟨o1, o2, o3⟩ := red_small (x := 1 + y) (y := 1 + y2) (by omega)
      have op := red_pos (a := 1 + y) (b := 1 + y2) (by omega) (by omega)
      have fqb := ((ka.fr S2 fq).mono (H' := Ha) (fun _ _ z => z))
      have fq4 := (kb.fr Sa fqb).mono s34
      have f2 : Fr K (upd Hb p1 (fr (red (1 + y) (1 + y2)))) (.ref p1) (red (1 + y) (1 + y2)) := Fr.of upd_same
      have pv4 : PrV K (upd (upd Hb p1 (fr (red (1 + y) (1 + y2)))) p2 (.tup [x, V.ref p1])) (.ref p2) (q, red (1 + y) (1 + y2)) := ⟨p2, x, .ref p1, rfl, SqT.of upd_same, fq4, f2.mono s4⟩
      have hDa : Ha D = some (.lst acc) := ka D _ hD2 np.symm nl.symm
      have hDb : Hb D = some (.lst acc) := kb D _ hDa np.symm nl.symm
      have hD4 := s34 _ _ hDb
      have S4 := Sb.mono s34
      refine ⟨acc, hD4, small1000 (by omega), u + 1 + 1, acc ++ [.ref p2], ps ++ [(q, red (1 + y) (1 + y2))], upd_same, ?_, ?_, ?_, S4.off hD4 nc nl, by omega, by omega, ?_, ?_, ?_⟩
      · exact (PrAll.off hD4 (((pa.kp ka S2).kp kb Sa).mono s34)).snoc (pv4.off hD4)
      · rw [List.map_append, em, take_one e2]
        rfl
      · intro r hr
        rcases List.mem_append.mp hr with h | h
        · exact sp2 r h
        · rw [List.mem_singleton.mp h]
          exact ⟨snq.ok, snq.b, snq.a, o1, o2, by show (red (1 + y) (1 + y2)).1.natAbs < 16; omega, op.1⟩
      · intro b o e n1 n2
        have nb : b ≠ D := ne_of_none (N.k b o e n1 n2) hD
        exact (upd_ne nb).trans (s34 b o (kb b o (ka b o (kk2 b o e n1 n2) n1 n2) n1 n2))
      · have nap : a ≠ p := ne_of sq2 S2.d (by intro z; cases z)
        have naD : a ≠ D := ne_of_none N.sq hD
        exact (upd_ne naD).trans (s34 _ _ (kb a _ (ka a _ sq2 nap N.nl) nap N.nl))
      · exact FrAll.off hD4 (((fx2.kp ka S2).kp kb Sa).mono s34)
    · rintro H2 ⟨u, acc, ps, hD2, pa, em, sp2, S2, u1, u2, kk2, sq2, fx2⟩
      rw [lx, List.take_length] at em
      have lp : ps.length = ns.length := by
        have := congrArg List.length em
        rwa [List.length_map] at this
      have np' : ps ≠ [] := by
        rintro rfl
        exact N.ne i0 em.symm
      refine ⟨D, acc, rfl, Or.inl ⟨SqL.of hD2, fun b hb => ?_⟩⟩
      have s2 := same_new (o := .tup acc) hb
      refine kk _ (.ref b) ps u (.tup (SqT.of upd_same) (pa.mono s2).dp) sp2 np' (by omega) (share_of sp2 np' (by omega) (by rw [em]; exact N.asc)) (by omega) (by omega) (S2.mono s2) (fun b' o e n1 n2 => s2 _ _ (kk2 b' o e n1 n2))
end
end Rs


set_option Elab.async false
set_option linter.all false
set_option maxRecDepth 100000
set_option maxHeartbeats 1000000
namespace Rs
open PySem L2 Bs Fq LamX RZ
theorem cat_any {K : PySem.W.Frag} {H : Hp} {Q : VK} {a b : Addr} {xs ys : List V} (ha : SqT K H a xs) (hb : SqT K H b ys) (sz : xs.length + ys.length ≤ sizeLine) (k : ∀ c H', Same H H' → SqT K H' c (xs ++ ys) → Q (.ref c) H') : rCatA K (.ref a) (.ref b) H Q := by
  refine ⟨a, b, xs, ys, rfl, rfl, ha, hb, sz, fun e => ?_, fun _ e => ?_, fun _ _ p hp => k p _ (same_new hp) (SqT.of upd_same)⟩
  · subst e
    exact k b H (fun _ _ z => z) hb
  · subst e
    refine k a H (fun _ _ z => z) ?_
    rw [List.append_nil]
    exact ha
/-- _law_row(state) -/
def spLRow (K : PySem.W.Frag) : Sp := fun vs H Q _ => ∃ (p c l : Addr) (n : Nat) (t : Int), vs = [.ref p] ∧ Sta H p c l n t ∧ t ≤ 7000 ∧
  ∀ (H' : Hp) (v : V) (qs : List F) (t' : Int), Po K H' v qs → Rw qs → qs.length ≤ 8 → t ≤ t' → t' ≤ t + 21 → Sta H' p c l n t' → Kp p l H H' → Q v H'
abbrev NLR : List Str := ["state", "row", "at", "late"]
section
variable {P : Program} {w : World} {K : PySem.W.Frag} {mg : Str → Option Value} {base : Heap} {f : Addr} {fd : FuncData}
theorem scLRow : FnScope NLR ["state"] (defScope sLRow) := ⟨rfl, rfl, rfl, by decide +kernel, rfl, by decide +kernel, by decide +kernel⟩
theorem ok_lrow (F : Fun K "_law_row" "_law_row" sLRow f fd) (T : Blt mg) (DR : Cal P w K mg base 2 "_law_draw" spDraw) (LR : Cal P w K mg base 1 "_law_ratio" spLRatio) (lP : Cal P w K mg base 2 "_law_plus" (spOp K add domL)) (SH : Cal P w K mg base 3 "_law_share" (spLShare K)) (LM : Cal P w K mg base 4 "_law_moments" (spLMoms K)) :
    FnOk P w K mg base CX0 5 f fd ["state"] (spLRow K) := by
  refine F.ok scLRow (fun vs H Q E h => ?_) (fun cdv A outer s H vs Q E hr h => ?_)
  · obtain ⟨p, c, l, n, t, rfl, _⟩ := h
    rfl
  · obtain ⟨p, c, l, n, t, rfl, S, t7, kk⟩ := h
    refine ⟨_, pss_cons (ps_set (i := 1) scLRow.nd rfl (Or.inl rfl) (pe_n LM hr (by decide) (by rfl) (pa_cons (pe_n SH hr (by decide) (by rfl) (pa_cons (pv 0) (pa_cons pe_int pa_nil))) (pa_cons (pe_n DR hr (by decide) (by rfl) (pa_cons (pv 0) (pa_cons pe_int pa_nil))) pa_nil))))
      (C8.pss_cut (ps_if (pt_cmpR op_eq (pe_n DR hr (by decide) (by rfl) (pa_cons (pv 0) (pa_cons pe_int pa_nil))) pe_int (nomark _))
        (pss_cons (ps_set (i := 2) scLRow.nd rfl (Or.inl rfl) (pe_n DR hr (by decide) (by rfl) (pa_cons (pv 0) (pa_cons (pe_callB call_len_seq (by rfl) T.len (by decide +kernel) (pa_cons (pv 1) pa_nil)) pa_nil))))
        (pss_cons (ps_set (i := 3) scLRow.nd rfl (Or.inl rfl) (pe_n lP hr (by decide) (by rfl) (pa_cons (pe_ix ix_tup (pv 1) (pv 2) (fun _ _ => rfl)) (pa_cons (pe_n LR hr (by decide) (by rfl) (pa_cons (pe_op op_sub (pe_n DR hr (by decide) (by rfl) (pa_cons (pv 0) (pa_cons pe_int pa_nil))) pe_int) (pa_cons pe_int pa_nil))) pa_nil))))
        (pss_one (ps_set (i := 1) scLRow.nd rfl (Or.inl rfl) (pe_op op_catA (pe_op op_catA (pe_slice sl_tupA (pv 1) po_none (po_some (pv 2))) (pe_tup (pa_cons (pv 3) pa_nil))) (pe_slice sl_tupA (pv 1) (po_some (pe_op op_add (pv 2) pe_int)) po_none)))))) pss_nil)
      (pss_one (ps_ret (pe_ifExp (pt_cmpR op_gt (pe_ix ix_tup (pe_ix ix_tup (pv 1) pe_int (fun _ _ => rfl)) pe_int (fun _ _ => rfl)) pe_int (nomark _)) (pv 1) (pe_op op_catA (pe_tup (pa_cons (pe_tup (pa_cons pe_int (pa_cons pe_int pa_nil))) pa_nil)) (pe_slice sl_tupA (pv 1) (po_some pe_int) po_none)))))), ?_⟩
    refine ⟨_, rfl, p, c, l, n, t, 3, rfl, S, by omega, by decide, by decide, fun H1 v ps t1 hs sp2 pn pl _ t1a t1b S1 k1 => ?_⟩
    refine ⟨_, rfl, p, c, l, n, t1, 8, rfl, S1, by omega, by decide, by decide, fun H2 r r0 r1 S2 k2 => ?_⟩
    have hs2 : Shr K H2 v ps := by
      obtain ⟨a, xs, rfl, sx, all⟩ := hs.open
      refine .tup (sqT_kp k2 S1 sx) ?_
      clear hs sp2 pn pl
      have go : ∀ {vs : List V} {rs : List Pr}, DpAll K H1 vs (rs.map dPr) → DpAll K H2 vs (rs.map dPr) := by
        intro vs rs
        induction rs generalizing vs with
        | nil =>
          intro h
          cases h
          exact .nil
        | cons r rs ih =>
          intro h
          cases h with
          | cons h1 h2 => exact .cons (PrV.dp (PrV.kp k2 S1 (prOf h1))) (ih h2)
      exact go all
    refine ⟨v, ps, r, rfl, hs2, sp2, pl, r0, by omega, fun H3 b s3 po => ?_⟩
    have k13 := (k1.trans k2).trans (Kp.of s3)
    have S3' := S2.mono s3
    have rw0 := moms_rw sp2 pn pl (k := r.toNat) (by omega)
    have len0 : (moms ps r.toNat).length ≤ 8 := by rw [moms_len]; omega
    have db0 := moms_db sp2 pl (n := r.toNat) (by omega)
    generalize moms ps r.toNat = qs0 at po rw0 len0 db0
    refine ⟨fun σ H4 => ∃ (b : Addr) (qs : List Fq.F) (t' : Int) (v2 v3 : Option V), Po K H4 (.ref b) qs ∧ (∀ q ∈ qs, Db 512 130 q) ∧ qs ≠ [] ∧ qs.length ≤ 8 ∧ t ≤ t' ∧ t' ≤ t + 21 ∧ Sta H4 p c l n t' ∧ Kp p l H H4 ∧ σ = [some (V.ref p), some (V.ref b), v2, v3], ?_, ?_⟩
    · refine ⟨_, rfl, p, c, l, n, t1 + 1, 3, rfl, S3', by omega, by decide, by decide, fun H4 x x0 x1 S4 k4 => ?_⟩
      have po4 := po.kp k4 S3'
      refine ⟨rfl, _, rfl, ?_⟩
      refine ite2 (fun cx => ?_) (fun cx => ?_)
      · obtain ⟨a, xs, ea, sx, fx⟩ := id po4
        cases ea
        have lx := fx.len
        have ne0 := List.length_pos_iff.mpr rw0.n
        refine ⟨_, rfl, _, rfl, b, xs, rfl, Or.inr sx, p, c, l, n, t1 + 1 + 1, _, rfl, S4, by omega, by omega, by omega, fun H5 y y0 y1 S5 k5 => ?_⟩
        obtain ⟨i, rfl⟩ : ∃ i : Nat, y = (i : Int) := ⟨y.toNat, by omega⟩
        have hi : i < xs.length := by omega
        have po5 := po4.kp k5 S4
        obtain ⟨a5, xs5, ea5, sx5, fx5⟩ := id po5
        cases ea5
        have lx5 := fx5.len
        obtain ⟨u, q, e1, e2, fq⟩ := fx5.get (i := i) (by omega)
        refine ⟨_, rfl, _, rfl, b, xs5, _, u, rfl, rfl, sx5, atI_nat e1, ?_⟩
        refine ⟨_, rfl, p, c, l, n, t1 + 1 + 1 + 1, 5, rfl, S5, by omega, by decide, by decide, fun H6 z z0 z1 S6 k6 => ?_⟩
        have po6 := po5.kp k6 S5
        have fq6 := k6.fr S5 fq
        refine ⟨_, _, rfl, rfl, _, _, rfl, by decide, Lt2.mono (m := 2) (by show (2 : Int).natAbs < 4; decide) (by decide), fun p1 hp1 => ?_⟩
        have s7 := same_new (o := fr (red (z - 2) 2)) hp1
        obtain ⟨o1, o2, o3⟩ := red_small (x := z - 2) (y := 2) (.inr rfl)
        have dr : Db 2 4 (red (z - 2) 2) := ⟨o1, o2, by show (red (z - 2) 2).1.natAbs < 16; omega⟩
        have dq := db0 q (List.mem_of_getElem? e2)
        refine ⟨u, .ref p1, q, red (z - 2) 2, rfl, fq6.mono s7, Fr.of upd_same, ⟨dl_db dq (by decide) (by decide) (by decide), dl_db dr (by decide) (by decide) (by decide)⟩, fun p2 hp2 => ?_⟩
        have s8 := same_new (o := fr (add q (red (z - 2) 2))) hp2
        have s78 := s7.trans s8
        have dl_ : Db 512 130 (add q (red (z - 2) 2)) := (dq.add ((dr.weak (E := 512) (by decide)).mono (by decide)) (by decide) (by decide)).mono (by decide)
        have po8 := po6.mono s78
        have f8 : Fr K (upd (upd H6 p1 (fr (red (z - 2) 2))) p2 (fr (add q (red (z - 2) 2)))) (.ref p2) (add q (red (z - 2) 2)) := Fr.of upd_same
        have S8 := S6.mono s78
        have k8 : Kp p l H (upd (upd H6 p1 (fr (red (z - 2) 2))) p2 (fr (add q (red (z - 2) 2)))) := (((k13.trans k4).trans k5).trans k6).trans (Kp.of s78)
        generalize upd (upd H6 p1 (fr (red (z - 2) 2))) p2 (fr (add q (red (z - 2) 2))) = H8 at po8 f8 S8 k8
        generalize add q (red (z - 2) 2) = lq at dl_ f8
        obtain ⟨a8, xs8, ea8, sx8, fx8⟩ := id po8
        cases ea8
        have lx8 := fx8.len
        have nw : ¬ (HT.sIx xs8.length 0 none = 0 ∧ HT.sIx xs8.length xs8.length (some (i : Int)) = xs8.length) := by
          rintro ⟨_, z⟩
          rw [HT.sIx_nat] at z
          omega
        refine ⟨_, rfl, _, rfl, (i : Int), rfl, b, xs8, rfl, sx8, (fun z => absurd z nw), fun _ b1 hb1 => ?_⟩
        rw [cut_to (by omega)]
        have s9 := same_new (o := .tup (xs8.take i)) hb1
        refine ⟨_, rfl, (by show 1 ≤ sizeLine; decide), fun b2 hb2 => ?_⟩
        have s10 := same_new (o := .tup [V.ref p2]) hb2
        have l8 : xs8.length ≤ 8 := by omega
        refine cat_any (xs := xs8.take i) (ys := [V.ref p2]) (SqT.of (s10 _ _ upd_same)) (SqT.of upd_same) (Nat.le_of_lt (small1000 (by rw [List.length_take]; show _ + 1 ≤ 1000; omega))) (fun b3 H9 s11 sq3 => ?_)
        have s911 := (s9.trans s10).trans s11
        have nw2 : ¬ (HT.sIx xs8.length 0 (some ((i : Int) + 1)) = 0 ∧ HT.sIx xs8.length xs8.length none = xs8.length) := by
          rintro ⟨z, _⟩
          rw [show (i : Int) + 1 = ((i + 1 : Nat) : Int) by omega, HT.sIx_nat] at z
          omega
        refine ⟨_, rfl, _, rfl, _, _, rfl, rfl, (i : Int) + 1, rfl, b, xs8, rfl, Bs.Same.t s911 sx8, (fun z => absurd z nw2), fun _ b4 hb4 => ?_⟩
        rw [show (i : Int) + 1 = ((i + 1 : Nat) : Int) by omega, cut_from (by omega)]
        have s12 := same_new (o := .tup (xs8.drop (i + 1))) hb4
        refine cat_any (xs := xs8.take i ++ [V.ref p2]) (ys := xs8.drop (i + 1)) (Bs.Same.t s12 sq3) (SqT.of upd_same) (Nat.le_of_lt (small1000 (by rw [List.length_append, List.length_take, List.length_drop]; show _ + 1 + _ ≤ 1000; omega))) (fun b5 H10 s13 sq5 => ?_)
        have s913 := s911.trans (s12.trans s13)
        refine ⟨b5, qs0.take i ++ [lq] ++ qs0.drop (i + 1), t1 + 1 + 1 + 1 + 1, _, _, ⟨b5, _, rfl, sq5, ?_⟩, ?_, ?_, ?_, by omega, by omega, S8.mono s913, k8.trans (Kp.of s913), rfl⟩
        · have fx10 := fx8.mono s913
          exact FrAll.app (FrAll.app (fx10.take i) (.cons (f8.mono s913) .nil)) (FrAll.drop (i + 1) fx10)
        · intro r' hr'
          rcases List.mem_append.mp hr' with h | h
          · rcases List.mem_append.mp h with h | h
            · exact rw0.d r' (List.mem_of_mem_take h)
            · rw [List.mem_singleton.mp h]
              exact dl_
          · exact rw0.d r' (List.mem_of_mem_drop h)
        · intro z
          have := congrArg List.length z
          rw [List.length_append, List.length_append] at this
          simp at this
        · rw [List.length_append, List.length_append, List.length_take, List.length_drop]
          show _ + 1 + _ ≤ 8
          omega
      · exact ⟨b, qs0, t1 + 1 + 1, _, _, po4, rw0.d, rw0.n, len0, by omega, by omega, S4, k13.trans k4, rfl⟩
    rintro σ H4 ⟨b, qs, t', v2, v3, po4, dq, ne, l8, ta, tb, S4, k4, rfl⟩
    obtain ⟨a, xs, ea, sx, fx⟩ := id po4
    cases ea
    cases fx with
    | nil => exact absurd rfl ne
    | cons h1 h2 =>
      rename_i u us q rs
      obtain ⟨c1, rfl, s1⟩ := h1
      refine ⟨_, rfl, b, _, 0, _, rfl, rfl, sx, atI_nat (j := 0) rfl, c1, _, 0, _, rfl, rfl, s1, rfl, _, _, rfl, rfl, _, rfl, ?_⟩
      refine ite2 (fun cx => ?_) (fun cx => ?_)
      · exact ⟨_, rfl, kk H4 _ _ t' po4 ⟨dq, ne, by omega, fun q' r' e => by cases e; exact of_decide_eq_true cx⟩ l8 ta tb S4 k4⟩
      · refine ⟨(by show 2 ≤ sizeLine; decide), fun b1 hb1 => ⟨(by show 1 ≤ sizeLine; decide), fun b2 hb2 => ?_⟩⟩
        have s5 := same_new (o := .tup [.int 1, .int 1]) hb1
        have s6 := same_new (o := .tup [V.ref b1]) hb2
        have s56 := s5.trans s6
        have f1 : Fr K (upd (upd H4 b1 (.tup [.int 1, .int 1])) b2 (.tup [V.ref b1])) (.ref b1) (1, 1) := (Fr.of (upd_same (H := H4) (a := b1) (o := fr (1, 1)))).mono s6
        refine ⟨_, rfl, 1, rfl, b, _, rfl, Bs.Same.t s56 sx, (fun z => absurd z (not_whole (by rw [List.length_cons]; omega))), fun _ b3 hb3 => ?_⟩
        rw [cut_tail (by rw [List.length_cons]; omega)]
        have s7 := same_new (o := .tup us) hb3
        have lus := h2.len
        rw [List.length_cons] at l8
        refine cat_any (xs := [V.ref b1]) (ys := us) (SqT.of (s7 _ _ upd_same)) (SqT.of upd_same) (Nat.le_of_lt (small1000 (by show 1 + _ ≤ 1000; omega))) (fun b4 H9 s8 sq => ?_)
        have s58 := s56.trans (s7.trans s8)
        refine kk H9 _ ((1, 1) :: rs) t' ⟨b4, _, rfl, sq, .cons (f1.mono (s7.trans s8)) (h2.mono s58)⟩ ⟨?_, by simp, by rw [List.length_cons]; omega, fun q' r' e => by cases e; decide⟩ (by rw [List.length_cons]; omega) ta tb (S4.mono s58) (k4.trans (Kp.of s58))
        intro r' hr'
        rcases List.mem_cons.mp hr' with rfl | h
        · exact ⟨⟨by decide, by decide⟩, by decide, by decide⟩
        · exact dq r' (List.mem_cons_of_mem _ h)
end
end Rs


set_option Elab.async false
set_option linter.all false
set_option maxRecDepth 100000
set_option maxHeartbeats 400000
namespace Rs
open PySem L2 Bs Fq LamX LmD Hd TA2
abbrev sHeard : Stmt := top 57
/-- the words, fields and classes of _law_heard -/
structure Cls where
  R : Addr
  S : Addr
  P : Addr
  N : Addr
  F : Addr
def rowsH (C : Cls) : List Row := [("row", "given", C.R), ("share", "given", C.S), ("poly", "given", C.P), ("number", "given", C.N), ("fraction", "given", C.F)]
structure HeardK (K : PySem.W.Frag) (mg : Str → Option Value) (g : Addr) (C : Cls) : Prop where
  mgf : mg "_law_heard" = some (.ref g)
  kp : PySem.W.keepIn K (.ref g) = true
  ex : ∃ (oc : Value) (od : Option Addr) (kV doc pm : Value) (an : Option Addr) (cdv ct : Value) (osl : Array (Option Value)),
    K.lookup g = some ⟨oc, od, .func (PySem.W.fnOf "_law_heard" "_law_heard" (defArgs sHeard) (defBody sHeard) (defScope sHeard) .none kV doc pm an cdv ct), osl⟩ ∧ PySem.W.codeIn K cdv "_law_heard" = true
  mR : mg "BadRow" = some (.ref C.R)
  mS : mg "BadShare" = some (.ref C.S)
  mP : mg "BadPoly" = some (.ref C.P)
  mN : mg "BadNumber" = some (.ref C.N)
  mF : mg "BadFraction" = some (.ref C.F)
  xR : XfC K C.R
  xS : XfC K C.S
  xP : XfC K C.P
  xN : XfC K C.N
  xF : XfC K C.F
  nR : PySem.W.findIn K (.ref C.R) "given" = some none
  nS : PySem.W.findIn K (.ref C.S) "given" = some none
  nP : PySem.W.findIn K (.ref C.P) "given" = some none
  nN : PySem.W.findIn K (.ref C.N) "given" = some none
  nF : PySem.W.findIn K (.ref C.F) "given" = some none
  xRR : PySem.W.exmOne K (.ref C.R) (.ref C.R) = some true
  xSR : PySem.W.exmOne K (.ref C.S) (.ref C.R) = some false
  xSS : PySem.W.exmOne K (.ref C.S) (.ref C.S) = some true
  xPR : PySem.W.exmOne K (.ref C.P) (.ref C.R) = some false
  xPS : PySem.W.exmOne K (.ref C.P) (.ref C.S) = some false
  xPP : PySem.W.exmOne K (.ref C.P) (.ref C.P) = some true
  xNR : PySem.W.exmOne K (.ref C.N) (.ref C.R) = some false
  xNS : PySem.W.exmOne K (.ref C.N) (.ref C.S) = some false
  xNP : PySem.W.exmOne K (.ref C.N) (.ref C.P) = some false
  xNN : PySem.W.exmOne K (.ref C.N) (.ref C.N) = some true
  xFR : PySem.W.exmOne K (.ref C.F) (.ref C.R) = some false
  xFS : PySem.W.exmOne K (.ref C.F) (.ref C.S) = some false
  xFP : PySem.W.exmOne K (.ref C.F) (.ref C.P) = some false
  xFN : PySem.W.exmOne K (.ref C.F) (.ref C.N) = some false
  xFF : PySem.W.exmOne K (.ref C.F) (.ref C.F) = some true
theorem scHeard : FnScope ["call", "error"] ["call"] (defScope sHeard) := ⟨rfl, rfl, rfl, by decide +kernel, rfl, by decide +kernel, by decide +kernel⟩
/-- where the lambdas of a def leave their code -/
structure TabOk (X : Cx) (Ts : List (Addr × Str)) (c P : Addr) : Prop where
  tb : TabB X.base X.mg c P
  code : X.env.code = .ref c
  mem : (P, X.env.qual ++ "<lambda>") ∈ Ts
  one : ∀ p ∈ Ts, p.1 = P → p.2 = X.env.qual ++ "<lambda>"
abbrev noA : Arguments := { posonlyargs := [], args := [], vararg := none, kwonlyargs := [], kw_defaults := [], kwarg := none, defaults := [] }
section
variable {X : Cx} {Ts : List (Addr × Str)} {g c P : Addr} {C : Cls} {k : Nat} {body : Expr} {scope : Scope} {t : XK → TE} {p lpos pos : Pos}
theorem heard_here (Hk : HeardK X.K X.mg g C) {q : Str} {cdv : Value} : GivesTo X ["call", "error"] "_law_heard" (defScope sHeard) g cdv (defBody sHeard) "call" q (TTh X.K (rowsH C)) := by
  refine heard_gives (i := 1) (l := rowsH C) scHeard.nd (by decide) (fun s H => ?_) (fun f => rfl)
  exact one_clause (i := 1) Hk.xR Hk.nR ⟨by rfl, by decide, .inl Hk.mR⟩ rfl rfl
    (one_clause (i := 1) Hk.xS Hk.nS ⟨by rfl, by decide, .inl Hk.mS⟩ rfl rfl
    (one_clause (i := 1) Hk.xP Hk.nP ⟨by rfl, by decide, .inl Hk.mP⟩ rfl rfl
    (one_clause (i := 1) Hk.xN Hk.nN ⟨by rfl, by decide, .inl Hk.mN⟩ rfl rfl
    (one_clause (i := 1) Hk.xF Hk.nF ⟨by rfl, by decide, .inl Hk.mF⟩ rfl rfl .stop))))
theorem pe_hd (Hk : HeardK X.K X.mg g C) (Tk : TabOk X Ts c P) (hr : Room (k + 2) X.A) (hg : Gl X "_law_heard") (L : LamS X.env.scope scope)
    (hbody : ∀ (A : Around) (outer : List Env) (s : Shared) (H : Hp) (E : XK) (f c' : Addr), Room k (A.deeper (lamEnv X scope s.heap.objs.size f c')) → PE (lamCx X A outer s H E scope f c') body (t E)) :
    PE X (.Call (.Name "_law_heard" p) [.Lambda noA body scope lpos] [] pos) (tLam Ts (TTh X.K (rowsH C)) t) := by
  obtain ⟨oc, od, kV, doc, pm, an, cdv, ct, osl, lk, hc⟩ := Hk.ex
  have F := fun_mk (st := sHeard) lk hc Hk.kp
  have b := F.binds (ps := ["call"]) fun _ _ _ _ _ _ us hl => match us, hl with | [_], _ => rfl
  exact pe_lamcall (P := P) (c := c) hg Hk.mgf Hk.kp lk hc b scHeard rfl (.inl rfl) (heard_here Hk) Tk.tb Tk.code Tk.mem Tk.one hr L rfl (fun _ _ _ _ _ => rfl) hbody
theorem pe_hdD {x : Str} {n : Int} {j : Nat} {p1 p2 : Pos} (Hk : HeardK X.K X.mg g C) (Tk : TabOk X Ts c P) (hr : Room (k + 2) X.A) (hg : Gl X "_law_heard") (S : ScD X.env.scope scope x) (nx : ∀ i : Nat, X.N[i]? ≠ some x)
    (hbd : BindD x n (one x n p1 p2 j) body scope)
    (hbody : ∀ (A : Around) (outer : List Env) (s : Shared) (H : Hp) (E : XK) (f c' : Addr), Room k (A.deeper (lamEnv X scope s.heap.objs.size f c')) → PE (lamCx X A outer s H E scope f c') body (t E)) :
    PE X (.Call (.Name "_law_heard" p) [.Lambda (one x n p1 p2 j) body scope lpos] [] pos) (tLam Ts (TTh X.K (rowsH C)) t) := by
  obtain ⟨oc, od, kV, doc, pm, an, cdv, ct, osl, lk, hc⟩ := Hk.ex
  have F := fun_mk (st := sHeard) lk hc Hk.kp
  have b := F.binds (ps := ["call"]) fun _ _ _ _ _ _ us hl => match us, hl with | [_], _ => rfl
  exact pe_lamD (P := P) (c := c) hg Hk.mgf Hk.kp lk hc b scHeard rfl (.inl rfl) (heard_here Hk) Tk.tb Tk.code Tk.mem Tk.one hr S nx hbd hbody
end
theorem bindD {n : Int} {p1 p2 : Pos} {j : Nat} {body : Expr} {scope : Scope} : BindD "own" n (one "own" n p1 p2 j) body scope := fun _ _ _ _ _ _ _ => ⟨_, rfl, rfl⟩
/-! ### what stays where lambdas are made and the state is changed -/
def KE (p l : Addr) (H H' : Hp) : Prop := ∀ b o, H b = some o → b ≠ p → b ≠ l → (∀ ps, o ≠ .tbl ps) → H' b = some o
theorem KE.trans {p l : Addr} {H1 H2 H3 : Hp} (a : KE p l H1 H2) (b : KE p l H2 H3) : KE p l H1 H3 := fun x o e n1 n2 n3 => b x o (a x o e n1 n2 n3) n1 n2 n3
theorem Kp.ke {p l : Addr} {H H' : Hp} (k : Kp p l H H') : KE p l H H' := fun b o e n1 n2 _ => k b o e n1 n2
theorem ExtN.ke {p l : Addr} {H H' : Hp} (k : ExtN H H') : KE p l H H' := fun b o e _ _ n => k b o e n
theorem ExtN.same {H H' : Hp} (k : Same H H') : ExtN H H' := fun b o e _ => k b o e
theorem ExtN.t {K : PySem.W.Frag} {H H' : Hp} {a : Addr} {xs : List V} (e : ExtN H H') (h : SqT K H a xs) : SqT K H' a xs := by
  rcases h with (h | ⟨o, h⟩) | h
  · exact .inl (.inl (e _ _ h (by intro ps z; cases z)))
  · exact .inl (.inr ⟨o, e _ _ h (by intro ps z; cases z)⟩)
  · exact .inr h
theorem ExtN.fr {K : PySem.W.Frag} {H H' : Hp} {v : V} {q : F} (e : ExtN H H') (h : Fr K H v q) : Fr K H' v q := by
  obtain ⟨a, rfl, s⟩ := h
  exact ⟨a, rfl, ExtN.t e s⟩
theorem Sta.ext {H H' : Hp} {p c l : Addr} {n : Nat} {t : Int} (S : Sta H p c l n t) (e : ExtN H H') : Sta H' p c l n t := by
  obtain ⟨cs, a1, a2⟩ := S.cs
  obtain ⟨ls, b1, b2⟩ := S.ls
  exact ⟨e _ _ S.d (by intro ps z; cases z), ⟨cs, e _ _ a1 (by intro ps z; cases z), a2⟩, ⟨ls, e _ _ b1 (by intro ps z; cases z), b2⟩, S.ne, S.n1, S.n2, S.t0⟩
theorem Tabs.kp {Ts : List (Addr × Str)} {H H' : Hp} {p c l : Addr} {n : Nat} {t : Int} (T : Tabs Ts H) (S : Sta H p c l n t) (k : Kp p l H H') : Tabs Ts H' := by
  obtain ⟨ls, b1, _⟩ := S.ls
  intro q hq
  obtain ⟨ps, h1, h2, h3⟩ := T q hq
  refine ⟨ps, k _ _ h1 (ne_of h1 S.d (by intro z; cases z)) (ne_of h1 b1 (by intro z; cases z)), h2, fun pos cv hc => ?_⟩
  obtain ⟨c, e1, e2⟩ := h3 pos cv hc
  exact ⟨c, e1, k _ _ e2 (ne_of e2 S.d (by unfold CodeO; intro z; cases z)) (ne_of e2 b1 (by unfold CodeO; intro z; cases z))⟩
theorem Tabs.same {Ts : List (Addr × Str)} {H H' : Hp} (T : Tabs Ts H) (e : Same H H') : Tabs Ts H' := T.ext e
section
variable {K : PySem.W.Frag} {H H' : Hp}
theorem sqL_ext (e : ExtN H H') {a : Addr} {xs : List V} (h : SqL K H a xs) : SqL K H' a xs := by
  rcases h with (h | ⟨o, h⟩) | h
  · exact .inl (.inl (e _ _ h (by intro ps z; cases z)))
  · exact .inl (.inr ⟨o, e _ _ h (by intro ps z; cases z)⟩)
  · exact .inr h
mutual
theorem dp_ext (e : ExtN H H') : ∀ (d : PyData) (v : V), Dp K H v d → Dp K H' v d
  | .none, _, h => by
    cases h
    exact .non
  | .bool b, _, h => by
    cases h
    exact .bl _
  | .int i, _, h => by
    cases h
    exact .int _
  | .str x, _, h => by
    cases h
    exact .str _
  | .list ds, _, h => by
    cases h with
    | lst hs ha => exact .lst (sqL_ext e hs) (dpAll_ext e ds _ ha)
  | .tuple ds, _, h => by
    cases h with
    | tup hs ha => exact .tup (ExtN.t e hs) (dpAll_ext e ds _ ha)
  | .dict _, _, h => by cases h
theorem dpAll_ext (e : ExtN H H') : ∀ (ds : List PyData) (vs : List V), DpAll K H vs ds → DpAll K H' vs ds
  | [], _, h => by
    cases h
    exact .nil
  | d :: ds, _, h => by
    cases h with
    | cons h1 h2 => exact .cons (dp_ext e d _ h1) (dpAll_ext e ds _ h2)
end
end
/-- a def whose code object is known by its address -/
structure FunC (K : PySem.W.Frag) (x qual : Str) (st : Stmt) (f : Addr) (fd : FuncData) (c : Addr) : Prop where
  ex : ∃ (oc : Value) (od : Option Addr) (kV doc pm : Value) (an : Option Addr) (ct : Value) (osl : Array (Option Value)),
    fd = PySem.W.fnOf x qual (defArgs st) (defBody st) (defScope st) .none kV doc pm an (.ref c) ct ∧ K.lookup f = some ⟨oc, od, .func fd, osl⟩ ∧ PySem.W.codeIn K (.ref c) qual = true
structure DefC (K : PySem.W.Frag) (mg : Str → Option Value) (x : Str) (st : Stmt) (ps : List Str) (c : Addr) : Prop where
  ex : ∃ (f : Addr) (fd : FuncData), FunC K x x st f fd c ∧ mg x = some (.ref f) ∧ PySem.W.keepIn K (.ref f) = true ∧ Binds K fd ps []
section
variable {P : Program} {w : World} {K : PySem.W.Frag} {mg : Str → Option Value} {base : Heap} {k : Nat} {f c : Addr} {fd : FuncData} {sp : Sp} {x qual : Str} {st : Stmt} {N ps : List Str}
theorem DefC.calG (D : DefC K mg x st ps c) (h : ∀ f fd, FunC K x x st f fd c → FnG P w K mg base k f fd ps sp) : CalG P w K mg base k x sp := by
  obtain ⟨f, fd, F, m, kp, b⟩ := D.ex
  exact ⟨f, fd, ps, h f fd F, m, kp, b⟩
theorem FnG.okC (F : FunC K x qual st f fd c) (S : FnScope N ps (defScope st)) (len : ∀ vs H Q E, sp vs H Q E → vs.length = ps.length)
    (hbody : ∀ (A : Around) (outer : List Env) (s : Shared) (H : Hp) (vs : List V) (Q : VK) (E : XK), A.guards = some [] → Room k (A.deeper (PyProof.Rows.envOfC qual (defScope st) s.heap.objs.size f (.ref c))) → sp vs H Q E →
      ∃ t, PSs (cxOf CX0 P w K mg base N qual (defScope st) f (.ref c) A outer s H E).nox (defBody st) t ∧ t { nx := fun _ H' => Q .non H', rt := Q } (start N vs) H) : FnG P w K mg base (k + 1) f fd ps sp := by
  obtain ⟨oc, od, kV, doc, pm, an, ct, osl, rfl, lk, hcd⟩ := F.ex
  refine ⟨len, fun A outer s H args us vs Q E hg hr e0 hb r h => ?_⟩
  refine LamX.run_ofS lk hcd S hr e0 hb r (len _ _ _ _ h) (fun hr' => ?_)
  obtain ⟨t, a, b⟩ := hbody A outer s H vs Q E hg hr' h
  exact ⟨t, a.nox, b⟩
end
/-- what holds between the statements -/
structure Rel (Ts : List (Addr × Str)) (H H1 : Hp) (p c l : Addr) (n : Nat) (u : Int) : Prop where
  S : Sta H1 p c l n u
  T : Tabs Ts H1
  k : KE p l H H1
theorem Rel.kp {Ts : List (Addr × Str)} {H H1 H2 : Hp} {p c l : Addr} {n : Nat} {u v : Int} (R : Rel Ts H H1 p c l n u) (S : Sta H2 p c l n v) (k : Kp p l H1 H2) : Rel Ts H H2 p c l n v := ⟨S, Tabs.kp R.T R.S k, R.k.trans k.ke⟩
theorem Rel.same {Ts : List (Addr × Str)} {H H1 H2 : Hp} {p c l : Addr} {n : Nat} {u : Int} (R : Rel Ts H H1 p c l n u) (e : Same H1 H2) : Rel Ts H H2 p c l n u := R.kp (R.S.mono e) (Kp.of e)
theorem ExtN.t2 {K : PySem.W.Frag} {H H' : Hp} {v : V} {d : PyData} (e : ExtN H H') (h : Dp K H v d) : Dp K H' v d := dp_ext e d v h
theorem ExtN.l {H H' : Hp} {a : Addr} {xs : List V} (e : ExtN H H') (h : H a = some (.lst xs)) : H' a = some (.lst xs) := e _ _ h (by intro ps z; cases z)
theorem ExtN.tp {H H' : Hp} {a : Addr} {xs : List V} (e : ExtN H H') (h : H a = some (.tup xs)) : H' a = some (.tup xs) := e _ _ h (by intro ps z; cases z)
/-- a tuple of a word and data -/
theorem dp_word {K : PySem.W.Frag} {H : Hp} {a : Addr} {x : Str} {v : V} {d : PyData} (h : H a = some (.tup [.str x, v])) (hd : Dp K H v d) : Dp K H (.ref a) (.tuple [.str x, d]) := .tup (SqT.of h) (.cons (.str x) (.cons hd .nil))
theorem dp_lit {K : PySem.W.Frag} {H : Hp} {p : Addr} {a b : Int} : Dp K (upd H p (.tup [.int a, .int b])) (.ref p) (dF (a, b)) := .tup (SqT.of upd_same) (.cons (.int _) (.cons (.int _) .nil))
/-- conditions of a text, told of data without heap -/
def shB (d : PyData) : Bool := d.showable && !d.hasDict && decide (d.depth ≤ 60) && d.leavesShort 2600 && decide (d.weight ≤ 6000)
theorem sh_by {d : PyData} (h : shB d = true) : Sh.Ok d := by
  simp only [shB, Bool.and_eq_true, decide_eq_true_eq, Bool.not_eq_true'] at h
  obtain ⟨⟨⟨⟨h1, h2⟩, h3⟩, h4⟩, h5⟩ := h
  exact Sh.of h1 h2 h3 h4 h5
/-- all but the list at l -/
def KL (l : Addr) (H H' : Hp) : Prop := ∀ b o, H b = some o → b ≠ l → (∀ ps, o ≠ .tbl ps) → H' b = some o
theorem KL.of {l : Addr} {H H' : Hp} (e : ExtN H H') : KL l H H' := fun b o h _ n => e b o h n
theorem KL.trans {l : Addr} {H1 H2 H3 : Hp} (a : KL l H1 H2) (b : KL l H2 H3) : KL l H1 H3 := fun x o e n1 n2 => b x o (a x o e n1 n2) n1 n2
theorem KL.upd {l : Addr} {H : Hp} {o : HO} : KL l H (upd H l o) := fun b o e n _ => (upd_ne n).trans e
theorem KL.ext {l : Addr} {H0 H1 H2 : Hp} (e : ExtN H0 H1) (h : H0 l = none) (k : KL l H1 H2) : ExtN H0 H2 := fun b o z n => k b o (e b o z n) (ne_of_none z h) n
theorem KL.tp {l p : Addr} {H H' : Hp} {xs ys : List V} (k : KL l H H') (hl : H l = some (.lst ys)) (h : H p = some (.tup xs)) : H' p = some (.tup xs) := k p _ h (ne_of h hl (by intro z; cases z)) (by intro ps z; cases z)
theorem tabs_app {Ts : List (Addr × Str)} {H : Hp} {l : Addr} {xs ys : List V} (T : Tabs Ts H) (hl : H l = some (.lst xs)) : Tabs Ts (upd H l (.lst ys)) := by
  intro q hq
  obtain ⟨ps, h1, h2, h3⟩ := T q hq
  refine ⟨ps, (upd_ne (ne_of h1 hl (by intro z; cases z))).trans h1, h2, fun pos cv hc => ?_⟩
  obtain ⟨c, e1, e2⟩ := h3 pos cv hc
  exact ⟨c, e1, (upd_ne (ne_of e2 hl (by unfold CodeO; intro z; cases z))).trans e2⟩
theorem dpAll_app {K : PySem.W.Frag} {H : Hp} : ∀ {ds es : List PyData} {xs ys : List V}, DpAll K H xs ds → DpAll K H ys es → DpAll K H (xs ++ ys) (ds ++ es)
  | _, _, _, _, .nil, h => h
  | _, _, _, _, .cons h1 h2, h => .cons h1 (dpAll_app h2 h)
/-- the words of the classes -/
inductive RowOf (C : Cls) : Str → Str → Addr → Prop
  | r : RowOf C "row" "given" C.R
  | s : RowOf C "share" "given" C.S
  | p : RowOf C "poly" "given" C.P
  | n : RowOf C "number" "given" C.N
  | f : RowOf C "fraction" "given" C.F
section
variable {P : Program} {w : World} {K : PySem.W.Frag} {mg : Str → Option Value} {g c : Addr} {C : Cls} {Q : VK} {H : Hp} {v : V} {wd fld : Str}
theorem out_of (Hk : HeardK K mg g C) (R : RowOf C wd fld c) (h : ∀ p H3, Same H H3 → H3 p = some (.tup [.str wd, v]) → Q (.ref p) H3) : OutW (Hd.hE K Q (rowsH C)) c fld v H := by
  intro d hd
  have s1 := same_new (o := .xd [(fld, v)]) hd
  cases R with
  | r => exact ⟨true, Hk.xRR, fun _ => ⟨rfl, d, _, v, rfl, upd_same, rfl, fun p hp => h p _ (s1.trans (same_new hp)) upd_same⟩, fun z => by cases z⟩
  | s => exact ⟨false, Hk.xSR, (fun z => by cases z), fun _ => ⟨true, Hk.xSS, fun _ => ⟨rfl, d, _, v, rfl, upd_same, rfl, fun p hp => h p _ (s1.trans (same_new hp)) upd_same⟩, fun z => by cases z⟩⟩
  | p => exact ⟨false, Hk.xPR, (fun z => by cases z), fun _ => ⟨false, Hk.xPS, (fun z => by cases z), fun _ => ⟨true, Hk.xPP, fun _ => ⟨rfl, d, _, v, rfl, upd_same, rfl, fun p hp => h p _ (s1.trans (same_new hp)) upd_same⟩, fun z => by cases z⟩⟩⟩
  | n => exact ⟨false, Hk.xNR, (fun z => by cases z), fun _ => ⟨false, Hk.xNS, (fun z => by cases z), fun _ => ⟨false, Hk.xNP, (fun z => by cases z), fun _ => ⟨true, Hk.xNN, fun _ => ⟨rfl, d, _, v, rfl, upd_same, rfl, fun p hp => h p _ (s1.trans (same_new hp)) upd_same⟩, fun z => by cases z⟩⟩⟩⟩
  | f => exact ⟨false, Hk.xFR, (fun z => by cases z), fun _ => ⟨false, Hk.xFS, (fun z => by cases z), fun _ => ⟨false, Hk.xFP, (fun z => by cases z), fun _ => ⟨false, Hk.xFN, (fun z => by cases z), fun _ => ⟨true, Hk.xFF, fun _ => ⟨rfl, d, _, v, rfl, upd_same, rfl, fun p hp => h p _ (s1.trans (same_new hp)) upd_same⟩, fun z => by cases z⟩⟩⟩⟩⟩
end
end Rs


set_option Elab.async false
set_option linter.all false
set_option maxRecDepth 100000
set_option maxHeartbeats 400000
namespace Rs
open PySem L2 Bs Fq LamX
/-! ### sizes of what is told -/
def Sz (q : F) : Prop := Lt2 350 q.1 ∧ Lt2 350 q.2
def SzA (qs : List F) : Prop := ∀ q ∈ qs, Sz q
theorem sz_log {x : Int} (h : Lt2 350 x) : x.natAbs.log2 < 350 := PySem.Flt.log2_lt_of (by decide) h
theorem int_short' {i : Int} (h : Lt2 350 i) : (PyData.shown (.int i)).length ≤ 500 := by
  have := int_text_length_le (a := i) (k := 350) (by decide) (sz_log h)
  have e : (PyData.shown (.int i)).length = (toString i).length := by
    show (Str.ofString (toString i)).length = _
    exact ofString_length _
  omega
/-- data that is small, to so many levels, with so much weight -/
structure Ft (k n : Nat) (d : PyData) : Prop where
  s : d.showable = true
  h : d.hasDict = false
  dep : d.depth ≤ k
  l : d.leavesShort 500 = true
  w : d.weight ≤ n
structure FtA (k n : Nat) (ds : List PyData) : Prop where
  s : PyData.showableAll ds = true
  h : PyData.hasDictAll ds = false
  dep : PyData.depthAll ds ≤ k
  l : PyData.leavesShortAll 500 ds = true
  w : PyData.weightAll ds ≤ n
theorem FtA.nil {k : Nat} : FtA k 0 [] := ⟨rfl, rfl, Nat.zero_le _, rfl, Nat.le_refl _⟩
theorem FtA.cons {k n m : Nat} {d : PyData} {ds : List PyData} (a : Ft k n d) (b : FtA k m ds) : FtA k (n + 1 + m) (d :: ds) := by
  refine ⟨?_, ?_, ?_, ?_, ?_⟩
  · simp only [PyData.showableAll, a.s, b.s, Bool.and_self]
  · simp only [PyData.hasDictAll, a.h, b.h, Bool.or_self]
  · have := a.dep
    have := b.dep
    simp only [PyData.depthAll]
    omega
  · simp only [PyData.leavesShortAll, a.l, b.l, Bool.and_self]
  · have := a.w
    have := b.w
    simp only [PyData.weightAll]
    omega
theorem FtA.tup {k n : Nat} {ds : List PyData} (a : FtA k n ds) : Ft (k + 1) n (.tuple ds) := by
  refine ⟨a.s, a.h, ?_, a.l, a.w⟩
  have := a.dep
  simp only [PyData.depth]
  omega
theorem FtA.lst {k n : Nat} {ds : List PyData} (a : FtA k n ds) : Ft (k + 1) n (.list ds) := by
  refine ⟨a.s, a.h, ?_, a.l, a.w⟩
  have := a.dep
  simp only [PyData.depth]
  omega
theorem Ft.mono {k n m i : Nat} {d : PyData} (a : Ft k n d) (h1 : k ≤ m) (h2 : n ≤ i) : Ft m i d := ⟨a.s, a.h, Nat.le_trans a.dep h1, a.l, Nat.le_trans a.w h2⟩
theorem FtA.mono {k n m i : Nat} {d : List PyData} (a : FtA k n d) (h1 : k ≤ m) (h2 : n ≤ i) : FtA m i d := ⟨a.s, a.h, Nat.le_trans a.dep h1, a.l, Nat.le_trans a.w h2⟩
theorem Ft.ok {d : PyData} {k n : Nat} (a : Ft k n d) (h1 : k ≤ 60) (h2 : n ≤ 33000) : Sh.Ok d := by
  refine ⟨a.s, a.h, Nat.le_trans a.dep h1, ?_⟩
  have := PyData.shown_le 500 (by decide) d a.l
  have e : sizeLine = 16777216 := sizeLine_eq
  have : (500 + 2) * d.weight ≤ 502 * 33000 := Nat.mul_le_mul (Nat.le_refl _) (Nat.le_trans a.w h2)
  omega
theorem ft_int {x : Int} (h : Lt2 350 x) : Ft 0 350 (.int x) := by
  have l := sz_log h
  refine ⟨?_, rfl, ?_, ?_, ?_⟩
  · simp only [PyData.showable, decide_eq_true_eq]
    omega
  · simp [PyData.depth]
  · simp only [PyData.leavesShort, decide_eq_true_eq]
    exact int_short' h
  · simp only [PyData.weight]
    split <;> omega
theorem ft_frac {q : F} (h : Sz q) : Ft 1 702 (dF q) := (FtA.cons (ft_int h.1) (FtA.cons (ft_int h.2) FtA.nil)).tup
theorem ft_fracs : ∀ {qs : List F}, SzA qs → FtA 1 (703 * qs.length) (qs.map dF)
  | [], _ => FtA.nil
  | q :: qs, h => by
    have a := FtA.cons (ft_frac (h q List.mem_cons_self)) (ft_fracs (qs := qs) fun r hr => h r (List.mem_cons_of_mem _ hr))
    refine a.mono (Nat.le_refl _) ?_
    rw [List.length_cons]
    omega
theorem ft_poly {qs : List F} {m : Nat} (h : SzA qs) (l : qs.length ≤ m) : Ft 2 (703 * m) (dP qs) := (ft_fracs h).tup.mono (Nat.le_refl _) (Nat.mul_le_mul (Nat.le_refl _) l)
theorem lt2_small {x : Int} {n : Nat} (h : x.natAbs < n) (hn : n ≤ 2 ^ 250) : Lt2 350 x := Lt2.mono (m := 250) (Nat.lt_of_lt_of_le h hn) (by decide)
theorem db_sz {D : Int} {n : Nat} {q : F} (h : Db D n q) (p : 0 < D) (l : D < 4096) (m : n ≤ 340) : Sz q := by
  refine ⟨Lt2.mono (m := n) h.a (by omega), lt2_small (n := 4096) ?_ (by decide)⟩
  have := h.le p
  have := h.ok.1
  omega
theorem ft_pair {p : Pr} (h1 : Sz p.1) (h2 : Sz p.2) : Ft 2 1406 (dPr p) := (FtA.cons (ft_frac h1) (FtA.cons (ft_frac h2) FtA.nil)).tup
theorem ft_pairs : ∀ {ps : List Pr}, (∀ p ∈ ps, Sz p.1 ∧ Sz p.2) → FtA 2 (1407 * ps.length) (ps.map dPr)
  | [], _ => FtA.nil
  | p :: ps, h => by
    have hp := h p List.mem_cons_self
    have a := FtA.cons (ft_pair hp.1 hp.2) (ft_pairs (ps := ps) fun r hr => h r (List.mem_cons_of_mem _ hr))
    refine a.mono (Nat.le_refl _) ?_
    rw [List.length_cons]
    omega
theorem sp2_sz {ps : List Pr} (h : ∀ p ∈ ps, Sp2 p) : ∀ p ∈ ps, Sz p.1 ∧ Sz p.2 := fun p hp => by
  have s := h p hp
  exact ⟨db_sz (D := 2) (n := 3) ⟨s.o1, s.b1, s.a1⟩ (by decide) (by decide) (by decide), db_sz (D := 2) (n := 4) ⟨s.o2, s.b2, s.a2⟩ (by decide) (by decide) (by decide)⟩
theorem ft_share {ps : List Pr} (h : ∀ p ∈ ps, Sp2 p) (l : ps.length ≤ 6) : Ft 3 8442 (dSh ps) := (ft_pairs (sp2_sz h)).tup.mono (Nat.le_refl _) (by omega)
def dG1 (ps : List Pr) (k : Nat) : PyData := .list [dP (moms ps k), dSh ps]
def dG2 (qs rs : List F) : PyData := .list [dF (sumBy qs rs), dP rs]
def dG3 (ms : List F) : PyData := .list [dP ms, dP ms]
theorem sh_g1 {ps : List Pr} {k : Nat} (h : ∀ p ∈ ps, Sp2 p) (l : ps.length ≤ 6) (hk : k ≤ 8) : Sh.Ok (dG1 ps k) := by
  have a := ft_poly (qs := moms ps k) (m := 9) (fun q hq => db_sz (moms_db h l hk q hq) (by decide) (by decide) (by decide)) (by rw [moms_len]; omega)
  exact (FtA.cons (a.mono (m := 3) (by decide) (Nat.le_refl _)) (FtA.cons (ft_share h l) FtA.nil)).lst.ok (by decide) (by decide)
theorem sum_db {qs rs : List F} (h1 : ∀ q ∈ qs, Db 6 4 q) (h2 : ∀ r ∈ rs, Db 512 130 r) (l : qs.length ≤ 9) : Db 3072 251 (sumBy qs rs) := by
  have a := sumF_db (D := 6 * 512) (by decide) (by decide) (n := 134) (m := 134) (z := (0, 1)) (zw_db h1 h2) (Db.zero.mono (by decide)) (Nat.le_refl _)
  refine a.mono ?_
  rw [List.length_zipWith]
  omega
theorem sh_g2 {qs rs : List F} (h1 : ∀ q ∈ qs, Db 6 4 q) (h2 : ∀ r ∈ rs, Db 512 130 r) (l : qs.length ≤ 9) (l2 : rs.length ≤ 9) : Sh.Ok (dG2 qs rs) := by
  have a := ft_frac (db_sz (sum_db h1 h2 l) (by decide) (by decide) (by decide))
  have b := ft_poly (fun q hq => db_sz (h2 q hq) (by decide) (by decide) (by decide)) l2
  exact (FtA.cons (a.mono (m := 2) (by decide) (Nat.le_refl _)) (FtA.cons b FtA.nil)).lst.ok (by decide) (by decide)
theorem mixs_db {a b : F} {qs rs : List F} (ha : Db 6 4 a) (hb : Db 6 4 b) (h1 : ∀ q ∈ qs, Db 512 130 q) (h2 : ∀ r ∈ rs, Db 512 130 r) : ∀ q ∈ mixs a b qs rs, Db 3072 147 q := by
  intro q hq
  obtain ⟨i, hi⟩ := List.mem_iff_getElem?.mp hq
  unfold mixs at hi
  rw [List.getElem?_zipWith_eq_some] at hi
  obtain ⟨x, y, hx, hy, rfl⟩ := hi
  exact mix_db ha hb (h1 x (List.mem_of_getElem? hx)) (h2 y (List.mem_of_getElem? hy))
theorem sh_g3 {a b : F} {qs rs : List F} (ha : Db 6 4 a) (hb : Db 6 4 b) (h1 : ∀ q ∈ qs, Db 512 130 q) (h2 : ∀ r ∈ rs, Db 512 130 r) (l : qs.length ≤ 9) : Sh.Ok (dG3 (mixs a b qs rs)) := by
  have c := ft_poly (qs := mixs a b qs rs) (m := 9) (fun q hq => db_sz (mixs_db ha hb h1 h2 q hq) (by decide) (by decide) (by decide)) (by unfold mixs; rw [List.length_zipWith]; omega)
  exact (FtA.cons c (FtA.cons c FtA.nil)).lst.ok (by decide) (by decide)
end Rs


set_option Elab.async false
set_option linter.all false
set_option maxRecDepth 100000
set_option maxHeartbeats 1000000
namespace Rs
open PySem L2 Bs Fq LamX RZ
abbrev sGood : Stmt := top 58
theorem fracsD_ok {n : Nat} {qs : List F} (o : ∀ q ∈ qs, Fq.Ok q) (l : qs.length ≤ n) : fracsD (n : Int) (dP qs) = true := by
  show (decide (((qs.map dF).length : Int) ≤ (n : Int)) && (qs.map dF).all fracD) = true
  rw [all_frac_of o, List.length_map, decide_eq_true (by omega)]
  rfl
theorem rowD_of {qs : List F} (h : Rw qs) : rowD (dP qs) = true := by
  have e : fracsD 9 (dP qs) = true := fracsD_ok (n := 9) (fun q hq => (h.d q hq).ok) h.l
  rw [rowD, e]
  cases hq : qs with
  | nil => exact absurd hq h.n
  | cons q r => exact decide_eq_true (h.p q r hq)
theorem norow {qs : List F} {α : Prop} (h : Rw qs) (z : rowD (dP qs) = false) : α := by
  rw [rowD_of h] at z
  cases z
theorem dPr_inj {p r : Pr} (h : dPr p = dPr r) : p = r := by
  obtain ⟨a, b⟩ := p
  obtain ⟨c, d⟩ := r
  simp only [dPr, PyData.tuple.injEq, List.cons.injEq, and_true] at h
  rw [dF_inj h.1, dF_inj h.2]
theorem map_dPr_inj : ∀ {ps rs : List Pr}, ps.map dPr = rs.map dPr → ps = rs
  | [], [], _ => rfl
  | [], _ :: _, h => by cases h
  | _ :: _, [], h => by cases h
  | p :: ps, r :: rs, h => by
    rw [List.map_cons, List.map_cons, List.cons.injEq] at h
    rw [dPr_inj h.1, map_dPr_inj h.2]
theorem dSh_inj {ps rs : List Pr} (h : dSh ps = dSh rs) : ps = rs := by
  simp only [dSh, PyData.tuple.injEq] at h
  exact map_dPr_inj h
section
variable {ps : List Pr} {qs rs : List F} {q r : F} {k : Int} {α : Prop}
theorem mom_fin {P : List Pr → Int → Prop} (h : P ps k) : ∀ ps' k', dSh ps = dSh ps' → PyData.int k = .int k' → shareD (dSh ps) = true → 0 ≤ k' → k' ≤ 8 → P ps' k' := by
  intro ps' k' e1 e2 _ _ _
  cases e2
  rw [← dSh_inj e1]
  exact h
theorem noshare (h : shareD (dSh ps) = true) (z : shareD (dSh ps) = false) : α := by
  rw [h] at z
  cases z
theorem nobet8 (n0 : 0 ≤ k) (n1 : k ≤ 8) (z : betwD 0 8 (.int k) = false) : α := by
  simp [betwD, n0, n1] at z
theorem polyLe_of (o : ∀ q ∈ qs, S3 q) (p : Pn qs) (l : qs.length ≤ rs.length) (l2 : rs.length ≤ 9) : polyLe (dP rs) (dP qs) = true := by
  rw [polyLe, polyD_of (fun q hq => (o q hq).ok) (by omega) p]
  show (true && decide ((qs.map dF).length ≤ (rs.map dF).length)) = true
  rw [List.length_map, List.length_map, decide_eq_true l]
  rfl
theorem sum_fin {P : List F → List F → Prop} (h : P rs qs) : ∀ rs' qs', dP rs = dP rs' → dP qs = dP qs' → rowD (dP rs) = true → polyLe (dP rs) (dP qs) = true → P rs' qs' := by
  intro rs' qs' e1 e2 _ _
  rw [← dP_inj e1, ← dP_inj e2]
  exact h
theorem sameRow_of (h : Rw rs) (l : rs.length = qs.length) : sameRow (dP qs) (dP rs) = true := by
  rw [sameRow, rowD_of h]
  show (true && decide ((rs.map dF).length = (qs.map dF).length)) = true
  rw [List.length_map, List.length_map, decide_eq_true l]
  rfl
theorem fromD_of (o : Fq.Ok q) (h : 0 ≤ q.1) : fromD (dF q) = true := by
  rw [fromD, fracD_dF o]
  show (true && !decide (q.1 < 0)) = true
  rw [decide_eq_false (by omega)]
  rfl
theorem zero2_of (h : q.1 ≠ 0) : zero2 (dF q) (dF r) = false := by
  rw [zero2, eqv_nought, eqv_nought, decide_eq_false (show ¬ q = (0, 1) from fun z => h (by rw [z])), Bool.and_false]
theorem fal {b : Bool} (h : b = true) (z : b = false) : α := by
  rw [h] at z
  cases z
theorem mix_fin {P : List F → List F → F → F → Prop} {dx dy da db : PyData} (ex : dx = dP qs) (ey : dy = dP rs) (ea : da = dF q) (eb : db = dF r) (h : P qs rs q r) : ∀ qs' rs' q' r', dx = dP qs' → dy = dP rs' → da = dF q' → db = dF r' → rowD dx = true → sameRow dx dy = true → fromD da = true → fromD db = true → zero2 da db = false → P qs' rs' q' r' := by
  intro qs' rs' q' r' e1 e2 e3 e4 _ _ _ _ _
  rw [← dP_inj (ex.symm.trans e1), ← dP_inj (ey.symm.trans e2), ← dF_inj (ea.symm.trans e3), ← dF_inj (eb.symm.trans e4)]
  exact h
end
structure Gs (ps : List Pr) (qs : List F) (k : Int) : Prop where
  h : ∀ p ∈ ps, Sp2 p
  n : ps ≠ []
  l : ps.length ≤ 6
  s : shareD (dSh ps) = true
  r : Rw qs
  l8 : qs.length ≤ 8
  k0 : 0 ≤ k
  k8 : k ≤ 8
/-- a share with its pairs -/
def PrAll' (K : PySem.W.Frag) (H : Hp) (v : V) (ps : List Pr) : Prop := ∃ a xs, v = .ref a ∧ SqT K H a xs ∧ PrAll K H xs ps
theorem prs_of {K : PySem.W.Frag} {H : Hp} : ∀ {xs : List V} {ps : List Pr}, DpAll K H xs (ps.map dPr) → PrAll K H xs ps
  | _, [], h => by
    cases h
    exact .nil
  | _, p :: ps, h => by
    cases h with
    | cons h1 h2 => exact .cons (prOf h1) (prs_of h2)
theorem Shr.prs {K : PySem.W.Frag} {H : Hp} {v : V} {ps : List Pr} (h : Shr K H v ps) : PrAll' K H v ps := by
  obtain ⟨a, xs, rfl, s, all⟩ := h.open
  exact ⟨a, xs, rfl, s, prs_of all⟩
theorem PrAll'.shr {K : PySem.W.Frag} {H : Hp} {v : V} {ps : List Pr} (h : PrAll' K H v ps) : Shr K H v ps := by
  obtain ⟨a, xs, rfl, s, all⟩ := h
  exact .tup s all.dp
theorem PrAll'.mono {K : PySem.W.Frag} {H H' : Hp} {v : V} {ps : List Pr} (e : Same H H') (h : PrAll' K H v ps) : PrAll' K H' v ps := by
  obtain ⟨a, xs, rfl, s, all⟩ := h
  exact ⟨a, xs, rfl, Bs.Same.t e s, all.mono e⟩
theorem PrAll'.kp {K : PySem.W.Frag} {H H' : Hp} {p c l : Addr} {n : Nat} {t : Int} {v : V} {ps : List Pr} (k : Kp p l H H') (S : Sta H p c l n t) (h : PrAll' K H v ps) : PrAll' K H' v ps := by
  obtain ⟨a, xs, rfl, s, all⟩ := h
  exact ⟨a, xs, rfl, sqT_kp k S s, all.kp k S⟩
/-- what stands in the slots -/
structure Gd (K : PySem.W.Frag) (H H1 : Hp) (p c l : Addr) (n : Nat) (u : Int) (v1 v3 : V) (ps : List Pr) (qs : List F) : Prop where
  sh : PrAll' K H1 v1 ps
  po : Po K H1 v3 qs
  S : Sta H1 p c l n u
  k : Kp p l H H1
theorem Gd.mono {K : PySem.W.Frag} {H H1 H2 : Hp} {p c l : Addr} {n : Nat} {u : Int} {v1 v3 : V} {ps : List Pr} {qs : List F} (G : Gd K H H1 p c l n u v1 v3 ps qs) (e : Same H1 H2) : Gd K H H2 p c l n u v1 v3 ps qs :=
  ⟨G.sh.mono e, G.po.mono e, G.S.mono e, G.k.trans (Kp.of e)⟩
theorem Gd.kp {K : PySem.W.Frag} {H H1 H2 : Hp} {p c l : Addr} {n : Nat} {u u' : Int} {v1 v3 : V} {ps : List Pr} {qs : List F} (G : Gd K H H1 p c l n u v1 v3 ps qs) (S : Sta H2 p c l n u') (k : Kp p l H1 H2) : Gd K H H2 p c l n u' v1 v3 ps qs :=
  ⟨G.sh.kp k G.S, G.po.kp k G.S, S, G.k.trans k⟩
/-- _law_good(state) -/
def spGood : Sp := fun vs H Q _ => ∃ (p c l : Addr) (n : Nat) (t : Int), vs = [.ref p] ∧ Sta H p c l n t ∧ t ≤ 5000 ∧ ∀ H' t', t ≤ t' → t' ≤ t + 70 → Sta H' p c l n t' → Kp p l H H' → Q (.bl true) H'
abbrev NG : List Str := ["state", "share_so", "top", "row", "some", "other", "near", "far", "due", "one", "late"]
section
variable {P : Program} {w : World} {K : PySem.W.Frag} {mg : Str → Option Value} {base : Heap} {f CR CS CP CN CF : Addr} {fd : FuncData}
theorem scGood : FnScope NG ["state"] (defScope sGood) := ⟨rfl, rfl, rfl, by decide +kernel, rfl, by decide +kernel, by decide +kernel⟩
theorem ok_good (F : Fun K "_law_good" "_law_good" sGood f fd) (T : Blt mg) (zp : mg "zip" = none)
    (DR : Cal P w K mg base 2 "_law_draw" spDraw) (LR : Cal P w K mg base 1 "_law_ratio" spLRatio) (lP : Cal P w K mg base 2 "_law_plus" (spOp K add domL)) (lT : Cal P w K mg base 2 "_law_times" (spOp K mul domL))
    (SH : Cal P w K mg base 3 "_law_share" (spLShare K)) (RO : Cal P w K mg base 5 "_law_row" (spLRow K)) (LM : Cal P w K mg base 4 "_law_moments" (spLMoms K)) (LP : Cal P w K mg base 4 "_law_poly" (spLPoly K)) (LS : Cal P w K mg base 4 "_law_sum_by" (spLSumBy K))
    (MO : CalX P w K mg base 7 "moments" (spMoments K CS CN)) (NS : CalX P w K mg base 6 "need_share" (spNeedSh K CS)) (SB : CalX P w K mg base 6 "sum_by" (spSumBy K CR CP)) (NR : CalX P w K mg base 5 "need_row" (spNeedRow K CR)) (MX : CalX P w K mg base 6 "mixed" (spMixed2 K CR CF)) :
    FnG P w K mg base 8 f fd ["state"] spGood := by
  refine FnG.ok F scGood (fun vs H Q E h => ?_) (fun cdv A outer s H vs Q E hgd hr h => ?_)
  · obtain ⟨p, c, l, n, t, rfl, _⟩ := h
    rfl
  · obtain ⟨p, c, l, n, t, rfl, S, t5, kk⟩ := h
    refine ⟨_, C8.pss_cut (ps_par3 (i := 1) (j := 2) (l := 3) (by rfl) scGood.nd rfl rfl rfl (by decide) (by decide) (by decide) rfl rfl rfl
        (pa_cons (pe_n SH hr (by decide) (by rfl) (pa_cons (pv 0) (pa_cons pe_int pa_nil))) (pa_cons (pe_n DR hr (by decide) (by rfl) (pa_cons (pv 0) (pa_cons pe_int pa_nil))) (pa_cons (pe_n RO hr (by decide) (by rfl) (pa_cons (pv 0) pa_nil)) pa_nil))) (by rfl))
      (pss_cons (ps_if (pt_cmpR op_ne (pe_callB (call_repr hgd hr.units) (by rfl) T.repr (by decide +kernel) (pa_cons (pe_lst (pa_cons (pe_x MO hr (by decide) (by rfl) passL (pa_cons (pv 1) (pa_cons (pv 2) pa_nil))) (pa_cons (pe_x NS hr (by decide) (by rfl) passL (pa_cons (pv 1) pa_nil)) pa_nil))) pa_nil))
          (pe_callB (call_repr hgd hr.units) (by rfl) T.repr (by decide +kernel) (pa_cons (pe_lst (pa_cons (pe_n LM hr (by decide) (by rfl) (pa_cons (pv 1) (pa_cons (pv 2) pa_nil))) (pa_cons (pv 1) pa_nil))) pa_nil)) (nomark _)) (pss_one (ps_ret pe_bl)) pss_nil)
      (C8.pss_cut (ps_set (i := 4) scGood.nd rfl (Or.inl rfl) (pe_n LP hr (by decide) (by rfl) (pa_cons (pv 0) (pa_cons (pe_callB call_len_seq (by rfl) T.len (by decide +kernel) (pa_cons (pv 3) pa_nil)) pa_nil))))
      (pss_cons (ps_if (pt_cmpR op_ne (pe_callB (call_repr hgd hr.units) (by rfl) T.repr (by decide +kernel) (pa_cons (pe_lst (pa_cons (pe_x SB hr (by decide) (by rfl) passL (pa_cons (pv 3) (pa_cons (pv 4) pa_nil))) (pa_cons (pe_x NR hr (by decide) (by rfl) passL (pa_cons (pv 3) pa_nil)) pa_nil))) pa_nil))
          (pe_callB (call_repr hgd hr.units) (by rfl) T.repr (by decide +kernel) (pa_cons (pe_lst (pa_cons (pe_n LS hr (by decide) (by rfl) (pa_cons (pv 3) (pa_cons (pv 4) pa_nil))) (pa_cons (pv 3) pa_nil))) pa_nil)) (nomark _)) (pss_one (ps_ret pe_bl)) pss_nil)
      (C8.pss_cut (ps_par (i := 5) (j := 6) (by rfl) scGood.nd rfl rfl (by decide) rfl rfl
        (pa_cons (pe_n LM hr (by decide) (by rfl) (pa_cons (pv 1) (pa_cons (pe_op op_sub (pe_callB call_len_seq (by rfl) T.len (by decide +kernel) (pa_cons (pv 3) pa_nil)) pe_int) pa_nil))) (pa_cons (pe_n LR hr (by decide) (by rfl) (pa_cons (pe_op op_add pe_int (pe_n DR hr (by decide) (by rfl) (pa_cons (pv 0) (pa_cons pe_int pa_nil)))) (pa_cons pe_int pa_nil))) pa_nil)) (by rfl))
      (C8.pss_cut (ps_set (i := 7) scGood.nd rfl (Or.inl rfl) (pe_n LR hr (by decide) (by rfl) (pa_cons (pe_n DR hr (by decide) (by rfl) (pa_cons (pv 0) (pa_cons pe_int pa_nil))) (pa_cons pe_int pa_nil))))
      (pss_cons (ps_set (i := 8) scGood.nd rfl (Or.inl rfl) (pe_lst pa_nil))
      (C8.pss_cut (ps_for PassesOwn.never rfl (pi_zipA (by rfl) zp (pa_cons (pv 3) (pa_cons (pv 5) pa_nil))) (pg_tup rfl (pgs_cons (pg_name (i := 9) scGood.nd rfl (.inl rfl)) (pgs_cons (pg_name (i := 10) scGood.nd rfl (.inl rfl)) pgs_nil)))
        (pss_one (ps_expr (pe_bm PySem.F.plainAttrs_list PySem.F.slot_list_append PySem.F.type_list_append mt_append (pv 8) (pa_cons (pe_n lP hr (by decide) (by rfl) (pa_cons (pe_n lT hr (by decide) (by rfl) (pa_cons (pv 6) (pa_cons (pv 9) pa_nil))) (pa_cons (pe_n lT hr (by decide) (by rfl) (pa_cons (pv 7) (pa_cons (pv 10) pa_nil))) pa_nil))) pa_nil)))))
      (pss_one (ps_ret (pe_cmpR op_eq (pe_callB (call_repr hgd hr.units) (by rfl) T.repr (by decide +kernel) (pa_cons (pe_lst (pa_cons (pe_x MX hr (by decide) (by rfl) passL (pa_cons (pv 3) (pa_cons (pv 5) (pa_cons (pv 6) (pa_cons (pv 7) pa_nil))))) (pa_cons (pe_x MX hr (by decide) (by rfl) passL (pa_cons (pv 3) (pa_cons (pv 5) (pa_cons (pv 6) (pa_cons (pv 7) pa_nil))))) pa_nil))) pa_nil))
          (pe_callB (call_repr hgd hr.units) (by rfl) T.repr (by decide +kernel) (pa_cons (pe_op op_rep (pe_lst (pa_cons (pe_callTy call_tuple_of (by rfl) T.tuple (by decide +kernel) (pa_cons (pv 8) pa_nil)) pa_nil)) pe_int) pa_nil)) (nomark _))))))))))), ?_⟩
    have two : (2 : Nat) ≤ sizeLine := by decide
    -- share_so, top, row
    refine ⟨fun σ H1 => ∃ (v1 v3 : V) (k : Int) (ps : List Pr) (qs : List Fq.F) (u : Int), Gs ps qs k ∧ t ≤ u ∧ u ≤ t + 39 ∧ Gd K H H1 p c l n u v1 v3 ps qs ∧ σ = [some (V.ref p), some v1, some (V.int k), some v3, none, none, none, none, none, none, none], ?_, ?_⟩
    · refine ⟨_, rfl, p, c, l, n, t, 4, rfl, S, by omega, by decide, by decide, fun Ha v1 ps t1 sh sp2 pn pl sd t1a t1b Sa ka => ⟨_, rfl, p, c, l, n, t1, 9, rfl, Sa, by omega, by decide, by decide, fun Hb k k0 k9 Sb kb => ⟨_, rfl, p, c, l, n, t1 + 1, rfl, Sb, by omega, fun Hc v3 qs t2 po rw_ l8 t2a t2b Sc kc => ?_⟩⟩⟩
      exact ⟨v1, .int k, v3, rfl, v1, v3, k, ps, qs, t2, ⟨sp2, pn, pl, sd, rw_, l8, k0, by omega⟩, by omega, by omega, ⟨((sh.prs).kp kb Sa).kp kc Sb, po, Sc, (ka.trans kb).trans kc⟩, rfl⟩
    rintro σ H1 ⟨v1, v3, k, ps, qs, u, Z, u0, u1, G1, rfl⟩
    have sh1 := sh_g1 (k := k.toNat) Z.h Z.l (by have := Z.k8; have := Z.k0; omega)
    have k0 := Z.k0
    have k8 := Z.k8
    refine ⟨_, rfl, _, rfl, v1, .int k, dSh ps, .int k, rfl, G1.sh.shr, .int k, sm_of Z.h, noshare Z.s, (fun _ => nobet8 k0 k8), mom_fin ?_⟩
    refine ⟨Z.h, fun Ha b1 sa po1 => ?_⟩
    have Ga := G1.mono sa
    refine ⟨_, rfl, v1, dSh ps, rfl, Ga.sh.shr, sm_of Z.h, (fun _ Hb sb => ?_), noshare Z.s⟩
    have Gb := Ga.mono sb
    refine ⟨two, fun a1 h1 => ?_⟩
    have s1 := same_new (o := .lst [V.ref b1, v1]) h1
    have Gc := Gb.mono s1
    refine ⟨a1, dG1 ps k.toNat, rfl, .lst (SqL.of upd_same) (.cons (po1.mono (sb.trans s1)).dp (.cons Gc.sh.shr .nil)), sh1.s, sh1.n, sh1.dep, sh1.l, ?_⟩
    refine ⟨_, rfl, _, rfl, v1, ps, k, rfl, Gc.sh.shr, Z.h, Z.l, k0, k8, fun Hd b2 sd po2 => ?_⟩
    refine ⟨_, rfl, two, fun a2 h2 => ?_⟩
    have s2 := same_new (o := .lst [V.ref b2, v1]) h2
    have Ge := (Gc.mono sd).mono s2
    refine ⟨a2, dG1 ps k.toNat, rfl, .lst (SqL.of upd_same) (.cons (po2.mono s2).dp (.cons Ge.sh.shr .nil)), sh1.s, sh1.n, sh1.dep, sh1.l, rfl, false, by simp, ?_⟩
    have G2 := Ge
    clear Ga Gb Gc Ge G1 po1 po2 sa sb sd s1 s2
    generalize upd Hd a2 (.lst [V.ref b2, v1]) = H2 at G2
    -- some
    refine ⟨fun σ H3 => ∃ (v4 : V) (zs : List Fq.F) (u' : Int), Po K H3 v4 zs ∧ (∀ q ∈ zs, S3 q) ∧ Pn zs ∧ zs.length ≤ qs.length ∧ t ≤ u' ∧ u' ≤ t + 56 ∧ Gd K H H3 p c l n u' v1 v3 ps qs ∧ σ = [some (V.ref p), some v1, some (V.int k), some v3, some v4, none, none, none, none, none, none], ?_, ?_⟩
    · obtain ⟨b, xs, rfl, sx, fx⟩ := id G2.po
      have lx := fx.len
      have l8 := Z.l8
      refine ⟨_, rfl, _, rfl, b, xs, rfl, Or.inr sx, p, c, l, n, u, _, rfl, G2.S, by omega, by omega, by omega, fun H3 v4 zs u' po4 z3 zp_ zl ua ub S3' k3 => ?_⟩
      exact ⟨v4, zs, u', po4, z3, zp_, by omega, by omega, by omega, G2.kp S3' k3, rfl⟩
    rintro σ H3 ⟨v4, zs, u', po4, z3, zp_, zl, ua, ub, G3, rfl⟩
    have l9 := Z.r.l
    have d6 : ∀ q ∈ zs, Db 6 4 q := fun q hq => db_s3 (z3 q hq)
    have sh2 := sh_g2 d6 Z.r.d (by omega) l9
    refine ⟨_, rfl, _, rfl, v3, v4, dP qs, dP zs, rfl, G3.po.dp, po4.dp, norow Z.r, (fun _ => fal (polyLe_of z3 zp_ zl l9)), sum_fin ?_⟩
    refine ⟨d6, Z.r.d, fun Ha x sa fx => ?_⟩
    have Ga := G3.mono sa
    refine ⟨_, rfl, v3, dP qs, rfl, Ga.po.dp, (fun _ Hb sb => ?_), norow Z.r⟩
    have Gb := Ga.mono sb
    refine ⟨two, fun a1 h1 => ?_⟩
    have s1 := same_new (o := .lst [x, v3]) h1
    have Gc := Gb.mono s1
    refine ⟨a1, dG2 zs qs, rfl, .lst (SqL.of upd_same) (.cons (fx.mono (sb.trans s1)).dp (.cons Gc.po.dp .nil)), sh2.s, sh2.n, sh2.dep, sh2.l, ?_⟩
    refine ⟨_, rfl, _, rfl, v3, v4, zs, qs, rfl, Gc.po, po4.mono ((sa.trans sb).trans s1), d6, Z.r.d, by omega, fun Hd y sd fy => ?_⟩
    refine ⟨_, rfl, two, fun a2 h2 => ?_⟩
    have s2 := same_new (o := .lst [y, v3]) h2
    have G4 := (Gc.mono sd).mono s2
    refine ⟨a2, dG2 zs qs, rfl, .lst (SqL.of upd_same) (.cons (fy.mono s2).dp (.cons G4.po.dp .nil)), sh2.s, sh2.n, sh2.dep, sh2.l, rfl, false, by simp, ?_⟩
    clear Ga Gb Gc G3 fx fy sa sb sd s1 s2 po4
    generalize upd Hd a2 (.lst [y, v3]) = H4 at G4
    -- other, near
    refine ⟨fun σ H5 => ∃ (b5 a6 : Addr) (ms : List Fq.F) (q6 : Fq.F) (w1 : Int), Po K H5 (.ref b5) ms ∧ Rw ms ∧ ms.length = qs.length ∧ Fr K H5 (.ref a6) q6 ∧ Db 6 4 q6 ∧ 0 < q6.1 ∧ t ≤ w1 ∧ w1 ≤ t + 57 ∧ Gd K H H5 p c l n w1 v1 v3 ps qs ∧ σ = [some (V.ref p), some v1, some (V.int k), some v3, some v4, some (V.ref b5), some (V.ref a6), none, none, none, none], ?_, ?_⟩
    · obtain ⟨b, xs, rfl, sx, fx⟩ := id G4.po
      have lx := fx.len
      have l8 := Z.l8
      have ne0 := List.length_pos_iff.mpr Z.r.n
      refine ⟨_, rfl, _, rfl, b, xs, rfl, Or.inr sx, _, _, rfl, rfl, v1, ps, _, rfl, G4.sh.shr, Z.h, Z.l, by omega, by omega, fun Ha b5 sa po5 => ?_⟩
      have Ga := G4.mono sa
      refine ⟨_, rfl, p, c, l, n, u', 3, rfl, Ga.S, by omega, by decide, by decide, fun Hb r r0 r1 Sb kb => ?_⟩
      refine ⟨_, _, rfl, rfl, _, _, rfl, by decide, Lt2.mono (m := 2) (by show (2 : Int).natAbs < 4; decide) (by decide), fun a6 h6 => ?_⟩
      have s6 := same_new (o := fr (red (1 + r) 2)) h6
      obtain ⟨o1, o2, o3⟩ := red_small (x := 1 + r) (y := 2) (.inr rfl)
      have op := red_pos (a := 1 + r) (b := 2) (by omega) (by decide)
      have e1 : ((xs.length : Int) - 1).toNat = qs.length - 1 := by omega
      rw [e1] at po5
      refine ⟨.ref b5, .ref a6, rfl, b5, a6, moms ps (qs.length - 1), red (1 + r) 2, u' + 1, (po5.kp kb Ga.S).mono s6, moms_rw Z.h Z.n Z.l (by omega), by rw [moms_len]; omega, Fr.of upd_same, Db.weak (D := 2) ⟨o1, o2, by show (red (1 + r) 2).1.natAbs < 16; omega⟩ (by decide), op.1, by omega, by omega, (Ga.kp Sb kb).mono s6, rfl⟩
    clear G4
    rintro σ H5 ⟨b5, a6, ms, q6, w1, po5, rm, lm, f6, d6', p6, wa, wb, G5, rfl⟩
    -- far
    refine ⟨fun σ H6 => ∃ (a7 : Addr) (q7 : Fq.F), Po K H6 (.ref b5) ms ∧ Fr K H6 (.ref a6) q6 ∧ Fr K H6 (.ref a7) q7 ∧ Db 6 4 q7 ∧ 0 ≤ q7.1 ∧ Gd K H H6 p c l n (w1 + 1) v1 v3 ps qs ∧ σ = [some (V.ref p), some v1, some (V.int k), some v3, some v4, some (V.ref b5), some (V.ref a6), some (V.ref a7), none, none, none], ?_, ?_⟩
    · refine ⟨_, rfl, p, c, l, n, w1, 3, rfl, G5.S, by omega, by decide, by decide, fun Hb r r0 r1 Sb kb => ?_⟩
      refine ⟨_, _, rfl, by decide, Lt2.mono (m := 2) (by show (3 : Int).natAbs < 4; decide) (by decide), fun a7 h7 => ?_⟩
      have s7 := same_new (o := fr (red r 3)) h7
      have o1 := red_ok (a := r) (b := 3) (by decide)
      have o2 := vl_dvd o1 (vl_red (a := r) (b := 3) (by decide))
      have o3 := red_top (a := r) (b := 3) (by decide)
      have o4 : 0 ≤ (red r 3).1 := Int.ediv_nonneg r0 (Int.natCast_nonneg _)
      exact ⟨a7, red r 3, (po5.kp kb G5.S).mono s7, (kb.fr G5.S f6).mono s7, Fr.of upd_same, Db.weak (D := 3) ⟨o1, o2, by show (red r 3).1.natAbs < 16; omega⟩ (by decide), o4, (G5.kp Sb kb).mono s7, rfl⟩
    clear G5 po5 f6
    rintro σ H6 ⟨a7, q7, po6, f6, f7, d7, n7, G6, rfl⟩
    have sh3 := sh_g3 d6' d7 Z.r.d rm.d (by omega : qs.length ≤ 9)
    -- due
    refine ⟨(by show 0 ≤ sizeLine; decide), fun D hD => ?_⟩
    have s0 := same_new (o := .lst []) hD
    refine ⟨fun σ H7 => ∃ (acc : List V) (v9 v10 : Option V), Same H6 H7 ∧ H7 D = some (.lst acc) ∧ FrAll K H7 acc (mixs q6 q7 qs ms) ∧ σ = [some (V.ref p), some v1, some (V.int k), some v3, some v4, some (V.ref b5), some (V.ref a6), some (V.ref a7), some (V.ref D), v9, v10], ?_, ?_⟩
    · obtain ⟨b3, xs, rfl, sx, fx⟩ := id G6.po
      obtain ⟨b5', ys, e5, sy, fy⟩ := id po6
      cases e5
      have lx := fx.len
      have ly := fy.len
      refine ⟨_, rfl, _, rfl, b3, b5, xs, ys, rfl, Or.inr ⟨Bs.Same.t s0 sx, Bs.Same.t s0 sy, ?_⟩⟩
      refine for_it (walk_zipT (xs := xs) (ys := ys) (n := xs.length) (by omega)) (fun i σ H7 => Same H6 H7 ∧ ∃ (acc : List V) (v9 v10 : Option V), H7 D = some (.lst acc) ∧ FrAll K H7 acc ((mixs q6 q7 qs ms).take i) ∧ σ = [some (V.ref p), some v1, some (V.int k), some (V.ref b3), some v4, some (V.ref b5), some (V.ref a6), some (V.ref a7), some (V.ref D), v9, v10])
        ⟨s0, [], none, none, upd_same, .nil, rfl⟩ (fun i σ H7 _ z => ⟨Bs.Same.t z.1 sx, Bs.Same.t z.1 sy⟩) ?_ ?_
      · rintro i x σ H7 H8 hi ⟨s7, acc, v9, v10, hD7, fa, rfl⟩ ⟨T', x', y', rfl, hT, rfl, h1, h2⟩
        have h1' : xs[i]? = some x' := h1
        have h2' : ys[i]? = some y' := h2
        have s8 := same_new (o := .tup [x', y']) hT
        have s78 := s7.trans s8
        obtain ⟨x1, q, g1, g2, fu⟩ := fx.get (i := i) (by omega)
        obtain ⟨y1, r, g3, g4, fv⟩ := fy.get (i := i) (by omega)
        rw [h1'] at g1
        cases g1
        rw [h2'] at g3
        cases g3
        have gm := mixs_get (a := q6) (b := q7) g2 g4
        have la : acc.length ≤ 9 := by
          rw [fa.len, List.length_take]
          unfold mixs
          rw [List.length_zipWith]
          omega
        have dq := Z.r.d q (List.mem_of_getElem? g2)
        have dr := rm.d r (List.mem_of_getElem? g4)
        refine ⟨T', _, rfl, SqT.of upd_same, rfl, _, _, rfl, _, _, rfl, rfl, ?_⟩
        refine ⟨_, rfl, Or.inl ⟨rfl, _, SqL.of (s8 _ _ hD7)⟩, ?_⟩
        refine ⟨_, rfl, _, rfl, .ref a6, x', q6, q, rfl, f6.mono s78, fu.mono s78, ⟨dl_db d6' (by decide) (by decide) (by decide), dl_db dq (by decide) (by decide) (by decide)⟩, fun p1 hp1 => ?_⟩
        have s9 := same_new (o := fr (mul q6 q)) hp1
        refine ⟨_, rfl, _, rfl, .ref a7, y', q7, r, rfl, f7.mono (s78.trans s9), fv.mono (s78.trans s9), ⟨dl_db d7 (by decide) (by decide) (by decide), dl_db dr (by decide) (by decide) (by decide)⟩, fun p2 hp2 => ?_⟩
        have s10 := same_new (o := fr (mul q7 r)) hp2
        have g1f : Fr K (upd (upd (upd H7 T' (.tup [x', y'])) p1 (fr (mul q6 q))) p2 (fr (mul q7 r))) (.ref p1) (mul q6 q) := (Fr.of (upd_same (H := upd H7 T' (.tup [x', y'])))).mono s10
        refine ⟨.ref p1, .ref p2, mul q6 q, mul q7 r, rfl, g1f, Fr.of upd_same, ⟨dl_db (d6'.mul dq) (by decide) (by decide) (by decide), dl_db (d7.mul dr) (by decide) (by decide) (by decide)⟩, fun p3 hp3 => ?_⟩
        have s11 := same_new (o := fr (add (mul q6 q) (mul q7 r))) hp3
        have s811 := s8.trans (s9.trans (s10.trans s11))
        have hD9 := s811 _ _ hD7
        refine ⟨D, acc, .ref p3, rfl, rfl, hD9, small1000 (by omega), ?_⟩
        refine ⟨fun b o e => (upd_ne (ne_of_none e hD)).trans (s811 b o (s7 b o e)), acc ++ [.ref p3], some x', some y', upd_same, ?_, rfl⟩
        rw [take_one gm]
        exact (FrAll.off hD9 (fa.mono s811)).snoc ((Fr.of upd_same).off hD9)
      · rintro σ H7 ⟨s7, acc, v9, v10, hD7, fa, rfl⟩
        rw [List.take_of_length_le (by unfold mixs; rw [List.length_zipWith]; omega)] at fa
        exact ⟨acc, v9, v10, s7, hD7, fa, rfl⟩
    rintro σ H7 ⟨acc, v9, v10, s7, hD7, fa, rfl⟩
    have G7 := G6.mono s7
    have po7 := po6.mono s7
    have f67 := f6.mono s7
    have f77 := f7.mono s7
    have sr : sameRow (dP qs) (dP ms) = true := sameRow_of rm lm
    have n6 : fromD (dF q6) = true := fromD_of d6'.ok (by omega)
    have n7' : fromD (dF q7) = true := fromD_of d7.ok n7
    have nz : zero2 (dF q6) (dF q7) = false := zero2_of (by omega)
    refine ⟨_, rfl, _, rfl, _, rfl, _, rfl, v3, .ref b5, .ref a6, .ref a7, dP qs, dP ms, dF q6, dF q7, rfl, G7.po.dp, po7.dp, f67.dp, f77.dp, norow Z.r, (fun _ => fal sr), (fun _ _ => fal n6), (fun _ _ _ => fal n7'), (fun _ _ _ _ z => fal z nz), mix_fin rfl rfl rfl rfl ?_⟩
    refine ⟨d6', d7, Z.r.d, rm.d, fun Ha b8 sa po8 => ?_⟩
    have Ga := G7.mono sa
    refine ⟨_, rfl, _, rfl, _, rfl, _, rfl, v3, .ref b5, .ref a6, .ref a7, dP qs, dP ms, dF q6, dF q7, rfl, Ga.po.dp, (po7.mono sa).dp, (f67.mono sa).dp, (f77.mono sa).dp, norow Z.r, (fun _ => fal sr), (fun _ _ => fal n6), (fun _ _ _ => fal n7'), (fun _ _ _ _ z => fal z nz), mix_fin rfl rfl rfl rfl ?_⟩
    refine ⟨d6', d7, Z.r.d, rm.d, fun Hb b9 sb po9 => ?_⟩
    refine ⟨two, fun a8 h8 => ?_⟩
    have s8 := same_new (o := .lst [V.ref b8, V.ref b9]) h8
    refine ⟨a8, dG3 (mixs q6 q7 qs ms), rfl, .lst (SqL.of upd_same) (.cons (po8.mono (sb.trans s8)).dp (.cons (po9.mono s8).dp .nil)), sh3.s, sh3.n, sh3.dep, sh3.l, ?_⟩
    have s78 := (sa.trans sb).trans s8
    refine ⟨_, rfl, D, acc, rfl, Or.inl ⟨SqL.of (s78 _ _ hD7), fun b10 h10 => ?_⟩⟩
    have s9 := same_new (o := .tup acc) h10
    refine ⟨(by show 1 ≤ sizeLine; decide), fun l1 g1 => ?_⟩
    have s10 := same_new (o := .lst [V.ref b10]) g1
    refine ⟨l1, 2, _, rfl, rfl, upd_same, by decide, by decide, two, fun l2 g2 => ?_⟩
    have s11 := same_new (o := .lst [V.ref b10, V.ref b10]) g2
    have pf : Dp K (upd (upd (upd (upd Hb a8 (.lst [V.ref b8, V.ref b9])) b10 (.tup acc)) l1 (.lst [V.ref b10])) l2 (.lst [V.ref b10, V.ref b10])) (.ref b10) (dP (mixs q6 q7 qs ms)) :=
      dps (s10.trans s11) (.tup (SqT.of upd_same) (fa.mono (s78.trans s9)).dp)
    refine ⟨l2, dG3 (mixs q6 q7 qs ms), rfl, .lst (SqL.of upd_same) (.cons pf (.cons pf .nil)), sh3.s, sh3.n, sh3.dep, sh3.l, rfl, ?_⟩
    rw [decide_eq_true (rfl : V.str (PyData.shown (dG3 (mixs q6 q7 qs ms))) = V.str (PyData.shown (dG3 (mixs q6 q7 qs ms))))]
    have GE := G7.mono (s78.trans (s9.trans (s10.trans s11)))
    exact kk _ (w1 + 1) (by omega) (by omega) GE.S GE.k
end
end Rs


set_option Elab.async false
set_option linter.all false
set_option maxRecDepth 100000
set_option maxHeartbeats 2000000
/-! t[::-1], t a tuple of two -/
namespace RvT
open PySem PySem.Spec PyProof.Rows L2 HT
section
variable {prog : Program} {w : World} {A : Around} {E : Value → Shared → Prop} {s : Shared}
theorem applied_back {sl : Addr} {u v st : Value} {Q : Int × Int × Nat → Shared → Prop} (isS : s.heap.IsSliceOf sl u v st) (pu : IsPart u none) (pv_ : IsPart v none) (pst : IsPart st (some (-1))) (h : Q (1, -1, 2) s) :
    wpAny (model prog w) A (Builtin.Slice.sliceApplied (.ref sl) (pure 2)) Q E s := by
  obtain ⟨ob, at_, _, dt⟩ := id isS
  unfold Builtin.Slice.sliceApplied
  unfold Builtin.Slice.sliceFields
  refine wpAny_bind (wpAny_bind (wpAny_field at_ dt (x := u) rfl (wpAny_bind (wpAny_field at_ dt (x := v) rfl (wpAny_bind (wpAny_field at_ dt (x := st) rfl (wpAny_pure ?_)))))))
  refine wpAny_bind (slicePart_ pst ?_)
  show wpAny _ _ (if ((-1 : Int) == 0) = true then _ else _) _ _ s
  rw [if_neg (by decide)]
  refine wpAny_bind (slicePart_ pu ?_)
  refine wpAny_bind (slicePart_ pv_ ?_)
  refine wpAny_bind (wpAny_pure ?_)
  exact wpAny_pure h
theorem get_back {t sl : Addr} {x y u v st : Value} {Q : Value → Shared → Prop} (isT : IsTup s.heap t #[x, y]) (isS : s.heap.IsSliceOf sl u v st) (pu : IsPart u none) (pv_ : IsPart v none) (pst : IsPart st (some (-1)))
    (h : Q (.ref s.heap.objs.size) { s with heap := s.heap.push { cls := .type "tuple", data := .seq #[y, x] } }) : wpAny (model prog w) A (getItem (.ref t) (.ref sl)) Q E s := by
  obtain ⟨ob, at_, isSl, dt⟩ := id isS
  have tyS : s.TypeIs (.ref sl) "slice" := ⟨ob, at_, isSl⟩
  unfold getItem
  try with_reducible refine wpAny_holding ?_
  first | refine wpAny_bind (wpAny_pure ?_) | skip
  refine wpAny_bind (wpAny_sequenceKey isT.typeIs (by decide) ?_)
  refine wpAny_bind (wpAny_callSpecial?_slot (name := Str.ofString "__getitem__") isT.typeIs slot_tuple_getitem (wpAny_call_entry slot_tuple_getitem isT.typeIs entry_tuple_getitem ?_ (args_tuple_getitem _ _)))
  show wpAny _ _ (Builtin.Tuple.tupleItemsOf (.ref t) >>= _) _ _ s
  refine wpAny_bind (tupleItemsOf_ isT (wpAny_bind (wpAny_typeOf tyS ?_)))
  rw [if_pos (by decide)]
  refine wpAny_bind (applied_back isS pu pv_ pst ?_)
  show wpAny _ _ (if ((1 : Int) == 0 && (-1 : Int) == 1 && (2 : Nat) == 2) = true then _ else _) _ _ s
  rw [if_neg (by decide)]
  have small : sizeOk (.seq #[y, x]) := by
    show 2 ≤ sizeLine
    decide
  first
    | exact wpAny_bind (m := Builtin.Tuple.tupleExact _) (wpAny_newObj_type (wpAny_pure ⟨_, rfl, wpAny_pure h⟩) small)
    | exact wpAny_bind (m := Builtin.Tuple.tupleExact _) (wpAny_newObj_type (wpAny_bind (wpAny_pure (wpAny_pure ⟨_, rfl, wpAny_pure h⟩))) small)
    | exact wpAny_bind (wpAny_bind (m := Builtin.Tuple.tupleExact _) (wpAny_newObj_type (wpAny_pure (wpAny_pure ⟨_, rfl, wpAny_pure h⟩)) small))
    | exact wpAny_bind (wpAny_bind (m := Builtin.Tuple.tupleExact _) (wpAny_newObj_type (wpAny_pure ⟨_, rfl, wpAny_pure h⟩) small))
end
def tBack (K : PySem.W.Frag) (te : TE) : TE := fun σ H Q => te σ H fun v H1 => ∃ a x y, v = .ref a ∧ SqT K H1 a [x, y] ∧ ∀ p, H1 p = none → Q (.ref p) (upd H1 p (.tup [y, x]))
theorem pe_back {X : Cx} {e : Expr} {te : TE} {k : Nat} {p1 p2 p3 pos : Pos} (he : PE X e te) : PE X (.Subscript e (.Slice none none (some (.UnaryOp .USub (.Constant (.int 1) k p1) p2)) p3) pos) (tBack X.K te) := by
  constructor
  intro pins s σ H Q I h
  refine Subscript_ (thn (he.run pins s σ H _ I h) ?_)
  rintro v s1 ⟨z, H1, I1, r1, a, x, y, rfl, sq, q⟩
  cases r1
  have step : PO X (some (.UnaryOp .USub (.Constant (.int 1) k p1) p2)) (tPart (tUn (rU fun i => .int (-i)) (tC (.int 1)))) := po_some (pe_un un_neg pe_int)
  refine wpAny_Slice (thn (po_none.run pins s1 σ H1 (fun o H2 => o = none ∧ H2 = H1) I1 ⟨rfl, rfl⟩) ?_)
  rintro c1 s2 ⟨o2, H2, I2, g2, rfl, rfl⟩
  refine thn (po_none.run pins s2 σ H2 (fun o H3 => o = none ∧ H3 = H2) I2 ⟨rfl, rfl⟩) ?_
  rintro c2 s3 ⟨o3, H3, I3, g3, rfl, rfl⟩
  refine thn (step.run pins s3 σ H3 (fun o H4 => o = some (-1) ∧ H4 = H3) I3 ⟨1, rfl, -1, rfl, rfl, rfl⟩) ?_
  rintro c3 s4 ⟨o4, H4, I4, g4, rfl, rfl⟩
  have J : L2.Inv X pins σ H4 { s4 with heap := s4.heap.push { cls := .type "slice", data := .fields #[c1, c2, c3] } } := I4.kept (t' := s4.toks) fun _ _ z => Heap.get?_push_of_some _ z
  obtain ⟨its, r, isT, _⟩ := J.tuple sq
  cases r with
  | cons r1 r2 =>
    cases r2 with
    | cons r2 r3 =>
      cases r3
      rename_i v1 v2
      show wpAny (model X.prog X.w) X.A (subscriptTail e (.Slice none none (some (.UnaryOp .USub (.Constant (.int 1) k p1) p2)) p3) (.ref a) (.ref s4.heap.objs.size)) (EP X pins σ Q) X.xe _
      refine tail_any (ops := [.ref a, .ref s4.heap.objs.size]) isT.typeIs slot_tuple_getitem.lookup ?_ (by with_unfolding_all rfl)
      refine get_back isT (Heap.IsSliceOf.new _ c1 c2 c3) g2 g3 g4 ?_
      refine ⟨.ref _, _, J.laid (t' := s4.toks) (o := .tup [y, x]) (fun _ _ z => Heap.get?_push_of_some _ z) (Nat.le_refl _) ?_, rfl, q _ (J.hok.fresh (Nat.le_refl _))⟩
      exact ⟨(by show 2 ≤ sizeLine; decide), [v2, v1], .cons r2 (.cons r1 .nil), IsTup.new _ _⟩
end RvT


set_option Elab.async false
set_option linter.all false
set_option maxRecDepth 100000
set_option maxHeartbeats 1000000
namespace Rs
open PySem L2 Bs Fq LamX LmD RZ
abbrev sRefused : Stmt := top 59
abbrev sLaw : Stmt := top 60
theorem nope {b : Bool} {α : Prop} (h : b = false) (z : b = true) : α := by
  rw [h] at z
  cases z
theorem dpAll_get {K : PySem.W.Frag} {H : Hp} : ∀ {ds : List PyData} {xs : List V} {i : Nat} {x : V}, DpAll K H xs ds → xs[i]? = some x → ∃ d, d ∈ ds ∧ Dp K H x d
  | _, _, i, x, .nil, h => by simp at h
  | _, _, 0, x, .cons h1 h2, h => by
    simp only [List.getElem?_cons_zero, Option.some.injEq] at h
    rw [← h]
    exact ⟨_, List.mem_cons_self, h1⟩
  | _, _, i + 1, x, .cons h1 h2, h => by
    simp only [List.getElem?_cons_succ] at h
    obtain ⟨d, m, e⟩ := dpAll_get h2 h
    exact ⟨d, List.mem_cons_of_mem _ m, e⟩
theorem dpAll_rep {K : PySem.W.Frag} {H : Hp} {v : V} {d : PyData} (h : Dp K H v d) : ∀ n, DpAll K H (List.replicate n v) (List.replicate n d)
  | 0 => .nil
  | n + 1 => .cons h (dpAll_rep h n)
theorem dp_emp {K : PySem.W.Frag} {H : Hp} {p : Addr} : Dp K (upd H p (.tup [])) (.ref p) (.tuple []) := .tup (SqT.of upd_same) .nil
def d11 : PyData := dF (1, 1)
def dW (x : Str) (d : PyData) : PyData := .tuple [.str x, d]
def g0 : Pr := ((0, 1), (1, 1))
def g1 : Pr := ((2, 1), (1, 2))
def gdP : List Pr := [g0, g1]
def rwQ : List F := [(1, 1), (0, 1), (3, 1)]
def rs1 : List PyData := [.none, .tuple [], .list [d11], .tuple [dF (0, 1)], .tuple [dF (-1, 1), d11], .tuple [d11, dF (2, 2)], .tuple (List.replicate 10 d11)]
def rs2a : List PyData := [.none, .tuple [], .list [dPr g0], .tuple [dPr g1, dPr g0], .tuple [.tuple [dF (0, 1), dF (0, 1)]], .tuple [dPr g0, dPr g0], .tuple [.tuple [dF (2, 4), d11]]]
def rs2 : List PyData := rs2a ++ [.tuple [d11]]
def rs3 : List PyData := [.none, .int (-1), .int 9, .bool true, dF (2, 1)]
def rs4 : List PyData := [.none, .tuple [dF (0, 1)], .tuple [dF (0, 1), dF (0, 1), dF (0, 1), d11], .list [d11]]
theorem rs1_ok : ∀ d ∈ rs1, rowD d = false ∧ sameRow (dP rwQ) d = false ∧ shB (.list (List.replicate 4 (dW "row" d))) = true := by decide +kernel
theorem rs2_ok : ∀ d ∈ rs2, shareD d = false ∧ smD d = true ∧ shB (.list (List.replicate 2 (dW "share" d))) = true := by decide +kernel
theorem rs3_ok : ∀ d ∈ rs3, betwD 0 8 d = false ∧ shB (dW "number" d) = true := by decide +kernel
theorem rs4_ok : ∀ d ∈ rs4, polyLe (dP rwQ) d = false ∧ shB (dW "poly" d) = true := by decide +kernel
theorem rowT : rowD (dP rwQ) = true := by decide +kernel
theorem shT : shareD (dSh gdP) = true := by decide +kernel
theorem smT : smD (dSh gdP) = true := by decide +kernel
theorem nob {d : PyData} {k : Int} {α : Prop} (h : betwD 0 8 d = false) (e : d = .int k) (k0 : 0 ≤ k) (k8 : k ≤ 8) : α := by
  rw [e] at h
  simp [betwD, k0, k8] at h
/-- a list that is being filled -/
structure LB (K : PySem.W.Frag) (Ts : List (Addr × Str)) (H1 H2 : Hp) (l : Addr) (ys : List V) (ds : List PyData) : Prop where
  base : ∃ H0, ExtN H1 H0 ∧ H0 l = none ∧ KL l H0 H2
  T : Tabs Ts H2
  at_ : H2 l = some (.lst ys)
  dl : ∀ H', KL l H2 H' → DpAll K H' ys ds
section
variable {K : PySem.W.Frag} {Ts : List (Addr × Str)} {H1 H2 H3 Hx : Hp} {l : Addr} {ys : List V} {ds : List PyData}
theorem LB.new (x : ExtN H1 Hx) (T : Tabs Ts Hx) (hl : Hx l = none) (d : DpAll K Hx ys ds) : LB K Ts H1 (upd Hx l (.lst ys)) l ys ds :=
  ⟨⟨Hx, x, hl, KL.upd⟩, Tabs.same T (same_new hl), upd_same, fun H' kk => dpAll_ext (KL.ext (ExtN.refl Hx) hl (KL.trans KL.upd kk)) _ _ d⟩
theorem LB.old (B : LB K Ts H1 H2 l ys ds) {H' : Hp} (kk : KL l H2 H') : ExtN H1 H' := by
  obtain ⟨H0, x, n, k⟩ := B.base
  exact ExtN.trans x (KL.ext (ExtN.refl H0) n (KL.trans k kk))
theorem LB.ext (B : LB K Ts H1 H2 l ys ds) : ExtN H1 H2 := B.old (KL.of (ExtN.refl H2))
theorem LB.dp (B : LB K Ts H1 H2 l ys ds) : Dp K H2 (.ref l) (.list ds) := .lst (SqL.of B.at_) (B.dl H2 (KL.of (ExtN.refl H2)))
theorem LB.app (B : LB K Ts H1 H2 l ys ds) (y : ExtN H2 H3) (T3 : Tabs Ts H3) {p : Addr} {wd : Str} {v : V} {d : PyData} (q : H3 p = some (.tup [.str wd, v])) (dv : ∀ H', KL l H3 H' → Dp K H' v d) :
    LB K Ts H1 (upd H3 l (.lst (ys ++ [.ref p]))) l (ys ++ [.ref p]) (ds ++ [dW wd d]) := by
  obtain ⟨H0, x, n, k⟩ := B.base
  have hl := ExtN.l y B.at_
  refine ⟨⟨H0, x, n, KL.trans (KL.trans k (KL.of y)) KL.upd⟩, tabs_app T3 hl, upd_same, fun H' kk => ?_⟩
  have k5 : KL l H3 H' := KL.trans KL.upd kk
  exact dpAll_app (B.dl H' (KL.trans (KL.of y) k5)) (.cons (dp_word (KL.tp k5 hl q) (dv H' k5)) .nil)
end
abbrev NR_ : List Str := ["good", "row", "odd", "heard", "odds"]
/-- _law_refused_good() -/
def spRefused (Ts : List (Addr × Str)) : Sp := fun vs H Q _ => vs = [] ∧ Tabs Ts H ∧ ∀ H', ExtN H H' → Tabs Ts H' → Q (.bl true) H'
theorem scRefused : FnScope NR_ [] (defScope sRefused) := ⟨rfl, rfl, rfl, by decide +kernel, rfl, by decide +kernel, by decide +kernel⟩
theorem nown : ∀ i : Nat, NR_[i]? ≠ some "own"
  | 0 => by decide
  | 1 => by decide
  | 2 => by decide
  | 3 => by decide
  | 4 => by decide
  | i + 5 => by simp
/-- what stays throughout -/
structure RI (K : PySem.W.Frag) (Ts : List (Addr × Str)) (H0 H1 : Hp) (ga ra : Addr) : Prop where
  x : ExtN H0 H1
  T : Tabs Ts H1
  dg : Dp K H1 (.ref ga) (dSh gdP)
  dr : Dp K H1 (.ref ra) (dP rwQ)
theorem RI.ext {K : PySem.W.Frag} {Ts : List (Addr × Str)} {H0 H1 H2 : Hp} {ga ra : Addr} (R : RI K Ts H0 H1 ga ra) (x : ExtN H1 H2) (T : Tabs Ts H2) : RI K Ts H0 H2 ga ra := ⟨ExtN.trans R.x x, T, ExtN.t2 x R.dg, ExtN.t2 x R.dr⟩
section
variable {P : Program} {w : World} {K : PySem.W.Frag} {mg : Str → Option Value} {base : Heap} {f c1 P1 g : Addr} {C : Cls} {fd : FuncData} {Ts : List (Addr × Str)}
theorem ok_refused (F : FunC K "_law_refused_good" "_law_refused_good" sRefused f fd c1) (T : Blt mg) (Hk : HeardK K mg g C)
    (Tk : ∀ A outer s H E, TabOk (cxOf CX0 P w K mg base NR_ "_law_refused_good" (defScope sRefused) f (.ref c1) A outer s H E).nox Ts c1 P1)
    (MO : CalX P w K mg base 7 "moments" (spMoments K C.S C.N)) (NS : CalX P w K mg base 6 "need_share" (spNeedSh K C.S)) (SB : CalX P w K mg base 6 "sum_by" (spSumBy K C.R C.P)) (NR : CalX P w K mg base 5 "need_row" (spNeedRow K C.R)) (MX : CalX P w K mg base 6 "mixed" (spMixed2 K C.R C.F)) :
    FnG P w K mg base 10 f fd [] (spRefused Ts) := by
  refine FnG.okC F scRefused (fun vs H Q E h => ?_) (fun A outer s H vs Q E hgd hr h => ?_)
  · obtain ⟨rfl, _⟩ := h
    rfl
  · obtain ⟨rfl, TT, k⟩ := h
    refine ⟨_, (C8.pss_cut (ps_asg (pe_tup (pa_cons (pe_tup (pa_cons (pe_tup (pa_cons (pe_tup (pa_cons pe_int (pa_cons pe_int pa_nil))) (pa_cons (pe_tup (pa_cons pe_int (pa_cons pe_int pa_nil))) pa_nil))) (pa_cons (pe_tup (pa_cons (pe_tup (pa_cons pe_int (pa_cons pe_int pa_nil))) (pa_cons (pe_tup (pa_cons pe_int (pa_cons pe_int pa_nil))) pa_nil))) pa_nil))) (pa_cons (pe_tup (pa_cons (pe_tup (pa_cons pe_int (pa_cons pe_int pa_nil))) (pa_cons (pe_tup (pa_cons pe_int (pa_cons pe_int pa_nil))) (pa_cons (pe_tup (pa_cons pe_int (pa_cons pe_int pa_nil))) pa_nil)))) pa_nil))) (pg_tup rfl (pgs_cons (pg_name (i := 0) scRefused.nd rfl (.inr rfl)) (pgs_cons (pg_name (i := 1) scRefused.nd rfl (.inr rfl)) pgs_nil))))
      (C8.pss_cut (ps_for PassesOwn.never rfl (pi_tup (pe_tup (pa_cons pe_non (pa_cons (pe_tup pa_nil) (pa_cons (pe_lst (pa_cons (pe_tup (pa_cons pe_int (pa_cons pe_int pa_nil))) pa_nil)) (pa_cons (pe_tup (pa_cons (pe_tup (pa_cons pe_int (pa_cons pe_int pa_nil))) pa_nil)) (pa_cons (pe_tup (pa_cons (pe_tup (pa_cons (pe_un un_neg pe_int) (pa_cons pe_int pa_nil))) (pa_cons (pe_tup (pa_cons pe_int (pa_cons pe_int pa_nil))) pa_nil))) (pa_cons (pe_tup (pa_cons (pe_tup (pa_cons pe_int (pa_cons pe_int pa_nil))) (pa_cons (pe_tup (pa_cons pe_int (pa_cons pe_int pa_nil))) pa_nil))) (pa_cons (pe_op op_repT (pe_tup (pa_cons (pe_tup (pa_cons pe_int (pa_cons pe_int pa_nil))) pa_nil)) pe_int) pa_nil))))))))) (pg_name (i := 2) scRefused.nd rfl (Or.inr rfl))
      (C8.pss_cut (ps_set (i := 3) scRefused.nd rfl (Or.inl rfl) (pe_lst (pa_cons (pe_hd (k := 7) (t := (fun E => tCall (spNeedRow K C.R) [] E (tCons (tVar 2) tNil))) Hk (Tk A outer s H E) hr (by rfl) (lamS_by (sc := defScope sRefused) (by decide +kernel)) (fun A' outer' s' H' E' f' c' hr' => pe_x NR hr' (by decide) (by rfl) (passes_call (takes_of rfl rfl rfl rfl) (fun _ _ _ _ h => h)) (pa_cons (pv 2) pa_nil))) (pa_cons (pe_hdD (k := 7) (t := (fun E => tCall (spSumBy K C.R C.P) [] E (tCons (tVar 2) (tCons (tC .non) tNil)))) Hk (Tk A outer s H E) hr (by rfl) (scD_by (sc := defScope sRefused) (by decide +kernel)) nown bindD (fun A' outer' s' H' E' f' c' hr' => pe_x SB hr' (by decide) (by rfl) (passes_call (takes_of rfl rfl rfl rfl) (fun _ _ _ _ h => h)) (pa_cons (pv 2) (pa_cons pe_non pa_nil)))) pa_nil))))
      (C8.pss_cut (ps_expr (pe_bm PySem.F.plainAttrs_list PySem.F.slot_list_append PySem.F.type_list_append mt_append (pv 3) (pa_cons (pe_hd (k := 7) (t := (fun E => tCall (spMixed2 K C.R C.F) [] E (tCons (tVar 2) (tCons (tC .non) (tCons (tC (.int 0)) (tCons (tC (.int 0)) tNil)))))) Hk (Tk A outer s H E) hr (by rfl) (lamS_by (sc := defScope sRefused) (by decide +kernel)) (fun A' outer' s' H' E' f' c' hr' => pe_x MX hr' (by decide) (by rfl) (passes_call (takes_of rfl rfl rfl rfl) (fun _ _ _ _ h => h)) (pa_cons (pv 2) (pa_cons pe_non (pa_cons pe_int (pa_cons pe_int pa_nil)))))) pa_nil)))
      (C8.pss_cut (ps_expr (pe_bm PySem.F.plainAttrs_list PySem.F.slot_list_append PySem.F.type_list_append mt_append (pv 3) (pa_cons (pe_hd (k := 7) (t := (fun E => tCall (spMixed2 K C.R C.F) [] E (tCons (tVar 1) (tCons (tVar 2) (tCons (tC (.int 0)) (tCons (tC (.int 0)) tNil)))))) Hk (Tk A outer s H E) hr (by rfl) (lamS_by (sc := defScope sRefused) (by decide +kernel)) (fun A' outer' s' H' E' f' c' hr' => pe_x MX hr' (by decide) (by rfl) (passes_call (takes_of rfl rfl rfl rfl) (fun _ _ _ _ h => h)) (pa_cons (pv 1) (pa_cons (pv 2) (pa_cons pe_int (pa_cons pe_int pa_nil)))))) pa_nil)))
      (pss_one (ps_if (pt_cmpR op_ne (pe_callB (call_repr hgd hr.units) (by rfl) T.repr (by decide +kernel) (pa_cons (pv 3) pa_nil)) (pe_callB (call_repr hgd hr.units) (by rfl) T.repr (by decide +kernel) (pa_cons (pe_op op_rep (pe_lst (pa_cons (pe_tup (pa_cons pe_str (pa_cons (pv 2) pa_nil))) pa_nil)) pe_int) pa_nil)) (nomark _)) (pss_one (ps_ret pe_bl)) pss_nil))))))
      (C8.pss_cut (ps_set (i := 4) scRefused.nd rfl (Or.inl rfl) (pe_lst (pa_cons pe_non (pa_cons (pe_tup pa_nil) (pa_cons (pe_lst (pa_cons (pe_ix ix_tup (pv 0) pe_int (fun _ _ => rfl)) pa_nil)) (pa_cons (RvT.pe_back (pv 0)) (pa_cons (pe_tup (pa_cons (pe_tup (pa_cons (pe_tup (pa_cons pe_int (pa_cons pe_int pa_nil))) (pa_cons (pe_tup (pa_cons pe_int (pa_cons pe_int pa_nil))) pa_nil))) pa_nil)) (pa_cons (pe_op op_repT (pe_slice sl_tup (pv 0) po_none (po_some pe_int)) pe_int) (pa_cons (pe_tup (pa_cons (pe_tup (pa_cons (pe_tup (pa_cons pe_int (pa_cons pe_int pa_nil))) (pa_cons (pe_tup (pa_cons pe_int (pa_cons pe_int pa_nil))) pa_nil))) pa_nil)) pa_nil)))))))))
      (C8.pss_cut (ps_for PassesOwn.never rfl (pi_list (pe_op op_cat (pv 4) (pe_lst (pa_cons (pe_tup (pa_cons (pe_tup (pa_cons pe_int (pa_cons pe_int pa_nil))) pa_nil)) pa_nil)))) (pg_name (i := 2) scRefused.nd rfl (Or.inr rfl))
      (C8.pss_cut (ps_set (i := 3) scRefused.nd rfl (Or.inl rfl) (pe_lst (pa_cons (pe_hd (k := 7) (t := (fun E => tCall (spNeedSh K C.S) [] E (tCons (tVar 2) tNil))) Hk (Tk A outer s H E) hr (by rfl) (lamS_by (sc := defScope sRefused) (by decide +kernel)) (fun A' outer' s' H' E' f' c' hr' => pe_x NS hr' (by decide) (by rfl) (passes_call (takes_of rfl rfl rfl rfl) (fun _ _ _ _ h => h)) (pa_cons (pv 2) pa_nil))) (pa_cons (pe_hdD (k := 7) (t := (fun E => tCall (spMoments K C.S C.N) [] E (tCons (tVar 2) (tCons (tC .non) tNil)))) Hk (Tk A outer s H E) hr (by rfl) (scD_by (sc := defScope sRefused) (by decide +kernel)) nown bindD (fun A' outer' s' H' E' f' c' hr' => pe_x MO hr' (by decide) (by rfl) (passes_call (takes_of rfl rfl rfl rfl) (fun _ _ _ _ h => h)) (pa_cons (pv 2) (pa_cons pe_non pa_nil)))) pa_nil))))
      (pss_one (ps_if (pt_cmpR op_ne (pe_callB (call_repr hgd hr.units) (by rfl) T.repr (by decide +kernel) (pa_cons (pv 3) pa_nil)) (pe_callB (call_repr hgd hr.units) (by rfl) T.repr (by decide +kernel) (pa_cons (pe_op op_rep (pe_lst (pa_cons (pe_tup (pa_cons pe_str (pa_cons (pv 2) pa_nil))) pa_nil)) pe_int) pa_nil)) (nomark _)) (pss_one (ps_ret pe_bl)) pss_nil))))
      (C8.pss_cut (ps_for PassesOwn.never rfl (pi_tup (pe_tup (pa_cons pe_non (pa_cons (pe_un un_neg pe_int) (pa_cons pe_int (pa_cons pe_bl (pa_cons (pe_tup (pa_cons pe_int (pa_cons pe_int pa_nil))) pa_nil))))))) (pg_name (i := 2) scRefused.nd rfl (Or.inr rfl))
      (pss_one (ps_if (pt_cmpR op_ne (pe_callB (call_repr hgd hr.units) (by rfl) T.repr (by decide +kernel) (pa_cons (pe_hd (k := 7) (t := (fun E => tCall (spMoments K C.S C.N) [] E (tCons (tVar 0) (tCons (tVar 2) tNil)))) Hk (Tk A outer s H E) hr (by rfl) (lamS_by (sc := defScope sRefused) (by decide +kernel)) (fun A' outer' s' H' E' f' c' hr' => pe_x MO hr' (by decide) (by rfl) (passes_call (takes_of rfl rfl rfl rfl) (fun _ _ _ _ h => h)) (pa_cons (pv 0) (pa_cons (pv 2) pa_nil)))) pa_nil)) (pe_callB (call_repr hgd hr.units) (by rfl) T.repr (by decide +kernel) (pa_cons (pe_tup (pa_cons pe_str (pa_cons (pv 2) pa_nil))) pa_nil)) (nomark _)) (pss_one (ps_ret pe_bl)) pss_nil)))
      (C8.pss_cut (ps_for PassesOwn.never rfl (pi_tup (pe_tup (pa_cons pe_non (pa_cons (pe_tup (pa_cons (pe_tup (pa_cons pe_int (pa_cons pe_int pa_nil))) pa_nil)) (pa_cons (pe_tup (pa_cons (pe_tup (pa_cons pe_int (pa_cons pe_int pa_nil))) (pa_cons (pe_tup (pa_cons pe_int (pa_cons pe_int pa_nil))) (pa_cons (pe_tup (pa_cons pe_int (pa_cons pe_int pa_nil))) (pa_cons (pe_tup (pa_cons pe_int (pa_cons pe_int pa_nil))) pa_nil))))) (pa_cons (pe_lst (pa_cons (pe_tup (pa_cons pe_int (pa_cons pe_int pa_nil))) pa_nil)) pa_nil)))))) (pg_name (i := 2) scRefused.nd rfl (Or.inr rfl))
      (pss_one (ps_if (pt_cmpR op_ne (pe_callB (call_repr hgd hr.units) (by rfl) T.repr (by decide +kernel) (pa_cons (pe_hd (k := 7) (t := (fun E => tCall (spSumBy K C.R C.P) [] E (tCons (tVar 1) (tCons (tVar 2) tNil)))) Hk (Tk A outer s H E) hr (by rfl) (lamS_by (sc := defScope sRefused) (by decide +kernel)) (fun A' outer' s' H' E' f' c' hr' => pe_x SB hr' (by decide) (by rfl) (passes_call (takes_of rfl rfl rfl rfl) (fun _ _ _ _ h => h)) (pa_cons (pv 1) (pa_cons (pv 2) pa_nil)))) pa_nil)) (pe_callB (call_repr hgd hr.units) (by rfl) T.repr (by decide +kernel) (pa_cons (pe_tup (pa_cons pe_str (pa_cons (pv 2) pa_nil))) pa_nil)) (nomark _)) (pss_one (ps_ret pe_bl)) pss_nil)))
      (C8.pss_cut (ps_set (i := 3) scRefused.nd rfl (Or.inl rfl) (pe_lst (pa_cons (pe_hd (k := 7) (t := (fun E => tCall (spMixed2 K C.R C.F) [] E (tCons (tVar 1) (tCons (tSl (rSlA K) (tVar 1) tNoPart (tPart (tC (.int 2)))) (tCons (tC (.int 0)) (tCons (tC (.int 0)) tNil)))))) Hk (Tk A outer s H E) hr (by rfl) (lamS_by (sc := defScope sRefused) (by decide +kernel)) (fun A' outer' s' H' E' f' c' hr' => pe_x MX hr' (by decide) (by rfl) (passes_call (takes_of rfl rfl rfl rfl) (fun _ _ _ _ h => h)) (pa_cons (pv 1) (pa_cons (pe_slice (show SlR _ (rSlA K) from sl_tupA) (pv 1) po_none (po_some pe_int)) (pa_cons pe_int (pa_cons pe_int pa_nil)))))) pa_nil)))
      (C8.pss_cut (ps_expr (pe_bm PySem.F.plainAttrs_list PySem.F.slot_list_append PySem.F.type_list_append mt_append (pv 3) (pa_cons (pe_hd (k := 7) (t := (fun E => tCall (spMixed2 K C.R C.F) [] E (tCons (tVar 1) (tCons (tVar 1) (tCons (tTup (tCons (tUn (rU fun i => .int (-i)) (tC (.int 1))) (tCons (tC (.int 2)) tNil))) (tCons (tC .non) tNil)))))) Hk (Tk A outer s H E) hr (by rfl) (lamS_by (sc := defScope sRefused) (by decide +kernel)) (fun A' outer' s' H' E' f' c' hr' => pe_x MX hr' (by decide) (by rfl) (passes_call (takes_of rfl rfl rfl rfl) (fun _ _ _ _ h => h)) (pa_cons (pv 1) (pa_cons (pv 1) (pa_cons (pe_tup (pa_cons (pe_un un_neg pe_int) (pa_cons pe_int pa_nil))) (pa_cons pe_non pa_nil)))))) pa_nil)))
      (C8.pss_cut (ps_expr (pe_bm PySem.F.plainAttrs_list PySem.F.slot_list_append PySem.F.type_list_append mt_append (pv 3) (pa_cons (pe_hd (k := 7) (t := (fun E => tCall (spMixed2 K C.R C.F) [] E (tCons (tVar 1) (tCons (tVar 1) (tCons (tTup (tCons (tC (.int 0)) (tCons (tC (.int 1)) tNil))) (tCons (tTup (tCons (tC (.int 0)) (tCons (tC (.int 1)) tNil))) tNil)))))) Hk (Tk A outer s H E) hr (by rfl) (lamS_by (sc := defScope sRefused) (by decide +kernel)) (fun A' outer' s' H' E' f' c' hr' => pe_x MX hr' (by decide) (by rfl) (passes_call (takes_of rfl rfl rfl rfl) (fun _ _ _ _ h => h)) (pa_cons (pv 1) (pa_cons (pv 1) (pa_cons (pe_tup (pa_cons pe_int (pa_cons pe_int pa_nil))) (pa_cons (pe_tup (pa_cons pe_int (pa_cons pe_int pa_nil))) pa_nil)))))) pa_nil)))
      (C8.pss_cut (ps_expr (pe_bm PySem.F.plainAttrs_list PySem.F.slot_list_append PySem.F.type_list_append mt_append (pv 3) (pa_cons (pe_hd (k := 7) (t := (fun E => tCall (spMixed2 K C.R C.F) [] E (tCons (tVar 1) (tCons (tVar 1) (tCons (tTup (tCons (tC (.int 0)) (tCons (tC (.int 1)) tNil))) (tCons (tC (.int 1)) tNil)))))) Hk (Tk A outer s H E) hr (by rfl) (lamS_by (sc := defScope sRefused) (by decide +kernel)) (fun A' outer' s' H' E' f' c' hr' => pe_x MX hr' (by decide) (by rfl) (passes_call (takes_of rfl rfl rfl rfl) (fun _ _ _ _ h => h)) (pa_cons (pv 1) (pa_cons (pv 1) (pa_cons (pe_tup (pa_cons pe_int (pa_cons pe_int pa_nil))) (pa_cons pe_int pa_nil)))))) pa_nil)))
      (C8.pss_cut (ps_if (pt_cmpR (op_neD hr.units) (pv 3) (pe_lst (pa_cons (pe_tup (pa_cons pe_str (pa_cons (pe_slice sl_tupA (pv 1) po_none (po_some pe_int)) pa_nil))) (pa_cons (pe_tup (pa_cons pe_str (pa_cons (pe_tup (pa_cons (pe_un un_neg pe_int) (pa_cons pe_int pa_nil))) pa_nil))) (pa_cons (pe_tup (pa_cons pe_str (pa_cons (pe_tup (pa_cons pe_int (pa_cons pe_int pa_nil))) pa_nil))) (pa_cons (pe_tup (pa_cons pe_str (pa_cons pe_int pa_nil))) pa_nil))))) (nomark _)) (pss_one (ps_ret pe_bl)) pss_nil)
      (C8.pss_cut (ps_set (i := 3) scRefused.nd rfl (Or.inl rfl) (pe_lst (pa_cons (pe_hd (k := 7) (t := (fun E => tCall (spMixed2 K C.R C.F) [] E (tCons (tVar 1) (tCons (tVar 1) (tCons (tC .non) (tCons (tC .non) tNil)))))) Hk (Tk A outer s H E) hr (by rfl) (lamS_by (sc := defScope sRefused) (by decide +kernel)) (fun A' outer' s' H' E' f' c' hr' => pe_x MX hr' (by decide) (by rfl) (passes_call (takes_of rfl rfl rfl rfl) (fun _ _ _ _ h => h)) (pa_cons (pv 1) (pa_cons (pv 1) (pa_cons pe_non (pa_cons pe_non pa_nil)))))) pa_nil)))
      (C8.pss_cut (ps_expr (pe_bm PySem.F.plainAttrs_list PySem.F.slot_list_append PySem.F.type_list_append mt_append (pv 3) (pa_cons (pe_hd (k := 7) (t := (fun E => tCall (spMixed2 K C.R C.F) [] E (tCons (tVar 1) (tCons (tVar 1) (tCons (tC .non) (tCons (tC .non) tNil)))))) Hk (Tk A outer s H E) hr (by rfl) (lamS_by (sc := defScope sRefused) (by decide +kernel)) (fun A' outer' s' H' E' f' c' hr' => pe_x MX hr' (by decide) (by rfl) (passes_call (takes_of rfl rfl rfl rfl) (fun _ _ _ _ h => h)) (pa_cons (pv 1) (pa_cons (pv 1) (pa_cons pe_non (pa_cons pe_non pa_nil)))))) pa_nil)))
      (C8.pss_cut (ps_expr (pe_bm PySem.F.plainAttrs_list PySem.F.slot_list_append PySem.F.type_list_append mt_append (pv 3) (pa_cons (pe_hd (k := 7) (t := (fun E => tCall (spMixed2 K C.R C.F) [] E (tCons (tVar 1) (tCons (tVar 1) (tCons (tTup (tCons (tC (.int 1)) (tCons (tC (.int 1)) tNil))) (tCons (tTup (tCons (tUn (rU fun i => .int (-i)) (tC (.int 1))) (tCons (tC (.int 2)) tNil))) tNil)))))) Hk (Tk A outer s H E) hr (by rfl) (lamS_by (sc := defScope sRefused) (by decide +kernel)) (fun A' outer' s' H' E' f' c' hr' => pe_x MX hr' (by decide) (by rfl) (passes_call (takes_of rfl rfl rfl rfl) (fun _ _ _ _ h => h)) (pa_cons (pv 1) (pa_cons (pv 1) (pa_cons (pe_tup (pa_cons pe_int (pa_cons pe_int pa_nil))) (pa_cons (pe_tup (pa_cons (pe_un un_neg pe_int) (pa_cons pe_int pa_nil))) pa_nil)))))) pa_nil)))
      (C8.pss_cut (ps_if (pt_cmpR (op_neD hr.units) (pv 3) (pe_op op_cat (pe_op op_rep (pe_lst (pa_cons (pe_tup (pa_cons pe_str (pa_cons pe_non pa_nil))) pa_nil)) pe_int) (pe_lst (pa_cons (pe_tup (pa_cons pe_str (pa_cons (pe_tup (pa_cons (pe_un un_neg pe_int) (pa_cons pe_int pa_nil))) pa_nil))) pa_nil))) (nomark _)) (pss_one (ps_ret pe_bl)) pss_nil)
      (pss_one (ps_ret (pe_cmpR (op_eqD hr.units) (pe_x MX hr (by decide) (by rfl) passL (pa_cons (pv 1) (pa_cons (pv 1) (pa_cons (pe_tup (pa_cons pe_int (pa_cons pe_int pa_nil))) (pa_cons (pe_tup (pa_cons pe_int (pa_cons pe_int pa_nil))) pa_nil))))) (pv 1) (nomark _))))))))))))))))))), ?_⟩
    have two : (2 : Nat) ≤ sizeLine := by decide
    have one1 : (1 : Nat) ≤ sizeLine := by decide
    have zero : (0 : Nat) ≤ sizeLine := by decide
    have three : (3 : Nat) ≤ sizeLine := by decide
    have four : (4 : Nat) ≤ sizeLine := by decide
    have le1 : (1 : Nat) ≤ 1000 := by decide
    -- good, row
    refine ⟨fun σ H1 => ∃ ga ra : Addr, RI K Ts H H1 ga ra ∧ σ = [some (.ref ga), some (.ref ra), none, none, none], ?_, ?_⟩
    · refine ⟨two, fun t1 h1 => ⟨two, fun t2 h2 => ⟨two, fun t3 h3 => ⟨two, fun t4 h4 => ⟨two, fun t5 h5 => ⟨two, fun t6 h6 => ⟨two, fun t7 h7 => ⟨two, fun t8 h8 => ⟨two, fun t9 h9 => ⟨two, fun t10 h10 => ⟨three, fun t11 h11 => ⟨two, fun T0 h12 => ⟨T0, _, rfl, SqT.of upd_same, rfl, _, _, rfl, _, _, rfl, rfl, ?_⟩⟩⟩⟩⟩⟩⟩⟩⟩⟩⟩⟩⟩
      have u0 := same_new (o := .tup [.int 0, .int 1]) h1
      have u1 := same_new (o := .tup [.int 1, .int 1]) h2
      have u2 := same_new (o := .tup [.ref t1, .ref t2]) h3
      have u3 := same_new (o := .tup [.int 2, .int 1]) h4
      have u4 := same_new (o := .tup [.int 1, .int 2]) h5
      have u5 := same_new (o := .tup [.ref t4, .ref t5]) h6
      have u6 := same_new (o := .tup [.ref t3, .ref t6]) h7
      have u7 := same_new (o := .tup [.int 1, .int 1]) h8
      have u8 := same_new (o := .tup [.int 0, .int 1]) h9
      have u9 := same_new (o := .tup [.int 3, .int 1]) h10
      have u10 := same_new (o := .tup [.ref t8, .ref t9, .ref t10]) h11
      have u11 := same_new (o := .tup [.ref t7, .ref t11]) h12
      have m11 := u11
      have m10 := u10.trans m11
      have m9 := u9.trans m10
      have m8 := u8.trans m9
      have m7 := u7.trans m8
      have m6 := u6.trans m7
      have m5 := u5.trans m6
      have m4 := u4.trans m5
      have m3 := u3.trans m4
      have m2 := u2.trans m3
      have m1 := u1.trans m2
      have m0 := u0.trans m1
      have zg : Dp K _ (.ref t7) (dSh gdP) := dps m7 (.tup (SqT.of upd_same) (.cons (dps (u3.trans (u4.trans (u5.trans u6))) (.tup (SqT.of upd_same) (.cons (dps (u1.trans u2) dp_lit) (.cons (dps u2 dp_lit) .nil)))) (.cons (dps u6 (.tup (SqT.of upd_same) (.cons (dps (u4.trans u5) dp_lit) (.cons (dps u5 dp_lit) .nil)))) .nil)))
      have zr : Dp K _ (.ref t11) (dP rwQ) := dps m11 (.tup (SqT.of upd_same) (.cons (dps (u8.trans (u9.trans u10)) dp_lit) (.cons (dps (u9.trans u10) dp_lit) (.cons (dps u10 dp_lit) .nil))))
      exact ⟨t7, t11, ⟨ExtN.same m0, Tabs.same TT m0, zg, zr⟩, rfl⟩
    rintro σ Hs ⟨ga, ra, R0, rfl⟩
    -- first loop
    refine ⟨fun σ H1 => ∃ v2 v3 : Option V, RI K Ts H H1 ga ra ∧ σ = [some (.ref ga), some (.ref ra), v2, v3, none], ?_, ?_⟩
    · refine ⟨zero, fun t1 h1 => ⟨two, fun t2 h2 => ⟨one1, fun l3 h3 => ⟨two, fun t4 h4 => ⟨one1, fun t5 h5 => ⟨_, rfl, two, fun t6 h6 => ⟨two, fun t7 h7 => ⟨two, fun t8 h8 => ⟨two, fun t9 h9 => ⟨two, fun t10 h10 => ⟨two, fun t11 h11 => ⟨two, fun t12 h12 => ⟨one1, fun t13 h13 => ⟨t13, 10, _, rfl, rfl, SqT.of upd_same, by simp, by decide, by decide, le1, fun t14 h14 => ⟨(by show 7 ≤ sizeLine; decide), fun a ha => ⟨a, rfl, ⟨_, SqT.of upd_same⟩, ?_⟩⟩⟩⟩⟩⟩⟩⟩⟩⟩⟩⟩⟩⟩⟩⟩
      have u0 := same_new (o := .tup []) h1
      have u1 := same_new (o := .tup [.int 1, .int 1]) h2
      have u2 := same_new (o := .lst [.ref t2]) h3
      have u3 := same_new (o := .tup [.int 0, .int 1]) h4
      have u4 := same_new (o := .tup [.ref t4]) h5
      have u5 := same_new (o := .tup [.int (-1), .int 1]) h6
      have u6 := same_new (o := .tup [.int 1, .int 1]) h7
      have u7 := same_new (o := .tup [.ref t6, .ref t7]) h8
      have u8 := same_new (o := .tup [.int 1, .int 1]) h9
      have u9 := same_new (o := .tup [.int 2, .int 2]) h10
      have u10 := same_new (o := .tup [.ref t9, .ref t10]) h11
      have u11 := same_new (o := .tup [.int 1, .int 1]) h12
      have u12 := same_new (o := .tup [.ref t12]) h13
      have u13 := same_new (o := .tup (List.replicate 10 (.ref t12))) h14
      have u14 := same_new (o := .tup [.non, .ref t1, .ref l3, .ref t5, .ref t8, .ref t11, .ref t14]) ha
      have m14 := u14
      have m13 := u13.trans m14
      have m12 := u12.trans m13
      have m11 := u11.trans m12
      have m10 := u10.trans m11
      have m9 := u9.trans m10
      have m8 := u8.trans m9
      have m7 := u7.trans m8
      have m6 := u6.trans m7
      have m5 := u5.trans m6
      have m4 := u4.trans m5
      have m3 := u3.trans m4
      have m2 := u2.trans m3
      have m1 := u1.trans m2
      have m0 := u0.trans m1
      have z1 : Dp K _ (.ref t1) (.tuple []) := dps m1 dp_emp
      have z3 : Dp K _ (.ref l3) (.list [d11]) := dps m3 (.lst (SqL.of upd_same) (.cons (dps u2 dp_lit) .nil))
      have z5 : Dp K _ (.ref t5) (.tuple [dF (0, 1)]) := dps m5 (.tup (SqT.of upd_same) (.cons (dps u4 dp_lit) .nil))
      have z8 : Dp K _ (.ref t8) (.tuple [dF (-1, 1), d11]) := dps m8 (.tup (SqT.of upd_same) (.cons (dps (u6.trans u7) dp_lit) (.cons (dps u7 dp_lit) .nil)))
      have z11 : Dp K _ (.ref t11) (.tuple [d11, dF (2, 2)]) := dps m11 (.tup (SqT.of upd_same) (.cons (dps (u9.trans u10) dp_lit) (.cons (dps u10 dp_lit) .nil)))
      have z14 : Dp K _ (.ref t14) (.tuple (List.replicate 10 d11)) := dps m14 (.tup (SqT.of upd_same) (dpAll_rep (dps (u12.trans u13) dp_lit) 10))
      refine for_tup (xs := [.non, .ref t1, .ref l3, .ref t5, .ref t8, .ref t11, .ref t14]) (fun i σ H1 => ∃ v2 v3 : Option V, RI K Ts H H1 ga ra ∧ SqT K H1 a [.non, .ref t1, .ref l3, .ref t5, .ref t8, .ref t11, .ref t14] ∧ DpAll K H1 [.non, .ref t1, .ref l3, .ref t5, .ref t8, .ref t11, .ref t14] rs1 ∧ σ = [some (.ref ga), some (.ref ra), v2, v3, none])
        ⟨none, none, R0.ext (ExtN.same m0) (Tabs.same R0.T m0), SqT.of upd_same, .cons .non (.cons z1 (.cons z3 (.cons z5 (.cons z8 (.cons z11 (.cons z14 .nil)))))), rfl⟩ ?_ ?_ ?_
      · rintro i σ H1 _ ⟨_, _, _, z, _, _⟩
        exact z
      · rintro i x σ H1 hx ⟨v2, v3, R, sa, da, rfl⟩
        obtain ⟨d, md, dx⟩ := dpAll_get da hx
        obtain ⟨bf, sf, shd0⟩ := rs1_ok d md
        have shd := sh_by shd0
        have z0 : ExtN H1 H1 := ExtN.refl H1
        refine ⟨fun σ H2 => ∃ (l : Addr) (ys : List V), LB K Ts H1 H2 l ys (List.replicate 2 (dW "row" d)) ∧ σ = [some (.ref ga), some (.ref ra), some x, some (.ref l), none], ?_, ?_⟩
        · skip
          refine ⟨R.T, fun Ha11 xa11 Ta11 => ⟨_, rfl, _, d, rfl, (ExtN.t2 (ExtN.trans z0 xa11) dx), (fun z => nope bf z), (fun _ Hb11 sb11 => out_of Hk .r (fun p11 H11 s11 q11 => ?_))⟩⟩
          have y11 : ExtN H1 H11 := ExtN.trans xa11 (ExtN.same (sb11.trans s11))
          have T11 := Tabs.same Ta11 (sb11.trans s11)
          have e11 : Dp K H11 (.ref p11) (dW "row" d) := dp_word q11 (ExtN.t2 (ExtN.trans z0 y11) dx)
          refine ⟨T11, fun Ha12 xa12 Ta12 => ⟨_, rfl, _, _, d, .none, rfl, (ExtN.t2 (ExtN.trans y11 xa12) dx), .non, (fun _ Hb12 sb12 => out_of Hk .r (fun p12 H12 s12 q12 => ?_)), (fun z => nope bf z), fun _ _ _ _ z => nope bf z⟩⟩
          have y12 : ExtN H11 H12 := ExtN.trans xa12 (ExtN.same (sb12.trans s12))
          have T12 := Tabs.same Ta12 (sb12.trans s12)
          have e12 : Dp K H12 (.ref p12) (dW "row" d) := dp_word q12 (ExtN.t2 (ExtN.trans y11 y12) dx)
          refine ⟨two, fun l hl => ?_⟩
          exact ⟨l, _, LB.new (ExtN.trans y11 y12) T12 hl (.cons (ExtN.t2 y12 e11) (.cons e12 .nil)), rfl⟩
        rintro σ H2 ⟨l, ys, B, rfl⟩
        have ln : ys.length = 2 := by rw [dpAll_len (B.dl _ (KL.of (ExtN.refl _))), List.length_replicate]
        refine ⟨fun σ H2 => ∃ (l : Addr) (ys : List V), LB K Ts H1 H2 l ys (List.replicate 3 (dW "row" d)) ∧ σ = [some (.ref ga), some (.ref ra), some x, some (.ref l), none], ?_, ?_⟩
        · skip
          refine ⟨_, rfl, Or.inl ⟨rfl, _, SqL.of B.at_⟩, B.T, fun Ha13 xa13 Ta13 => ⟨_, rfl, _, _, _, _, d, .none, .int 0, .int 0, rfl, (ExtN.t2 (ExtN.trans B.ext xa13) dx), .non, .int 0, .int 0, (fun _ Hb13 sb13 => out_of Hk .r (fun p13 H13 s13 q13 => ?_)), (fun z => nope bf z), (fun z => nope bf z), (fun z => nope bf z), (fun z => nope bf z), fun _ _ _ _ _ _ _ _ z => nope bf z⟩⟩
          have y13 : ExtN H2 H13 := ExtN.trans xa13 (ExtN.same (sb13.trans s13))
          have T13 := Tabs.same Ta13 (sb13.trans s13)
          have e13 : Dp K H13 (.ref p13) (dW "row" d) := dp_word q13 (ExtN.t2 (ExtN.trans B.ext y13) dx)
          refine ⟨l, ys, _, rfl, rfl, ExtN.l y13 B.at_, (by rw [ln]; show 2 < sizeLine; decide), ?_⟩
          exact ⟨l, _, B.app y13 T13 q13 (fun H' kk => ExtN.t2 (B.old (KL.trans (KL.of y13) kk)) dx), rfl⟩
        rintro σ H2 ⟨l, ys, B, rfl⟩
        have ln : ys.length = 3 := by rw [dpAll_len (B.dl _ (KL.of (ExtN.refl _))), List.length_replicate]
        refine ⟨fun σ H2 => ∃ (l : Addr) (ys : List V), LB K Ts H1 H2 l ys (List.replicate 4 (dW "row" d)) ∧ σ = [some (.ref ga), some (.ref ra), some x, some (.ref l), none], ?_, ?_⟩
        · skip
          refine ⟨_, rfl, Or.inl ⟨rfl, _, SqL.of B.at_⟩, B.T, fun Ha14 xa14 Ta14 => ⟨_, rfl, _, rfl, _, _, _, _, dP rwQ, d, .int 0, .int 0, rfl, (ExtN.t2 (ExtN.trans B.ext xa14) R.dr), (ExtN.t2 (ExtN.trans B.ext xa14) dx), .int 0, .int 0, fal rowT, (fun _ _ Hb14 sb14 => out_of Hk .r (fun p14 H14 s14 q14 => ?_)), (fun _ z => nope sf z), (fun _ z => nope sf z), (fun _ z => nope sf z), fun _ _ _ _ _ _ _ _ _ z => nope sf z⟩⟩
          have y14 : ExtN H2 H14 := ExtN.trans xa14 (ExtN.same (sb14.trans s14))
          have T14 := Tabs.same Ta14 (sb14.trans s14)
          have e14 : Dp K H14 (.ref p14) (dW "row" d) := dp_word q14 (ExtN.t2 (ExtN.trans B.ext y14) dx)
          refine ⟨l, ys, _, rfl, rfl, ExtN.l y14 B.at_, (by rw [ln]; show 3 < sizeLine; decide), ?_⟩
          exact ⟨l, _, B.app y14 T14 q14 (fun H' kk => ExtN.t2 (B.old (KL.trans (KL.of y14) kk)) dx), rfl⟩
        rintro σ H2 ⟨l, ys, B, rfl⟩
        refine ⟨_, rfl, l, .list (List.replicate 4 (dW "row" d)), rfl, B.dp, shd.s, shd.n, shd.dep, shd.l, ?_⟩
        refine ⟨_, rfl, two, fun p4 hp4 => ⟨one1, fun l4 hl4 => ?_⟩⟩
        have s7 := same_new (o := .tup [.str "row", x]) hp4
        have s8 := same_new (o := .lst [.ref p4]) hl4
        refine ⟨l4, 4, _, rfl, rfl, upd_same, by decide, by decide, (by show 4 ≤ sizeLine; decide), fun l5 hl5 => ?_⟩
        have s9 := same_new (o := .lst (List.replicate 4 (.ref p4))) hl5
        have e4 := dps (s8.trans s9) (dp_word upd_same (dps s7 (ExtN.t2 B.ext dx)))
        refine ⟨l5, .list (List.replicate 4 (dW "row" d)), rfl, .lst (SqL.of upd_same) (dpAll_rep e4 4), shd.s, shd.n, shd.dep, shd.l, rfl, false, by simp, ?_⟩
        have s79 := s7.trans (s8.trans s9)
        have xe := ExtN.trans B.ext (ExtN.same s79)
        exact ⟨some x, some (.ref l), R.ext xe (Tabs.same B.T s79), ExtN.t xe sa, dpAll_ext xe _ _ da, rfl⟩
      · rintro σ H1 ⟨v2, v3, R, _, _, rfl⟩
        exact ⟨v2, v3, R, rfl⟩
    clear R0
    rintro σ Hs ⟨v2, v3, R0, rfl⟩
    -- odds
    refine ⟨fun σ H1 => ∃ (L : Addr) (xs : List V), RI K Ts H H1 ga ra ∧ H1 L = some (.lst xs) ∧ DpAll K H1 xs rs2a ∧ σ = [some (.ref ga), some (.ref ra), v2, v3, some (.ref L)], ?_, ?_⟩
    · obtain ⟨gb, gxs, eg, sg, ag⟩ := Shr.open (show Shr K Hs (.ref ga) gdP from R0.dg)
      cases eg
      cases ag with
      | cons hg0 ag =>
      cases ag with
      | cons hg1 ag =>
      cases ag
      rename_i w0 w1
      refine ⟨zero, fun t1 h1 => ⟨_, rfl, ga, _, 0, w0, rfl, rfl, Bs.Same.t (same_new h1) sg, rfl, one1, fun l2 h2 => ⟨_, rfl, ga, w0, w1, rfl, Bs.Same.t ((same_new h1).trans (same_new h2)) sg, fun t3 h3 => ⟨two, fun t4 h4 => ⟨two, fun t5 h5 => ⟨two, fun t6 h6 => ⟨one1, fun t7 h7 => ?_⟩⟩⟩⟩⟩⟩⟩
      have u0 := same_new (o := .tup []) h1
      have u1 := same_new (o := .lst [w0]) h2
      have u2 := same_new (o := .tup [w1, w0]) h3
      have u3 := same_new (o := .tup [.int 0, .int 1]) h4
      have u4 := same_new (o := .tup [.int 0, .int 1]) h5
      have u5 := same_new (o := .tup [.ref t4, .ref t5]) h6
      have u6 := same_new (o := .tup [.ref t6]) h7
      have m06 := u0.trans (u1.trans (u2.trans (u3.trans (u4.trans (u5.trans u6)))))
      refine ⟨_, rfl, 1, rfl, ga, _, rfl, Bs.Same.t m06 sg, (by show ¬ (HT.sIx 2 0 none = 0 ∧ HT.sIx 2 2 (some 1) = 2); decide), fun t8 h8 => ?_⟩
      have ec : cutV [w0, w1] none (some 1) = [w0] := rfl
      rw [ec] at *
      have u7 := same_new (o := .tup [w0]) h8
      refine ⟨t8, 2, _, rfl, rfl, SqT.of upd_same, by simp, by decide, by decide, le1, fun t9 h9 => ⟨two, fun t10 h10 => ⟨two, fun t11 h11 => ⟨two, fun t12 h12 => ⟨one1, fun t13 h13 => ⟨(by show 7 ≤ sizeLine; decide), fun L h14 => ?_⟩⟩⟩⟩⟩⟩
      have u8 := same_new (o := .tup [w0, w0]) h9
      have u9 := same_new (o := .tup [.int 2, .int 4]) h10
      have u10 := same_new (o := .tup [.int 1, .int 1]) h11
      have u11 := same_new (o := .tup [.ref t10, .ref t11]) h12
      have u12 := same_new (o := .tup [.ref t12]) h13
      have u13 := same_new (o := .lst [.non, .ref t1, .ref l2, .ref t3, .ref t7, .ref t9, .ref t13]) h14
      have m13 := u13
      have m12 := u12.trans m13
      have m11 := u11.trans m12
      have m10 := u10.trans m11
      have m9 := u9.trans m10
      have m8 := u8.trans m9
      have m7 := u7.trans m8
      have m6 := u6.trans m7
      have m5 := u5.trans m6
      have m4 := u4.trans m5
      have m3 := u3.trans m4
      have m2 := u2.trans m3
      have m1 := u1.trans m2
      have m0 := u0.trans m1
      have k1 : Dp K _ (.ref t1) (.tuple []) := dps m1 dp_emp
      have k2 : Dp K _ (.ref l2) (.list [dPr g0]) := dps m2 (.lst (SqL.of upd_same) (.cons (dps (u0.trans u1) hg0) .nil))
      have k3 : Dp K _ (.ref t3) (.tuple [dPr g1, dPr g0]) := dps m3 (.tup (SqT.of upd_same) (.cons (dps (u0.trans (u1.trans u2)) hg1) (.cons (dps (u0.trans (u1.trans u2)) hg0) .nil)))
      have k7 : Dp K _ (.ref t7) (.tuple [.tuple [dF (0, 1), dF (0, 1)]]) := dps m7 (.tup (SqT.of upd_same) (.cons (dps u6 (.tup (SqT.of upd_same) (.cons (dps (u4.trans u5) dp_lit) (.cons (dps u5 dp_lit) .nil)))) .nil))
      have k9 : Dp K _ (.ref t9) (.tuple [dPr g0, dPr g0]) := dps m9 (.tup (SqT.of upd_same) (.cons (dps (m06.trans (u7.trans u8)) hg0) (.cons (dps (m06.trans (u7.trans u8)) hg0) .nil)))
      have k13 : Dp K _ (.ref t13) (.tuple [.tuple [dF (2, 4), d11]]) := dps m13 (.tup (SqT.of upd_same) (.cons (dps u12 (.tup (SqT.of upd_same) (.cons (dps (u10.trans u11) dp_lit) (.cons (dps u11 dp_lit) .nil)))) .nil))
      exact ⟨L, _, R0.ext (ExtN.same m0) (Tabs.same R0.T m0), upd_same, .cons .non (.cons k1 (.cons k2 (.cons k3 (.cons k7 (.cons k9 (.cons k13 .nil)))))), rfl⟩
    clear R0
    rintro σ Hs ⟨L, xsL, R0, hL, dL, rfl⟩
    -- second loop
    refine ⟨fun σ H1 => ∃ v2 v3 : Option V, RI K Ts H H1 ga ra ∧ σ = [some (.ref ga), some (.ref ra), v2, v3, some (.ref L)], ?_, ?_⟩
    · have lL : xsL.length = 7 := dpAll_len dL
      refine ⟨_, rfl, two, fun t1 h1 => ⟨one1, fun t2 h2 => ⟨one1, fun l3 h3 => ?_⟩⟩⟩
      have u0 := same_new (o := .tup [.int 1, .int 1]) h1
      have u1 := same_new (o := .tup [.ref t1]) h2
      have u2 := same_new (o := .lst [.ref t2]) h3
      have m02 := u0.trans (u1.trans u2)
      refine ⟨L, l3, xsL, [.ref t2], rfl, rfl, m02 _ _ hL, upd_same, (by rw [lL]; show 8 ≤ sizeLine; decide), fun l4 h4 => ?_⟩
      have u3 := same_new (o := .lst (xsL ++ [.ref t2])) h4
      have m0 := m02.trans u3
      have z2 : Dp K _ (.ref t2) (.tuple [d11]) := dps (u2.trans u3) (.tup (SqT.of upd_same) (.cons (dps u1 dp_lit) .nil))
      have dA : DpAll K _ (xsL ++ [.ref t2]) rs2 := dpAll_app (ds := rs2a) (es := [.tuple [d11]]) (dpAll_ext (ExtN.same m0) _ _ dL) (.cons z2 .nil)
      refine ⟨l4, rfl, ⟨_, SqL.of upd_same⟩, for_list (xs := xsL ++ [.ref t2]) (fun i σ H1 => ∃ v2 v3 : Option V, RI K Ts H H1 ga ra ∧ H1 l4 = some (.lst (xsL ++ [.ref t2])) ∧ DpAll K H1 (xsL ++ [.ref t2]) rs2 ∧ σ = [some (.ref ga), some (.ref ra), v2, v3, some (.ref L)])
        ⟨v2, v3, R0.ext (ExtN.same m0) (Tabs.same R0.T m0), upd_same, dA, rfl⟩ (fun i σ H1 _ p => ?_) ?_ ?_⟩
      · obtain ⟨_, _, _, z, _, _⟩ := p
        exact SqL.of z
      · rintro i x σ H1 hx ⟨v2, v3, R, hL4, da, rfl⟩
        obtain ⟨d, md, dx⟩ := dpAll_get da hx
        obtain ⟨bf, sm, shd0⟩ := rs2_ok d md
        have shd := sh_by shd0
        have z0 : ExtN H1 H1 := ExtN.refl H1
        refine ⟨fun σ H2 => ∃ (l : Addr) (ys : List V), LB K Ts H1 H2 l ys (List.replicate 2 (dW "share" d)) ∧ σ = [some (.ref ga), some (.ref ra), some x, some (.ref l), some (.ref L)], ?_, ?_⟩
        · skip
          refine ⟨R.T, fun Ha21 xa21 Ta21 => ⟨_, rfl, _, d, rfl, (ExtN.t2 (ExtN.trans z0 xa21) dx), sm, (fun z => nope bf z), (fun _ Hb21 sb21 => out_of Hk .s (fun p21 H21 s21 q21 => ?_))⟩⟩
          have y21 : ExtN H1 H21 := ExtN.trans xa21 (ExtN.same (sb21.trans s21))
          have T21 := Tabs.same Ta21 (sb21.trans s21)
          have e21 : Dp K H21 (.ref p21) (dW "share" d) := dp_word q21 (ExtN.t2 (ExtN.trans z0 y21) dx)
          refine ⟨T21, fun Ha22 xa22 Ta22 => ⟨_, rfl, _, _, d, .none, rfl, (ExtN.t2 (ExtN.trans y21 xa22) dx), .non, sm, (fun _ Hb22 sb22 => out_of Hk .s (fun p22 H22 s22 q22 => ?_)), (fun z => nope bf z), fun _ _ _ _ z => nope bf z⟩⟩
          have y22 : ExtN H21 H22 := ExtN.trans xa22 (ExtN.same (sb22.trans s22))
          have T22 := Tabs.same Ta22 (sb22.trans s22)
          have e22 : Dp K H22 (.ref p22) (dW "share" d) := dp_word q22 (ExtN.t2 (ExtN.trans y21 y22) dx)
          refine ⟨two, fun l hl => ?_⟩
          exact ⟨l, _, LB.new (ExtN.trans y21 y22) T22 hl (.cons (ExtN.t2 y22 e21) (.cons e22 .nil)), rfl⟩
        rintro σ H2 ⟨l, ys, B, rfl⟩
        refine ⟨_, rfl, l, .list (List.replicate 2 (dW "share" d)), rfl, B.dp, shd.s, shd.n, shd.dep, shd.l, ?_⟩
        refine ⟨_, rfl, two, fun p4 hp4 => ⟨one1, fun l4 hl4 => ?_⟩⟩
        have s7 := same_new (o := .tup [.str "share", x]) hp4
        have s8 := same_new (o := .lst [.ref p4]) hl4
        refine ⟨l4, 2, _, rfl, rfl, upd_same, by decide, by decide, (by show 2 ≤ sizeLine; decide), fun l5 hl5 => ?_⟩
        have s9 := same_new (o := .lst (List.replicate 2 (.ref p4))) hl5
        have e4 := dps (s8.trans s9) (dp_word upd_same (dps s7 (ExtN.t2 B.ext dx)))
        refine ⟨l5, .list (List.replicate 2 (dW "share" d)), rfl, .lst (SqL.of upd_same) (dpAll_rep e4 2), shd.s, shd.n, shd.dep, shd.l, rfl, false, by simp, ?_⟩
        have s79 := s7.trans (s8.trans s9)
        have xe := ExtN.trans B.ext (ExtN.same s79)
        exact ⟨some x, some (.ref l), R.ext xe (Tabs.same B.T s79), ExtN.l xe hL4, dpAll_ext xe _ _ da, rfl⟩
      · rintro σ H1 ⟨v2, v3, R, _, _, rfl⟩
        exact ⟨v2, v3, R, rfl⟩
    clear R0
    rintro σ Hs ⟨v2, v3, R0, rfl⟩
    -- third loop
    refine ⟨fun σ H1 => ∃ v2 v3 : Option V, RI K Ts H H1 ga ra ∧ σ = [some (.ref ga), some (.ref ra), v2, v3, some (.ref L)], ?_, ?_⟩
    · refine ⟨_, rfl, two, fun t1 h1 => ⟨(by show 5 ≤ sizeLine; decide), fun a ha => ⟨a, rfl, ⟨_, SqT.of upd_same⟩, ?_⟩⟩⟩
      have u0 := same_new (o := .tup [.int 2, .int 1]) h1
      have u1 := same_new (o := .tup [.non, .int (-1), .int 9, .bl true, .ref t1]) ha
      have m1 := u1
      have m0 := u0.trans m1
      refine for_tup (xs := [.non, .int (-1), .int 9, .bl true, .ref t1]) (fun i σ H1 => ∃ v2 v3 : Option V, RI K Ts H H1 ga ra ∧ SqT K H1 a [.non, .int (-1), .int 9, .bl true, .ref t1] ∧ DpAll K H1 [.non, .int (-1), .int 9, .bl true, .ref t1] rs3 ∧ σ = [some (.ref ga), some (.ref ra), v2, v3, some (.ref L)])
        ⟨v2, v3, R0.ext (ExtN.same m0) (Tabs.same R0.T m0), SqT.of upd_same, .cons .non (.cons (.int _) (.cons (.int _) (.cons (.bl _) (.cons (dps u1 dp_lit) .nil)))), rfl⟩ ?_ ?_ ?_
      · rintro i σ H1 _ ⟨_, _, _, z, _, _⟩
        exact z
      · rintro i x σ H1 hx ⟨v2, v3, R, sa, da, rfl⟩
        obtain ⟨d, md, dx⟩ := dpAll_get da hx
        obtain ⟨bf, shd0⟩ := rs3_ok d md
        have shd := sh_by shd0
        have z0 : ExtN H1 H1 := ExtN.refl H1
        refine ⟨R.T, fun Ha31 xa31 Ta31 => ⟨_, rfl, _, rfl, _, _, dSh gdP, d, rfl, (ExtN.t2 (ExtN.trans z0 xa31) R.dg), (ExtN.t2 (ExtN.trans z0 xa31) dx), smT, fal shT, (fun _ _ Hb31 sb31 => out_of Hk .n (fun p31 H31 s31 q31 => ?_)), fun _ _ _ e _ k0 k8 => nob bf e k0 k8⟩⟩
        have y31 : ExtN H1 H31 := ExtN.trans xa31 (ExtN.same (sb31.trans s31))
        have T31 := Tabs.same Ta31 (sb31.trans s31)
        have e31 : Dp K H31 (.ref p31) (dW "number" d) := dp_word q31 (ExtN.t2 (ExtN.trans z0 y31) dx)
        refine ⟨p31, dW "number" d, rfl, e31, shd.s, shd.n, shd.dep, shd.l, ?_⟩
        refine ⟨_, rfl, two, fun p4 hp4 => ?_⟩
        have s7 := same_new (o := .tup [.str "number", x]) hp4
        refine ⟨p4, dW "number" d, rfl, dp_word upd_same (dps s7 (ExtN.t2 y31 dx)), shd.s, shd.n, shd.dep, shd.l, rfl, false, by simp, ?_⟩
        have xe := ExtN.trans y31 (ExtN.same s7)
        exact ⟨some x, v3, R.ext xe (Tabs.same T31 s7), ExtN.t xe sa, dpAll_ext xe _ _ da, rfl⟩
      · rintro σ H1 ⟨v2, v3, R, _, _, rfl⟩
        exact ⟨v2, v3, R, rfl⟩
    clear R0
    rintro σ Hs ⟨v2, v3, R0, rfl⟩
    -- fourth loop
    refine ⟨fun σ H1 => ∃ v2 v3 : Option V, RI K Ts H H1 ga ra ∧ σ = [some (.ref ga), some (.ref ra), v2, v3, some (.ref L)], ?_, ?_⟩
    · refine ⟨two, fun t1 h1 => ⟨one1, fun t2 h2 => ⟨two, fun t3 h3 => ⟨two, fun t4 h4 => ⟨two, fun t5 h5 => ⟨two, fun t6 h6 => ⟨four, fun t7 h7 => ⟨two, fun t8 h8 => ⟨one1, fun l9 h9 => ⟨four, fun a ha => ⟨a, rfl, ⟨_, SqT.of upd_same⟩, ?_⟩⟩⟩⟩⟩⟩⟩⟩⟩⟩⟩
      have u0 := same_new (o := .tup [.int 0, .int 1]) h1
      have u1 := same_new (o := .tup [.ref t1]) h2
      have u2 := same_new (o := .tup [.int 0, .int 1]) h3
      have u3 := same_new (o := .tup [.int 0, .int 1]) h4
      have u4 := same_new (o := .tup [.int 0, .int 1]) h5
      have u5 := same_new (o := .tup [.int 1, .int 1]) h6
      have u6 := same_new (o := .tup [.ref t3, .ref t4, .ref t5, .ref t6]) h7
      have u7 := same_new (o := .tup [.int 1, .int 1]) h8
      have u8 := same_new (o := .lst [.ref t8]) h9
      have u9 := same_new (o := .tup [.non, .ref t2, .ref t7, .ref l9]) ha
      have m9 := u9
      have m8 := u8.trans m9
      have m7 := u7.trans m8
      have m6 := u6.trans m7
      have m5 := u5.trans m6
      have m4 := u4.trans m5
      have m3 := u3.trans m4
      have m2 := u2.trans m3
      have m1 := u1.trans m2
      have m0 := u0.trans m1
      have z2 : Dp K _ (.ref t2) (.tuple [dF (0, 1)]) := dps m2 (.tup (SqT.of upd_same) (.cons (dps u1 dp_lit) .nil))
      have z7 : Dp K _ (.ref t7) (.tuple [dF (0, 1), dF (0, 1), dF (0, 1), d11]) := dps m7 (.tup (SqT.of upd_same) (.cons (dps (u3.trans (u4.trans (u5.trans u6))) dp_lit) (.cons (dps (u4.trans (u5.trans u6)) dp_lit) (.cons (dps (u5.trans u6) dp_lit) (.cons (dps u6 dp_lit) .nil)))))
      have z9 : Dp K _ (.ref l9) (.list [d11]) := dps m9 (.lst (SqL.of upd_same) (.cons (dps u8 dp_lit) .nil))
      refine for_tup (xs := [.non, .ref t2, .ref t7, .ref l9]) (fun i σ H1 => ∃ v2 v3 : Option V, RI K Ts H H1 ga ra ∧ SqT K H1 a [.non, .ref t2, .ref t7, .ref l9] ∧ DpAll K H1 [.non, .ref t2, .ref t7, .ref l9] rs4 ∧ σ = [some (.ref ga), some (.ref ra), v2, v3, some (.ref L)])
        ⟨v2, v3, R0.ext (ExtN.same m0) (Tabs.same R0.T m0), SqT.of upd_same, .cons .non (.cons z2 (.cons z7 (.cons z9 .nil))), rfl⟩ ?_ ?_ ?_
      · rintro i σ H1 _ ⟨_, _, _, z, _, _⟩
        exact z
      · rintro i x σ H1 hx ⟨v2, v3, R, sa, da, rfl⟩
        obtain ⟨d, md, dx⟩ := dpAll_get da hx
        obtain ⟨bf, shd0⟩ := rs4_ok d md
        have shd := sh_by shd0
        have z0 : ExtN H1 H1 := ExtN.refl H1
        refine ⟨R.T, fun Ha41 xa41 Ta41 => ⟨_, rfl, _, rfl, _, _, dP rwQ, d, rfl, (ExtN.t2 (ExtN.trans z0 xa41) R.dr), (ExtN.t2 (ExtN.trans z0 xa41) dx), fal rowT, (fun _ _ Hb41 sb41 => out_of Hk .p (fun p41 H41 s41 q41 => ?_)), fun _ _ _ _ _ z => nope bf z⟩⟩
        have y41 : ExtN H1 H41 := ExtN.trans xa41 (ExtN.same (sb41.trans s41))
        have T41 := Tabs.same Ta41 (sb41.trans s41)
        have e41 : Dp K H41 (.ref p41) (dW "poly" d) := dp_word q41 (ExtN.t2 (ExtN.trans z0 y41) dx)
        refine ⟨p41, dW "poly" d, rfl, e41, shd.s, shd.n, shd.dep, shd.l, ?_⟩
        refine ⟨_, rfl, two, fun p4 hp4 => ?_⟩
        have s7 := same_new (o := .tup [.str "poly", x]) hp4
        refine ⟨p4, dW "poly" d, rfl, dp_word upd_same (dps s7 (ExtN.t2 y41 dx)), shd.s, shd.n, shd.dep, shd.l, rfl, false, by simp, ?_⟩
        have xe := ExtN.trans y41 (ExtN.same s7)
        exact ⟨some x, v3, R.ext xe (Tabs.same T41 s7), ExtN.t xe sa, dpAll_ext xe _ _ da, rfl⟩
      · rintro σ H1 ⟨v2, v3, R, _, _, rfl⟩
        exact ⟨v2, v3, R, rfl⟩
    clear R0
    rintro σ H1 ⟨v2, v3, R, rfl⟩
    have z0 : ExtN H1 H1 := ExtN.refl H1
    have rr : sameRow (dP rwQ) (dP rwQ) = true := by decide +kernel
    -- row[:2]
    refine ⟨fun σ H2 => ∃ (l : Addr) (ys : List V), LB K Ts H1 H2 l ys [dW "row" (dP [(1, 1), (0, 1)])] ∧ σ = [some (.ref ga), some (.ref ra), v2, some (.ref l), some (.ref L)], ?_, ?_⟩
    · refine ⟨R.T, fun Ha xa Ta => ?_⟩
      obtain ⟨rb, rxs, er, sr, ar⟩ := dp_po (ExtN.t2 xa R.dr)
      cases er
      cases ar with
      | cons f1 ar =>
      cases ar with
      | cons f2 ar =>
      cases ar with
      | cons f3 ar =>
      cases ar
      rename_i w1 w2 w3
      refine ⟨_, rfl, _, rfl, 2, rfl, ra, [w1, w2, w3], rfl, sr, (fun z => absurd z (by show ¬ (HT.sIx 3 0 none = 0 ∧ HT.sIx 3 3 (some 2) = 3); decide)), fun _ t1 h1 => ?_⟩
      have ec : cutV [w1, w2, w3] none (some 2) = [w1, w2] := rfl
      rw [ec]
      have s1 := same_new (o := .tup [w1, w2]) h1
      have dq : Dp K (upd Ha t1 (.tup [w1, w2])) (.ref t1) (dP [(1, 1), (0, 1)]) := .tup (SqT.of upd_same) (.cons (f1.mono s1).dp (.cons (f2.mono s1).dp .nil))
      have sf : sameRow (dP rwQ) (dP [(1, 1), (0, 1)]) = false := by decide +kernel
      refine ⟨_, _, _, _, dP rwQ, dP [(1, 1), (0, 1)], .int 0, .int 0, rfl, dps s1 (ExtN.t2 xa R.dr), dq, .int 0, .int 0, fal rowT, (fun _ _ Hb sb => out_of Hk .r (fun p51 H51 s51 q51 => ?_)), (fun _ z => nope sf z), (fun _ z => nope sf z), (fun _ z => nope sf z), fun _ _ _ _ _ _ _ _ _ z => nope sf z⟩
      have sx := s1.trans (sb.trans s51)
      have y51 : ExtN H1 H51 := ExtN.trans xa (ExtN.same sx)
      have e51 : Dp K H51 (.ref p51) (dW "row" (dP [(1, 1), (0, 1)])) := dp_word q51 (dps (sb.trans s51) dq)
      refine ⟨one1, fun l hl => ?_⟩
      exact ⟨l, _, LB.new y51 (Tabs.same Ta sx) hl (.cons e51 .nil), rfl⟩
    rintro σ H2 ⟨l, ys, B, rfl⟩
    have ln : ys.length = _ := dpAll_len (B.dl _ (KL.of (ExtN.refl _)))
    refine ⟨fun σ H3 => ∃ (l : Addr) (ys : List V), LB K Ts H1 H3 l ys [dW "row" (dP [(1, 1), (0, 1)]), dW "fraction" (dF (-1, 2))] ∧ σ = [some (.ref ga), some (.ref ra), v2, some (.ref l), some (.ref L)], ?_, ?_⟩
    · skip
      refine ⟨_, rfl, Or.inl ⟨rfl, _, SqL.of B.at_⟩, B.T, fun Ha61 xa61 Ta61 => ?_⟩
      refine ⟨_, rfl, _, rfl, _, rfl, two, fun ta61 hta61 => ?_⟩
      have sta61 := same_new (o := .tup [.int (-1), .int 2]) hta61
      have sall61 := (sta61)
      refine ⟨_, _, _, _, dP rwQ, dP rwQ, dF (-1, 2), .none, rfl, (dps sall61 (ExtN.t2 (ExtN.trans B.ext xa61) R.dr)), (dps sall61 (ExtN.t2 (ExtN.trans B.ext xa61) R.dr)), dp_lit, .non, fal rowT, (fun _ => fal rr), (fun _ _ _ Hb61 sb61 => out_of Hk .f (fun p61 H61 s61 q61 => ?_)), (fun _ _ z => nope (by decide +kernel) z), (fun _ _ z => nope (by decide +kernel) z), fun _ _ _ _ _ _ _ _ _ _ z => nope (by decide +kernel) z⟩
      have y61 := ExtN.trans xa61 (ExtN.same (sall61.trans (sb61.trans s61)))
      have T61 := Tabs.same Ta61 (sall61.trans (sb61.trans s61))
      refine ⟨l, ys, _, rfl, rfl, ExtN.l y61 B.at_, (by rw [ln]; decide), ?_⟩
      have hq61 : H61 ta61 = some (.tup [.int (-1), .int 2]) := (sb61.trans s61) _ _ upd_same
      exact ⟨l, _, B.app y61 T61 q61 (fun H' kk => .tup (SqT.of (KL.tp kk (ExtN.l y61 B.at_) hq61)) (.cons (.int _) (.cons (.int _) .nil))), rfl⟩
    rintro σ H2 ⟨l, ys, B, rfl⟩
    have ln : ys.length = _ := dpAll_len (B.dl _ (KL.of (ExtN.refl _)))
    refine ⟨fun σ H3 => ∃ (l : Addr) (ys : List V), LB K Ts H1 H3 l ys [dW "row" (dP [(1, 1), (0, 1)]), dW "fraction" (dF (-1, 2)), dW "fraction" (dF (0, 1))] ∧ σ = [some (.ref ga), some (.ref ra), v2, some (.ref l), some (.ref L)], ?_, ?_⟩
    · skip
      refine ⟨_, rfl, Or.inl ⟨rfl, _, SqL.of B.at_⟩, B.T, fun Ha62 xa62 Ta62 => ?_⟩
      refine ⟨_, rfl, _, rfl, two, fun ta62 hta62 => ⟨two, fun tb62 htb62 => ?_⟩⟩
      have sta62 := same_new (o := .tup [.int (0), .int 1]) hta62
      have stb62 := same_new (o := .tup [.int (0), .int 1]) htb62
      have sall62 := (sta62.trans stb62)
      refine ⟨_, _, _, _, dP rwQ, dP rwQ, dF (0, 1), dF (0, 1), rfl, (dps sall62 (ExtN.t2 (ExtN.trans B.ext xa62) R.dr)), (dps sall62 (ExtN.t2 (ExtN.trans B.ext xa62) R.dr)), (dps stb62 dp_lit), dp_lit, fal rowT, (fun _ => fal rr), (fun _ _ => fal (by decide +kernel)), (fun _ _ _ => fal (by decide +kernel)), (fun _ _ _ _ _ Hb62 sb62 => out_of Hk .f (fun p62 H62 s62 q62 => ?_)), fun _ _ _ _ _ _ _ _ _ _ _ _ z => fal (by decide +kernel) z⟩
      have y62 := ExtN.trans xa62 (ExtN.same (sall62.trans (sb62.trans s62)))
      have T62 := Tabs.same Ta62 (sall62.trans (sb62.trans s62))
      refine ⟨l, ys, _, rfl, rfl, ExtN.l y62 B.at_, (by rw [ln]; decide), ?_⟩
      have hq62 : H62 tb62 = some (.tup [.int 0, .int 1]) := (sb62.trans s62) _ _ upd_same
      exact ⟨l, _, B.app y62 T62 q62 (fun H' kk => .tup (SqT.of (KL.tp kk (ExtN.l y62 B.at_) hq62)) (.cons (.int _) (.cons (.int _) .nil))), rfl⟩
    rintro σ H2 ⟨l, ys, B, rfl⟩
    have ln : ys.length = _ := dpAll_len (B.dl _ (KL.of (ExtN.refl _)))
    refine ⟨fun σ H3 => ∃ (l : Addr) (ys : List V), LB K Ts H1 H3 l ys [dW "row" (dP [(1, 1), (0, 1)]), dW "fraction" (dF (-1, 2)), dW "fraction" (dF (0, 1)), dW "fraction" (.int 1)] ∧ σ = [some (.ref ga), some (.ref ra), v2, some (.ref l), some (.ref L)], ?_, ?_⟩
    · skip
      refine ⟨_, rfl, Or.inl ⟨rfl, _, SqL.of B.at_⟩, B.T, fun Ha63 xa63 Ta63 => ?_⟩
      refine ⟨_, rfl, _, rfl, two, fun ta63 hta63 => ?_⟩
      have sta63 := same_new (o := .tup [.int (0), .int 1]) hta63
      have sall63 := (sta63)
      refine ⟨_, _, _, _, dP rwQ, dP rwQ, dF (0, 1), .int 1, rfl, (dps sall63 (ExtN.t2 (ExtN.trans B.ext xa63) R.dr)), (dps sall63 (ExtN.t2 (ExtN.trans B.ext xa63) R.dr)), dp_lit, .int 1, fal rowT, (fun _ => fal rr), (fun _ _ => fal (by decide +kernel)), (fun _ _ _ _ Hb63 sb63 => out_of Hk .f (fun p63 H63 s63 q63 => ?_)), (fun _ _ _ z => nope (by decide +kernel) z), fun _ _ _ _ _ _ _ _ _ _ _ z => nope (by decide +kernel) z⟩
      have y63 := ExtN.trans xa63 (ExtN.same (sall63.trans (sb63.trans s63)))
      have T63 := Tabs.same Ta63 (sall63.trans (sb63.trans s63))
      refine ⟨l, ys, _, rfl, rfl, ExtN.l y63 B.at_, (by rw [ln]; decide), ?_⟩
      exact ⟨l, _, B.app y63 T63 q63 (fun H' kk => .int 1), rfl⟩
    rintro σ H2 ⟨l, ys, B, rfl⟩
    -- as wanted
    refine ⟨fun σ H3 => RI K Ts H H3 ga ra ∧ σ = [some (.ref ga), some (.ref ra), v2, some (.ref l), some (.ref L)], ?_, ?_⟩
    · have dr2 := ExtN.t2 B.ext R.dr
      obtain ⟨rb, rxs, er, sr, ar⟩ := dp_po dr2
      cases er
      cases ar with
      | cons f1 ar =>
      cases ar with
      | cons f2 ar =>
      cases ar with
      | cons f3 ar =>
      cases ar
      rename_i w1 w2 w3
      refine ⟨_, rfl, _, rfl, 2, rfl, ra, [w1, w2, w3], rfl, sr, (fun z => absurd z (by show ¬ (HT.sIx 3 0 none = 0 ∧ HT.sIx 3 3 (some 2) = 3); decide)), fun _ t1 h1 => ?_⟩
      have ec : cutV [w1, w2, w3] none (some 2) = [w1, w2] := rfl
      rw [ec] at *
      refine ⟨two, fun b1 g1 => ⟨_, rfl, two, fun t2 h2 => ⟨two, fun b2 g2 => ⟨two, fun t3 h3 => ⟨two, fun b3 g3 => ⟨two, fun b4 g4 => ⟨four, fun l2 hl2 => ?_⟩⟩⟩⟩⟩⟩⟩
      have r1 := same_new (o := .tup [w1, w2]) h1
      have r2 := same_new (o := .tup [.str "row", .ref t1]) g1
      have r3 := same_new (o := .tup [.int (-1), .int 2]) h2
      have r4 := same_new (o := .tup [.str "fraction", .ref t2]) g2
      have r5 := same_new (o := .tup [.int 0, .int 1]) h3
      have r6 := same_new (o := .tup [.str "fraction", .ref t3]) g3
      have r7 := same_new (o := .tup [.str "fraction", .int 1]) g4
      have r8 := same_new (o := .lst [.ref b1, .ref b2, .ref b3, .ref b4]) hl2
      have c7 := r7.trans r8
      have c6 := r6.trans c7
      have c5 := r5.trans c6
      have c4 := r4.trans c5
      have c3 := r3.trans c4
      have c2 := r2.trans c3
      have c1 := r1.trans c2
      have dq : Dp K (upd H2 t1 (.tup [w1, w2])) (.ref t1) (dP [(1, 1), (0, 1)]) := .tup (SqT.of upd_same) (.cons (f1.mono r1).dp (.cons (f2.mono r1).dp .nil))
      refine ⟨.list [dW "row" (dP [(1, 1), (0, 1)]), dW "fraction" (dF (-1, 2)), dW "fraction" (dF (0, 1)), dW "fraction" (.int 1)], .list [dW "row" (dP [(1, 1), (0, 1)]), dW "fraction" (dF (-1, 2)), dW "fraction" (dF (0, 1)), dW "fraction" (.int 1)], dps c1 B.dp,
        .lst (SqL.of upd_same) (.cons (dps c3 (dp_word upd_same (dps r2 dq))) (.cons (dps c5 (dp_word upd_same (dps r4 dp_lit))) (.cons (dps c7 (dp_word upd_same (dps r6 dp_lit))) (.cons (dps r8 (dp_word upd_same (.int 1))) .nil)))), by decide +kernel, by decide +kernel, false, by decide +kernel, ?_⟩
      exact ⟨R.ext (ExtN.trans B.ext (ExtN.same c1)) (Tabs.same B.T c1), rfl⟩
    clear R z0
    rintro σ H1 ⟨R, rfl⟩
    have z0 : ExtN H1 H1 := ExtN.refl H1
    -- none, none
    refine ⟨fun σ H2 => ∃ (l : Addr) (ys : List V), LB K Ts H1 H2 l ys [dW "fraction" .none] ∧ σ = [some (.ref ga), some (.ref ra), v2, some (.ref l), some (.ref L)], ?_, ?_⟩
    · refine ⟨R.T, fun Ha xa Ta => ⟨_, rfl, _, rfl, _, _, _, _, dP rwQ, dP rwQ, .none, .none, rfl, ExtN.t2 xa R.dr, ExtN.t2 xa R.dr, .non, .non, fal rowT, (fun _ => fal rr), (fun _ _ _ Hb sb => out_of Hk .f (fun p71 H71 s71 q71 => ?_)), (fun _ _ z => nope (by decide +kernel) z), (fun _ _ z => nope (by decide +kernel) z), fun _ _ _ _ _ _ _ _ _ _ z => nope (by decide +kernel) z⟩⟩
      have y71 : ExtN H1 H71 := ExtN.trans xa (ExtN.same (sb.trans s71))
      have e71 : Dp K H71 (.ref p71) (dW "fraction" .none) := dp_word q71 .non
      refine ⟨one1, fun l' hl => ?_⟩
      exact ⟨l', _, LB.new y71 (Tabs.same Ta (sb.trans s71)) hl (.cons e71 .nil), rfl⟩
    rintro σ H2 ⟨l, ys, B, rfl⟩
    have ln : ys.length = _ := dpAll_len (B.dl _ (KL.of (ExtN.refl _)))
    refine ⟨fun σ H3 => ∃ (l : Addr) (ys : List V), LB K Ts H1 H3 l ys [dW "fraction" .none, dW "fraction" .none] ∧ σ = [some (.ref ga), some (.ref ra), v2, some (.ref l), some (.ref L)], ?_, ?_⟩
    · skip
      refine ⟨_, rfl, Or.inl ⟨rfl, _, SqL.of B.at_⟩, B.T, fun Ha72 xa72 Ta72 => ?_⟩
      refine ⟨_, rfl, _, rfl, ?_⟩
      refine ⟨_, _, _, _, dP rwQ, dP rwQ, .none, .none, rfl, (ExtN.t2 (ExtN.trans B.ext xa72) R.dr), (ExtN.t2 (ExtN.trans B.ext xa72) R.dr), .non, .non, fal rowT, (fun _ => fal rr), (fun _ _ _ Hb72 sb72 => out_of Hk .f (fun p72 H72 s72 q72 => ?_)), (fun _ _ z => nope (by decide +kernel) z), (fun _ _ z => nope (by decide +kernel) z), fun _ _ _ _ _ _ _ _ _ _ z => nope (by decide +kernel) z⟩
      have y72 := ExtN.trans xa72 (ExtN.same (sb72.trans s72))
      have T72 := Tabs.same Ta72 (sb72.trans s72)
      refine ⟨l, ys, _, rfl, rfl, ExtN.l y72 B.at_, (by rw [ln]; decide), ?_⟩
      exact ⟨l, _, B.app y72 T72 q72 (fun H' kk => .non), rfl⟩
    rintro σ H2 ⟨l, ys, B, rfl⟩
    have ln : ys.length = _ := dpAll_len (B.dl _ (KL.of (ExtN.refl _)))
    refine ⟨fun σ H3 => ∃ (l : Addr) (ys : List V), LB K Ts H1 H3 l ys [dW "fraction" .none, dW "fraction" .none, dW "fraction" (dF (-1, 2))] ∧ σ = [some (.ref ga), some (.ref ra), v2, some (.ref l), some (.ref L)], ?_, ?_⟩
    · skip
      refine ⟨_, rfl, Or.inl ⟨rfl, _, SqL.of B.at_⟩, B.T, fun Ha73 xa73 Ta73 => ?_⟩
      refine ⟨_, rfl, _, rfl, two, fun ta73 hta73 => ⟨_, rfl, two, fun tb73 htb73 => ?_⟩⟩
      have sta73 := same_new (o := .tup [.int (1), .int 1]) hta73
      have stb73 := same_new (o := .tup [.int (-1), .int 2]) htb73
      have sall73 := (sta73.trans stb73)
      refine ⟨_, _, _, _, dP rwQ, dP rwQ, dF (1, 1), dF (-1, 2), rfl, (dps sall73 (ExtN.t2 (ExtN.trans B.ext xa73) R.dr)), (dps sall73 (ExtN.t2 (ExtN.trans B.ext xa73) R.dr)), (dps stb73 dp_lit), dp_lit, fal rowT, (fun _ => fal rr), (fun _ _ => fal (by decide +kernel)), (fun _ _ _ _ Hb73 sb73 => out_of Hk .f (fun p73 H73 s73 q73 => ?_)), (fun _ _ _ z => nope (by decide +kernel) z), fun _ _ _ _ _ _ _ _ _ _ _ z => nope (by decide +kernel) z⟩
      have y73 := ExtN.trans xa73 (ExtN.same (sall73.trans (sb73.trans s73)))
      have T73 := Tabs.same Ta73 (sall73.trans (sb73.trans s73))
      refine ⟨l, ys, _, rfl, rfl, ExtN.l y73 B.at_, (by rw [ln]; decide), ?_⟩
      have hq73 : H73 tb73 = some (.tup [.int (-1), .int 2]) := (sb73.trans s73) _ _ upd_same
      exact ⟨l, _, B.app y73 T73 q73 (fun H' kk => .tup (SqT.of (KL.tp kk (ExtN.l y73 B.at_) hq73)) (.cons (.int _) (.cons (.int _) .nil))), rfl⟩
    rintro σ H2 ⟨l, ys, B, rfl⟩
    refine ⟨fun σ H3 => RI K Ts H H3 ga ra ∧ σ = [some (.ref ga), some (.ref ra), v2, some (.ref l), some (.ref L)], ?_, ?_⟩
    · refine ⟨_, rfl, two, fun a1 h1 => ⟨one1, fun b1 g1 => ⟨b1, 2, _, rfl, rfl, upd_same, by decide, by decide, two, fun c1 k1 => ⟨_, rfl, two, fun t1 i1 => ⟨two, fun a2 h2 => ⟨one1, fun b2 g2 => ?_⟩⟩⟩⟩⟩⟩
      have r1 := same_new (o := .tup [.str "fraction", .non]) h1
      have r2 := same_new (o := .lst [.ref a1]) g1
      have r3 := same_new (o := .lst [.ref a1, .ref a1]) k1
      have r4 := same_new (o := .tup [.int (-1), .int 2]) i1
      have r5 := same_new (o := .tup [.str "fraction", .ref t1]) h2
      have r6 := same_new (o := .lst [.ref a2]) g2
      refine ⟨c1, b2, [.ref a1, .ref a1], [.ref a2], rfl, rfl, (r4.trans (r5.trans r6)) _ _ upd_same, upd_same, three, fun c3 k3 => ?_⟩
      have r7 := same_new (o := .lst [.ref a1, .ref a1, .ref a2]) k3
      have c6 := r6.trans r7
      have c4 := r4.trans (r5.trans c6)
      have c2 := r2.trans (r3.trans c4)
      have c1' := r1.trans c2
      have f1 : Dp K _ (.ref a1) (dW "fraction" .none) := dps c2 (dp_word upd_same .non)
      have f2 : Dp K _ (.ref a2) (dW "fraction" (dF (-1, 2))) := dps c6 (dp_word upd_same (dps r5 dp_lit))
      refine ⟨.list [dW "fraction" .none, dW "fraction" .none, dW "fraction" (dF (-1, 2))], .list [dW "fraction" .none, dW "fraction" .none, dW "fraction" (dF (-1, 2))], dps c1' B.dp, .lst (SqL.of upd_same) (.cons f1 (.cons f1 (.cons f2 .nil))), by decide +kernel, by decide +kernel, false, by decide +kernel, ?_⟩
      exact ⟨R.ext (ExtN.trans B.ext (ExtN.same c1')) (Tabs.same B.T c1'), rfl⟩
    clear R z0
    rintro σ H1 ⟨R, rfl⟩
    -- the mix that is the row
    refine ⟨_, rfl, _, rfl, two, fun t1 h1 => ⟨two, fun t2 h2 => ?_⟩⟩
    have s1 := same_new (o := .tup [.int 0, .int 1]) h1
    have s2 := same_new (o := .tup [.int 1, .int 1]) h2
    have dr := dps (s1.trans s2) R.dr
    refine ⟨_, _, _, _, dP rwQ, dP rwQ, dF (0, 1), dF (1, 1), rfl, dr, dr, dps s2 dp_lit, dp_lit, fal rowT, (fun _ => fal rr), (fun _ _ => fal (by decide +kernel)), (fun _ _ _ => fal (by decide +kernel)), (fun _ _ _ _ z => nope (by decide +kernel) z), mix_fin rfl rfl rfl rfl ?_⟩
    have d1 : ∀ q ∈ rwQ, Db 512 130 q := by
      intro q hq
      simp only [rwQ, List.mem_cons, List.not_mem_nil, or_false] at hq
      rcases hq with rfl | rfl | rfl
      · exact ⟨⟨by decide, by decide⟩, by decide, by decide⟩
      · exact ⟨⟨by decide, by decide⟩, by decide, by decide⟩
      · exact ⟨⟨by decide, by decide⟩, by decide, by decide⟩
    refine ⟨⟨⟨by decide, by decide⟩, by decide, by decide⟩, ⟨⟨by decide, by decide⟩, by decide, by decide⟩, d1, d1, fun H3 b s3 po => ?_⟩
    rw [show mixs (0, 1) (1, 1) rwQ rwQ = rwQ from by decide +kernel] at po
    have s13 := (s1.trans s2).trans s3
    refine ⟨_, rfl, dP rwQ, dP rwQ, po.dp, dps s13 R.dr, by decide +kernel, by decide +kernel, ?_⟩
    rw [show PyData.eqv (dP rwQ) (dP rwQ) = true from by decide +kernel]
    exact k _ (ExtN.trans R.x (ExtN.same s13)) (Tabs.same R.T s13)
end
end Rs


set_option Elab.async false
set_option linter.all false
set_option maxRecDepth 100000
set_option maxHeartbeats 1000000
namespace Rs
open PySem L2 Bs Fq LamX LmD RZ
abbrev NL : List Str := ["script", "share_so", "six", "seven", "state", "turn", "k"]
/-- law(script) -/
def spLaw (K : PySem.W.Frag) (Ts : List (Addr × Str)) : Sp := fun vs H Q _ => ∃ (a : Addr) (ns : List Int), vs = [.ref a] ∧ SqL K H a (ns.map V.int) ∧ ns.length ≤ 63 ∧ Tabs Ts H ∧ ∀ H', Q (.bl true) H'
theorem scLaw : FnScope NL ["script"] (defScope sLaw) := ⟨rfl, rfl, rfl, by decide +kernel, rfl, by decide +kernel, by decide +kernel⟩
theorem nownL : ∀ i : Nat, NL[i]? ≠ some "own"
  | 0 => by decide
  | 1 => by decide
  | 2 => by decide
  | 3 => by decide
  | 4 => by decide
  | 5 => by decide
  | 6 => by decide
  | i + 7 => by simp
/-! ### ground facts -/
def dbB (D : Int) (n : Nat) (q : F) : Bool := decide (0 < q.2) && decide (Nat.gcd q.1.natAbs q.2.natAbs = 1) && decide (D % q.2 = 0) && decide (q.1.natAbs < 2 ^ n)
theorem db_of {D : Int} {n : Nat} {q : F} (h : dbB D n q = true) : Db D n q := by
  simp only [dbB, Bool.and_eq_true, decide_eq_true_eq] at h
  exact ⟨⟨h.1.1.1, h.1.1.2⟩, Int.dvd_of_emod_eq_zero h.1.2, h.2⟩
theorem db_all {D : Int} {n : Nat} {qs : List F} (h : qs.all (dbB D n) = true) : ∀ q ∈ qs, Db D n q := fun q hq => db_of (List.all_eq_true.mp h q hq)
def spB (p : Pr) : Bool := dbB 2 3 p.1 && dbB 2 4 p.2 && decide (0 < p.2.1)
theorem sp_all {ps : List Pr} (h : ps.all spB = true) : ∀ p ∈ ps, Sp2 p := fun p hp => by
  have := List.all_eq_true.mp h p hp
  simp only [spB, Bool.and_eq_true, decide_eq_true_eq] at this
  have a := db_of this.1.1
  have b := db_of this.1.2
  exact ⟨a.ok, a.b, a.a, b.ok, b.b, b.a, this.2⟩
def shL : List Pr := [((-1, 2), (2, 1)), ((1, 1), (1, 1))]
def sixP : List Pr := (List.range 6).map fun (k : Nat) => ((((k : Nat) : Int), (1 : Int)), ((1 : Int), (1 : Int)))
def sevP : List Pr := sixP ++ [((6, 1), (1, 1))]
/-- what stays throughout the law -/
structure LI (K : PySem.W.Frag) (Ts : List (Addr × Str)) (a : Addr) (ns : List Int) (H : Hp) : Prop where
  sq : SqL K H a (ns.map V.int)
  T : Tabs Ts H
theorem LI.ext {K : PySem.W.Frag} {Ts : List (Addr × Str)} {a : Addr} {ns : List Int} {H H' : Hp} (L : LI K Ts a ns H) (x : ExtN H H') (T : Tabs Ts H') : LI K Ts a ns H' := ⟨sqL_ext x L.sq, T⟩
theorem LI.same {K : PySem.W.Frag} {Ts : List (Addr × Str)} {a : Addr} {ns : List Int} {H H' : Hp} (L : LI K Ts a ns H) (e : Same H H') : LI K Ts a ns H' := L.ext (ExtN.same e) (Tabs.same L.T e)
section
variable {P : Program} {w : World} {K : PySem.W.Frag} {mg : Str → Option Value} {base : Heap} {f c1 P1 g : Addr} {C : Cls} {fd : FuncData} {Ts : List (Addr × Str)}
theorem ok_law (F : FunC K "law" "law" sLaw f fd c1) (T : Blt mg) (Hk : HeardK K mg g C)
    (Tk : ∀ A outer s H E, TabOk (cxOf CX0 P w K mg base NL "law" (defScope sLaw) f (.ref c1) A outer s H E).nox Ts c1 P1)
    (MO : CalX P w K mg base 7 "moments" (spMoments K C.S C.N)) (NS : CalX P w K mg base 6 "need_share" (spNeedSh K C.S)) (SB : CalX P w K mg base 6 "sum_by" (spSumBy K C.R C.P)) (MX : CalX P w K mg base 6 "mixed" (spMixed2 K C.R C.F))
    (RF : CalG P w K mg base 10 "_law_refused_good" (spRefused Ts)) (BG : Cal P w K mg base 2 "_law_begin" (spBegin K)) (GD : CalG P w K mg base 8 "_law_good" spGood) :
    FnG P w K mg base 11 f fd ["script"] (spLaw K Ts) := by
  refine FnG.okC F scLaw (fun vs H Q E h => ?_) (fun A outer s H vs Q E hgd hr h => ?_)
  · obtain ⟨a, ns, rfl, _⟩ := h
    rfl
  · obtain ⟨a, ns, rfl, sq, ln, TT, k⟩ := h
    refine ⟨_, (C8.pss_cut (ps_set (i := 1) scLaw.nd rfl (Or.inl rfl) (pe_tup (pa_cons (pe_tup (pa_cons (pe_tup (pa_cons (pe_un un_neg pe_int) (pa_cons pe_int pa_nil))) (pa_cons (pe_tup (pa_cons pe_int (pa_cons pe_int pa_nil))) pa_nil))) (pa_cons (pe_tup (pa_cons (pe_tup (pa_cons pe_int (pa_cons pe_int pa_nil))) (pa_cons (pe_tup (pa_cons pe_int (pa_cons pe_int pa_nil))) pa_nil))) pa_nil))))
      (C8.pss_cut (ps_if (pt_cmpR (op_neD hr.units) (pe_x MO hr (by decide) (by rfl) passL (pa_cons (pv 1) (pa_cons pe_int pa_nil))) (pe_tup (pa_cons (pe_tup (pa_cons pe_int (pa_cons pe_int pa_nil))) (pa_cons (pe_tup (pa_cons pe_int (pa_cons pe_int pa_nil))) (pa_cons (pe_tup (pa_cons pe_int (pa_cons pe_int pa_nil))) (pa_cons (pe_tup (pa_cons pe_int (pa_cons pe_int pa_nil))) pa_nil))))) (nomark _)) (pss_one (ps_ret pe_bl)) pss_nil)
      (C8.pss_cut (ps_if (pt_cmpR (op_neD hr.units) (pe_x MO hr (by decide) (by rfl) passL (pa_cons (pe_tup (pa_cons (pe_tup (pa_cons (pe_tup (pa_cons pe_int (pa_cons pe_int pa_nil))) (pa_cons (pe_tup (pa_cons pe_int (pa_cons pe_int pa_nil))) pa_nil))) pa_nil)) (pa_cons pe_int pa_nil))) (pe_tup (pa_cons (pe_tup (pa_cons pe_int (pa_cons pe_int pa_nil))) (pa_cons (pe_tup (pa_cons pe_int (pa_cons pe_int pa_nil))) (pa_cons (pe_tup (pa_cons pe_int (pa_cons pe_int pa_nil))) pa_nil)))) (nomark _)) (pss_one (ps_ret pe_bl)) pss_nil)
      (C8.pss_cut (ps_if (PW.pt (pw_or (pt_cmpR (op_neD hr.units) (pe_x SB hr (by decide) (by rfl) passL (pa_cons (pe_tup (pa_cons (pe_tup (pa_cons pe_int (pa_cons pe_int pa_nil))) (pa_cons (pe_tup (pa_cons pe_int (pa_cons pe_int pa_nil))) (pa_cons (pe_tup (pa_cons pe_int (pa_cons pe_int pa_nil))) pa_nil)))) (pa_cons (pe_tup (pa_cons (pe_tup (pa_cons pe_int (pa_cons pe_int pa_nil))) (pa_cons (pe_tup (pa_cons pe_int (pa_cons pe_int pa_nil))) (pa_cons (pe_tup (pa_cons pe_int (pa_cons pe_int pa_nil))) pa_nil)))) pa_nil))) (pe_tup (pa_cons pe_int (pa_cons pe_int pa_nil))) (nomark _)) (pw_or1 (pt_cmpR (op_neD hr.units) (pe_x SB hr (by decide) (by rfl) passL (pa_cons (pe_tup (pa_cons (pe_tup (pa_cons pe_int (pa_cons pe_int pa_nil))) pa_nil)) (pa_cons (pe_tup pa_nil) pa_nil))) (pe_tup (pa_cons pe_int (pa_cons pe_int pa_nil))) (nomark _))))) (pss_one (ps_ret pe_bl)) pss_nil)
      (C8.pss_cut (ps_if (PW.pt (pw_or (pt_cmpR (op_neD hr.units) (pe_x MX hr (by decide) (by rfl) passL (pa_cons (pe_tup (pa_cons (pe_tup (pa_cons pe_int (pa_cons pe_int pa_nil))) (pa_cons (pe_tup (pa_cons pe_int (pa_cons pe_int pa_nil))) pa_nil))) (pa_cons (pe_tup (pa_cons (pe_tup (pa_cons pe_int (pa_cons pe_int pa_nil))) (pa_cons (pe_tup (pa_cons pe_int (pa_cons pe_int pa_nil))) pa_nil))) (pa_cons (pe_tup (pa_cons pe_int (pa_cons pe_int pa_nil))) (pa_cons (pe_tup (pa_cons pe_int (pa_cons pe_int pa_nil))) pa_nil))))) (pe_tup (pa_cons (pe_tup (pa_cons pe_int (pa_cons pe_int pa_nil))) (pa_cons (pe_tup (pa_cons pe_int (pa_cons pe_int pa_nil))) pa_nil))) (nomark _)) (pw_or1 (pt_not (pt_val (pe_g0 RF hgd hr (by decide) (by rfl))))))) (pss_one (ps_ret pe_bl)) pss_nil)
      (C8.pss_cut (ps_set (i := 2) scLaw.nd rfl (Or.inl rfl) (pe_callTy call_tuple_of (by rfl) T.tuple (by decide +kernel) (pa_cons (pe_lc (own := [("k", 6)]) (g := gName 6) (tt := tYes) rfl scLaw.nd (pi_range1 rfl T.range (pa_cons pe_int pa_nil)) (blkOk_by (N := NL) (sc := defScope sLaw) (by decide +kernel)) (fun _ _ _ _ _ => pg_name (i := 6) scLaw.nd rfl (Or.inl rfl)) (fun _ _ _ _ _ => pts_nil) (fun _ _ _ _ _ => (pe_tup (pa_cons (pe_tup (pa_cons (pv 6) (pa_cons pe_int pa_nil))) (pa_cons (pe_tup (pa_cons pe_int (pa_cons pe_int pa_nil))) pa_nil))))) pa_nil)))
      (C8.pss_cut (ps_set (i := 3) scLaw.nd rfl (Or.inr rfl) (pe_op op_catA (pv 2) (pe_tup (pa_cons (pe_tup (pa_cons (pe_tup (pa_cons pe_int (pa_cons pe_int pa_nil))) (pa_cons (pe_tup (pa_cons pe_int (pa_cons pe_int pa_nil))) pa_nil))) pa_nil))))
      (C8.pss_cut (ps_if (PW.pt (pw_or (pt_cmpR (op_neD hr.units) (pe_x NS hr (by decide) (by rfl) passL (pa_cons (pv 2) pa_nil)) (pv 2) (nomark _)) (pw_or1 (pt_cmpR (op_neD hr.units) (pe_hd (k := 8) (t := (fun E => tCall (spNeedSh K C.S) [] E (tCons (tVar 3) tNil))) Hk (Tk A outer s H E) hr (by rfl) (lamS_by (sc := defScope sLaw) (by decide +kernel)) (fun A' outer' s' H' E' f' c' hr' => pe_x NS hr' (by decide) (by rfl) (passes_call (takes_of rfl rfl rfl rfl) (fun _ _ _ _ h => h)) (pa_cons (pv 3) pa_nil))) (pe_tup (pa_cons pe_str (pa_cons (pv 3) pa_nil))) (nomark _))))) (pss_one (ps_ret pe_bl)) pss_nil)
      (C8.pss_cut (ps_set (i := 4) scLaw.nd rfl (Or.inl rfl) (pe_n BG hr (by decide) (by rfl) (pa_cons (pv 0) pa_nil)))
      (C8.pss_cut (ps_for PassesOwn.never rfl (pi_range1 rfl T.range (pa_cons (pe_op op_add pe_int (pe_callB (call_min2 rfl) (by rfl) T.min (by decide +kernel) (pa_cons (pe_callB call_len_seq (by rfl) T.len (by decide +kernel) (pa_cons (pv 0) pa_nil)) (pa_cons pe_int pa_nil)))) pa_nil)) (pg_name (i := 5) scLaw.nd rfl (Or.inl rfl)) (pss_one (ps_if (pt_not (pt_val (pe_g GD hgd hr (by decide) (by rfl) (pa_cons (pv 4) pa_nil)))) (pss_one (ps_ret pe_bl)) pss_nil)))
      (pss_one (ps_ret pe_bl)))))))))))), ?_⟩
    have two : (2 : Nat) ≤ sizeLine := by decide
    have one1 : (1 : Nat) ≤ sizeLine := by decide
    have zero : (0 : Nat) ≤ sizeLine := by decide
    have three : (3 : Nat) ≤ sizeLine := by decide
    have four : (4 : Nat) ≤ sizeLine := by decide
    -- share_so
    refine ⟨fun σ H1 => ∃ sh : Addr, LI K Ts a ns H1 ∧ Dp K H1 (.ref sh) (dSh shL) ∧ σ = [some (.ref a), some (.ref sh), none, none, none, none, none], ?_, ?_⟩
    · refine ⟨_, rfl, two, fun t1 h1 => ⟨two, fun t2 h2 => ⟨two, fun t3 h3 => ⟨two, fun t4 h4 => ⟨two, fun t5 h5 => ⟨two, fun t6 h6 => ⟨two, fun t7 h7 => ?_⟩⟩⟩⟩⟩⟩⟩
      have u0 := same_new (o := .tup [.int (-1), .int 2]) h1
      have u1 := same_new (o := .tup [.int 2, .int 1]) h2
      have u2 := same_new (o := .tup [.ref t1, .ref t2]) h3
      have u3 := same_new (o := .tup [.int 1, .int 1]) h4
      have u4 := same_new (o := .tup [.int 1, .int 1]) h5
      have u5 := same_new (o := .tup [.ref t4, .ref t5]) h6
      have u6 := same_new (o := .tup [.ref t3, .ref t6]) h7
      have m6 := u6
      have m5 := u5.trans m6
      have m4 := u4.trans m5
      have m3 := u3.trans m4
      have m2 := u2.trans m3
      have m1 := u1.trans m2
      have m0 := u0.trans m1
      have z : Dp K _ (.ref t7) (dSh shL) := .tup (SqT.of upd_same) (.cons (dps (u3.trans (u4.trans (u5.trans u6))) (.tup (SqT.of upd_same) (.cons (dps (u1.trans u2) dp_lit) (.cons (dps u2 dp_lit) .nil)))) (.cons (dps u6 (.tup (SqT.of upd_same) (.cons (dps (u4.trans u5) dp_lit) (.cons (dps u5 dp_lit) .nil)))) .nil))
      exact ⟨t7, ⟨sqL_same m0 sq, Tabs.same TT m0⟩, z, rfl⟩
    rintro σ H1 ⟨sh, L1, dsh, rfl⟩
    -- moments
    refine ⟨fun σ H2 => LI K Ts a ns H2 ∧ σ = [some (.ref a), some (.ref sh), none, none, none, none, none], ?_, ?_⟩
    · refine ⟨_, rfl, _, _, dSh shL, .int 3, rfl, dsh, .int 3, (by decide +kernel), fal (by decide +kernel), (fun _ => nobet8 (by decide) (by decide)), mom_fin ?_⟩
      refine ⟨sp_all (by decide +kernel), fun Ha b sa po => ?_⟩
      rw [show moms shL (3 : Int).toNat = [(3, 1), (0, 1), (3, 2), (3, 4)] from by decide +kernel] at po
      refine ⟨two, fun r0 hr0 => ⟨two, fun r1 hr1 => ⟨two, fun r2 hr2 => ⟨two, fun r3 hr3 => ⟨four, fun r hr => ?_⟩⟩⟩⟩⟩
      have v0 := same_new (o := .tup [.int 3, .int 1]) hr0
      have v1 := same_new (o := .tup [.int 0, .int 1]) hr1
      have v2 := same_new (o := .tup [.int 3, .int 2]) hr2
      have v3 := same_new (o := .tup [.int 3, .int 4]) hr3
      have v4 := same_new (o := .tup [.ref r0, .ref r1, .ref r2, .ref r3]) hr
      have n4 := v4
      have n3 := v3.trans n4
      have n2 := v2.trans n3
      have n1 := v1.trans n2
      have n0 := v0.trans n1
      refine ⟨dP [(3, 1), (0, 1), (3, 2), (3, 4)], dP [(3, 1), (0, 1), (3, 2), (3, 4)], (po.mono n0).dp, .tup (SqT.of upd_same) (.cons (dps v4 (dps (v1.trans (v2.trans v3)) dp_lit)) (.cons (dps v4 (dps (v2.trans v3) dp_lit)) (.cons (dps v4 (dps v3 dp_lit)) (.cons (dps v4 dp_lit) .nil)))), by decide +kernel, by decide +kernel, false, by decide +kernel, ?_⟩
      exact ⟨L1.same (sa.trans n0), rfl⟩
    clear dsh
    rintro σ H2 ⟨L2_, rfl⟩
    refine ⟨fun σ H3 => LI K Ts a ns H3 ∧ σ = [some (.ref a), some (.ref sh), none, none, none, none, none], ?_, ?_⟩
    · refine ⟨two, fun t1 h1 => ⟨two, fun t2 h2 => ⟨two, fun t3 h3 => ⟨one1, fun t4 h4 => ?_⟩⟩⟩⟩
      have u0 := same_new (o := .tup [.int 0, .int 1]) h1
      have u1 := same_new (o := .tup [.int 5, .int 1]) h2
      have u2 := same_new (o := .tup [.ref t1, .ref t2]) h3
      have u3 := same_new (o := .tup [.ref t3]) h4
      have m3 := u3
      have m2 := u2.trans m3
      have m1 := u1.trans m2
      have m0 := u0.trans m1
      have z : Dp K _ (.ref t4) (dSh [((0, 1), (5, 1))]) := .tup (SqT.of upd_same) (.cons (dps u3 (.tup (SqT.of upd_same) (.cons (dps (u1.trans u2) dp_lit) (.cons (dps u2 dp_lit) .nil)))) .nil)
      refine ⟨_, _, dSh [((0, 1), (5, 1))], .int 2, rfl, z, .int 2, (by decide +kernel), fal (by decide +kernel), (fun _ => nobet8 (by decide) (by decide)), mom_fin ?_⟩
      refine ⟨sp_all (by decide +kernel), fun Ha b sa po => ?_⟩
      rw [show moms [((0, 1), (5, 1))] (2 : Int).toNat = [(5, 1), (0, 1), (0, 1)] from by decide +kernel] at po
      refine ⟨two, fun r0 hr0 => ⟨two, fun r1 hr1 => ⟨two, fun r2 hr2 => ⟨three, fun r hr => ?_⟩⟩⟩⟩
      have v0 := same_new (o := .tup [.int 5, .int 1]) hr0
      have v1 := same_new (o := .tup [.int 0, .int 1]) hr1
      have v2 := same_new (o := .tup [.int 0, .int 1]) hr2
      have v3 := same_new (o := .tup [.ref r0, .ref r1, .ref r2]) hr
      have n3 := v3
      have n2 := v2.trans n3
      have n1 := v1.trans n2
      have n0 := v0.trans n1
      refine ⟨dP [(5, 1), (0, 1), (0, 1)], dP [(5, 1), (0, 1), (0, 1)], (po.mono n0).dp, .tup (SqT.of upd_same) (.cons (dps v3 (dps (v1.trans v2) dp_lit)) (.cons (dps v3 (dps v2 dp_lit)) (.cons (dps v3 dp_lit) .nil))), by decide +kernel, by decide +kernel, false, by decide +kernel, ?_⟩
      exact ⟨L2_.same (m0.trans (sa.trans n0)), rfl⟩
    clear L2_
    rintro σ H3 ⟨L3, rfl⟩
    -- sums
    refine ⟨fun σ H4 => LI K Ts a ns H4 ∧ σ = [some (.ref a), some (.ref sh), none, none, none, none, none], ?_, ?_⟩
    · skip
      refine ⟨two, fun x0 hx0 => ⟨two, fun x1 hx1 => ⟨two, fun x2 hx2 => ⟨three, fun x hx => ⟨two, fun z0 hz0 => ⟨two, fun z1 hz1 => ⟨two, fun z2 hz2 => ⟨three, fun z hz => ?_⟩⟩⟩⟩⟩⟩⟩⟩
      have u0 := same_new (o := .tup [.int 3, .int 1]) hx0
      have u1 := same_new (o := .tup [.int 0, .int 1]) hx1
      have u2 := same_new (o := .tup [.int 3, .int 2]) hx2
      have u3 := same_new (o := .tup [.ref x0, .ref x1, .ref x2]) hx
      have m3 := u3
      have m2 := u2.trans m3
      have m1 := u1.trans m2
      have m0 := u0.trans m1
      have v0 := same_new (o := .tup [.int 1, .int 1]) hz0
      have v1 := same_new (o := .tup [.int 7, .int 1]) hz1
      have v2 := same_new (o := .tup [.int 2, .int 1]) hz2
      have v3 := same_new (o := .tup [.ref z0, .ref z1, .ref z2]) hz
      have n3 := v3
      have n2 := v2.trans n3
      have n1 := v1.trans n2
      have n0 := v0.trans n1
      have zx : Dp K _ (.ref x) (dP [(3, 1), (0, 1), (3, 2)]) := dps n0 (.tup (SqT.of upd_same) (.cons (dps u3 (dps (u1.trans u2) dp_lit)) (.cons (dps u3 (dps u2 dp_lit)) (.cons (dps u3 dp_lit) .nil))))
      have zz : Dp K _ (.ref z) (dP [(1, 1), (7, 1), (2, 1)]) := .tup (SqT.of upd_same) (.cons (dps v3 (dps (v1.trans v2) dp_lit)) (.cons (dps v3 (dps v2 dp_lit)) (.cons (dps v3 dp_lit) .nil)))
      refine ⟨_, _, dP [(3, 1), (0, 1), (3, 2)], dP [(1, 1), (7, 1), (2, 1)], rfl, zx, zz, fal (by decide +kernel), (fun _ => fal (by decide +kernel)), sum_fin ?_⟩
      refine ⟨db_all (by decide +kernel), db_all (by decide +kernel), fun Ha u sa fu => ?_⟩
      rw [show sumBy [(1, 1), (7, 1), (2, 1)] [(3, 1), (0, 1), (3, 2)] = (6, 1) from by decide +kernel] at fu
      refine ⟨two, fun r1 g1 => ?_⟩
      have w1 := same_new (o := .tup [.int 6, .int 1]) g1
      refine ⟨dF (6, 1), dF (6, 1), (fu.mono w1).dp, dp_lit, by decide +kernel, by decide +kernel, false, by decide +kernel, ?_⟩
      have L4 := L3.same (m0.trans (n0.trans (sa.trans w1)))
      clear zx zz fu
      refine ⟨two, fun t1 h1 => ⟨one1, fun t2 h2 => ⟨zero, fun t3 h3 => ?_⟩⟩⟩
      have p0 := same_new (o := .tup [.int 4, .int 1]) h1
      have p1 := same_new (o := .tup [.ref t1]) h2
      have p2 := same_new (o := .tup []) h3
      have q2 := p2
      have q1 := p1.trans q2
      have q0 := p0.trans q1
      have z2 : Dp K _ (.ref t2) (dP [(4, 1)]) := dps p2 (.tup (SqT.of upd_same) (.cons (dps p1 dp_lit) .nil))
      refine ⟨_, _, dP [(4, 1)], dP [], rfl, z2, dp_emp, fal (by decide +kernel), (fun _ => fal (by decide +kernel)), sum_fin ?_⟩
      refine ⟨db_all (by decide +kernel), db_all (by decide +kernel), fun Hb u2 sb fu2 => ?_⟩
      rw [show sumBy [] [(4, 1)] = (0, 1) from by decide +kernel] at fu2
      refine ⟨two, fun r2 g2 => ?_⟩
      have w2 := same_new (o := .tup [.int 0, .int 1]) g2
      refine ⟨dF (0, 1), dF (0, 1), (fu2.mono w2).dp, dp_lit, by decide +kernel, by decide +kernel, false, by decide +kernel, ?_⟩
      exact ⟨L4.same (q0.trans (sb.trans w2)), rfl⟩
    clear L3
    rintro σ H4 ⟨L4, rfl⟩
    -- a mix, what is refused
    refine ⟨fun σ H5 => LI K Ts a ns H5 ∧ σ = [some (.ref a), some (.ref sh), none, none, none, none, none], ?_, ?_⟩
    · skip
      refine ⟨two, fun x0 hx0 => ⟨two, fun x1 hx1 => ⟨two, fun x hx => ⟨two, fun z0 hz0 => ⟨two, fun z1 hz1 => ⟨two, fun z hz => ⟨two, fun y1 hy1 => ⟨two, fun y2 hy2 => ?_⟩⟩⟩⟩⟩⟩⟩⟩
      have u0 := same_new (o := .tup [.int 1, .int 1]) hx0
      have u1 := same_new (o := .tup [.int 2, .int 1]) hx1
      have u2 := same_new (o := .tup [.ref x0, .ref x1]) hx
      have m2 := u2
      have m1 := u1.trans m2
      have m0 := u0.trans m1
      have v0 := same_new (o := .tup [.int 3, .int 1]) hz0
      have v1 := same_new (o := .tup [.int 0, .int 1]) hz1
      have v2 := same_new (o := .tup [.ref z0, .ref z1]) hz
      have n2 := v2
      have n1 := v1.trans n2
      have n0 := v0.trans n1
      have p0 := same_new (o := .tup [.int 0, .int 1]) hy1
      have p1 := same_new (o := .tup [.int 1, .int 2]) hy2
      have q1 := p1
      have q0 := p0.trans q1
      have zx : Dp K _ (.ref x) (dP [(1, 1), (2, 1)]) := dps (n0.trans q0) (.tup (SqT.of upd_same) (.cons (dps u2 (dps u1 dp_lit)) (.cons (dps u2 dp_lit) .nil)))
      have zz : Dp K _ (.ref z) (dP [(3, 1), (0, 1)]) := dps q0 (.tup (SqT.of upd_same) (.cons (dps v2 (dps v1 dp_lit)) (.cons (dps v2 dp_lit) .nil)))
      refine ⟨_, _, _, _, dP [(1, 1), (2, 1)], dP [(3, 1), (0, 1)], dF (0, 1), dF (1, 2), rfl, zx, zz, dps p1 dp_lit, dp_lit, fal (by decide +kernel), (fun _ => fal (by decide +kernel)), (fun _ _ => fal (by decide +kernel)), (fun _ _ _ => fal (by decide +kernel)), (fun _ _ _ _ z => nope (by decide +kernel) z), mix_fin rfl rfl rfl rfl ?_⟩
      refine ⟨db_of (by decide +kernel), db_of (by decide +kernel), db_all (by decide +kernel), db_all (by decide +kernel), fun Ha b sa po => ?_⟩
      rw [show mixs (0, 1) (1, 2) [(1, 1), (2, 1)] [(3, 1), (0, 1)] = [(3, 2), (0, 1)] from by decide +kernel] at po
      have L5 := L4.same (m0.trans (n0.trans (q0.trans sa)))
      clear zx zz u0 u1 u2 m0 m1 m2 v0 v1 v2 n0 n1 n2
      refine ⟨two, fun r0 hr0 => ⟨two, fun r1 hr1 => ⟨two, fun r hr => ?_⟩⟩⟩
      have v0 := same_new (o := .tup [.int 3, .int 2]) hr0
      have v1 := same_new (o := .tup [.int 0, .int 1]) hr1
      have v2 := same_new (o := .tup [.ref r0, .ref r1]) hr
      have n2 := v2
      have n1 := v1.trans n2
      have n0 := v0.trans n1
      refine ⟨dP [(3, 2), (0, 1)], dP [(3, 2), (0, 1)], (po.mono n0).dp, .tup (SqT.of upd_same) (.cons (dps v2 (dps v1 dp_lit)) (.cons (dps v2 dp_lit) .nil)), by decide +kernel, by decide +kernel, false, by decide +kernel, ?_⟩
      have L6 := L5.same n0
      exact ⟨rfl, L6.T, fun H9 x9 T9 => ⟨true, rfl, L6.ext x9 T9, rfl⟩⟩
    clear L4
    rintro σ H5 ⟨L5, rfl⟩
    -- six
    refine ⟨fun σ H6 => ∃ s6 : Addr, LI K Ts a ns H6 ∧ PrAll' K H6 (.ref s6) sixP ∧ σ = [some (.ref a), some (.ref sh), some (.ref s6), none, none, none, none], ?_, ?_⟩
    · refine ⟨6, rfl, by decide, by decide, fun D hD => ?_⟩
      refine lc_range (n := 6) (fun i H2 => ∃ acc, H2 D = some (.lst acc) ∧ PrAll K H2 acc ((List.range i).map fun (k : Nat) => ((((k : Nat) : Int), (1 : Int)), ((1 : Int), (1 : Int)))) ∧ Same H5 H2) ⟨[], upd_same, .nil, same_new hD⟩ ?_ ?_
      · rintro i H2 hi ⟨acc, hD2, fa, s2⟩
        have la : acc.length = i := by rw [fa.len, List.length_map, List.length_range]
        refine ⟨rfl, ?_⟩
        refine iteT (B := ∃ acc, H2 D = some (.lst acc) ∧ PrAll K H2 acc ((List.range (i + 1)).map fun (k : Nat) => ((((k : Nat) : Int), (1 : Int)), ((1 : Int), (1 : Int)))) ∧ Same H5 H2) ?_
        refine ⟨_, rfl, two, fun t1 h1 => ⟨two, fun t2 h2 => ⟨two, fun t3 h3 => ?_⟩⟩⟩
        have u0 := same_new (o := .tup [.int (0 + (i : Int)), .int 1]) h1
        have u1 := same_new (o := .tup [.int 1, .int 1]) h2
        have u2 := same_new (o := .tup [.ref t1, .ref t2]) h3
        have m0 := u0.trans (u1.trans u2)
        have pv3 : PrV K _ (.ref t3) ((((i : Nat) : Int), (1 : Int)), ((1 : Int), (1 : Int))) := ⟨t3, .ref t1, .ref t2, rfl, SqT.of upd_same, ⟨t1, rfl, SqT.of ((u1.trans u2) _ _ (by rw [upd_same, Int.zero_add]))⟩, ⟨t2, rfl, SqT.of (u2 _ _ upd_same)⟩⟩
        refine ⟨acc, m0 _ _ hD2, small1000 (by omega), acc ++ [.ref t3], upd_same, ?_, fun c o e => (upd_ne (ne_of_none e hD)).trans (m0 c o (s2 c o e))⟩
        rw [List.range_succ, List.map_append]
        exact (PrAll.off (m0 _ _ hD2) (fa.mono m0)).snoc (pv3.off (m0 _ _ hD2))
      · rintro H2 ⟨acc, hD2, fa, s2⟩
        refine ⟨D, acc, rfl, Or.inl ⟨SqL.of hD2, fun p hp => ?_⟩⟩
        have s3 := same_new (o := .tup acc) hp
        exact ⟨p, L5.same (s2.trans s3), ⟨p, acc, rfl, SqT.of upd_same, fa.mono s3⟩, rfl⟩
    clear L5
    rintro σ H6 ⟨s6, L6, p6, rfl⟩
    -- seven
    refine ⟨fun σ H7 => ∃ s7 : Addr, LI K Ts a ns H7 ∧ PrAll' K H7 (.ref s6) sixP ∧ PrAll' K H7 (.ref s7) sevP ∧ σ = [some (.ref a), some (.ref sh), some (.ref s6), some (.ref s7), none, none, none], ?_, ?_⟩
    · obtain ⟨b6, xs6, e6, sq6, all6⟩ := id p6
      cases e6
      refine ⟨_, rfl, two, fun t1 h1 => ⟨two, fun t2 h2 => ⟨two, fun t3 h3 => ⟨one1, fun t4 h4 => ?_⟩⟩⟩⟩
      have u0 := same_new (o := .tup [.int 6, .int 1]) h1
      have u1 := same_new (o := .tup [.int 1, .int 1]) h2
      have u2 := same_new (o := .tup [.ref t1, .ref t2]) h3
      have u3 := same_new (o := .tup [.ref t3]) h4
      have m3 := u3
      have m2 := u2.trans m3
      have m1 := u1.trans m2
      have m0 := u0.trans m1
      have l6 : xs6.length = 6 := all6.len
      have pv3 : PrV K _ (.ref t3) ((6, 1), (1, 1)) := ⟨t3, .ref t1, .ref t2, rfl, SqT.of (u3 _ _ upd_same), ⟨t1, rfl, SqT.of (m1 _ _ upd_same)⟩, ⟨t2, rfl, SqT.of (m2 _ _ upd_same)⟩⟩
      refine cat_any (xs := xs6) (ys := [.ref t3]) (Bs.Same.t m0 sq6) (SqT.of upd_same) (by rw [l6]; show 7 ≤ sizeLine; decide) (fun c H7 s7 sq7 => ?_)
      have app : ∀ {H : Hp} {vs ws : List V} {qs rs : List Pr}, PrAll K H vs qs → PrAll K H ws rs → PrAll K H (vs ++ ws) (qs ++ rs) := by
        intro H vs ws qs rs h1 h2
        induction h1 with
        | nil => exact h2
        | cons a b ih => exact .cons a ih
      exact ⟨c, (L6.same m0).same s7, (p6.mono m0).mono s7, ⟨c, _, rfl, sq7, app ((all6.mono m0).mono s7) (.cons (pv3.mono s7) .nil)⟩, rfl⟩
    clear L6 p6
    rintro σ H7 ⟨s7, L7, p6, p7, rfl⟩
    -- six is a share, seven none
    refine ⟨fun σ H8 => LI K Ts a ns H8 ∧ σ = [some (.ref a), some (.ref sh), some (.ref s6), some (.ref s7), none, none, none], ?_, ?_⟩
    · refine ⟨_, rfl, _, dSh sixP, rfl, p6.shr, (by decide +kernel), (fun _ Ha sa => ?_), fal (by decide +kernel)⟩
      have d6 := (p6.mono sa).shr
      refine ⟨_, rfl, dSh sixP, dSh sixP, d6, d6, by decide +kernel, by decide +kernel, false, by decide +kernel, ?_⟩
      have La := L7.same sa
      refine ⟨La.T, fun Hb xb Tb => ⟨_, rfl, _, dSh sevP, rfl, ExtN.t2 xb (p7.mono sa).shr, (by decide +kernel), (fun z => nope (by decide +kernel) z), (fun _ Hc sc => out_of Hk .s (fun p1 H9 s9 q9 => ?_))⟩⟩
      have s19 := sc.trans s9
      have d7 : Dp K H9 (.ref s7) (dSh sevP) := dps s19 (ExtN.t2 xb (p7.mono sa).shr)
      have e9 : Dp K H9 (.ref p1) (dW "share" (dSh sevP)) := dp_word q9 d7
      refine ⟨_, rfl, two, fun p2 h2 => ?_⟩
      have s2 := same_new (o := .tup [.str "share", .ref s7]) h2
      refine ⟨dW "share" (dSh sevP), dW "share" (dSh sevP), dps s2 e9, dp_word upd_same (dps s2 d7), by decide +kernel, by decide +kernel, false, by decide +kernel, ?_⟩
      exact ⟨(La.ext xb Tb).same (s19.trans s2), rfl⟩
    clear L7 p6 p7
    rintro σ H8 ⟨L8, rfl⟩
    -- state
    refine ⟨fun σ H9 => ∃ (p c l : Addr) (n : Nat), Sta H9 p c l n 0 ∧ SqL K H9 a (ns.map V.int) ∧ σ = [some (.ref a), some (.ref sh), some (.ref s6), some (.ref s7), some (.ref p), none, none], ?_, ?_⟩
    · exact ⟨_, rfl, a, ns, rfl, L8.sq, ln, fun H9 p c l n s9 _ _ S => ⟨p, c, l, n, S, sqL_same s9 L8.sq, rfl⟩⟩
    rintro σ H9 ⟨p, c, l, n, S, sq9, rfl⟩
    -- the turns
    refine ⟨fun σ H1 => True, ?_, fun σ H1 _ => k H1⟩
    have hm : ∀ m : Nat, 0 ≤ (2 : Int) + (if (3 : Int) < (m : Int) then 3 else (m : Int)) ∧ (2 : Int) + (if (3 : Int) < (m : Int) then 3 else (m : Int)) ≤ 5 := by
      intro m
      split <;> omega
    have hm2 := hm (ns.map V.int).length
    refine ⟨_, rfl, a, _, rfl, Or.inl sq9, _, _, rfl, _, _, rfl, rfl, _, rfl, ?_⟩
    generalize (2 : Int) + (if (3 : Int) < ((ns.map V.int).length : Int) then 3 else ((ns.map V.int).length : Int)) = m at hm2 ⊢
    refine ⟨by omega, by omega, for_range (n := m.toNat) (fun i σ H1 => ∃ (v : Option V) (t : Int), Sta H1 p c l n t ∧ t ≤ 70 * i ∧ σ = [some (.ref a), some (.ref sh), some (.ref s6), some (.ref s7), some (.ref p), v, none]) ⟨none, 0, S, by omega, rfl⟩ ?_ (fun _ _ _ => trivial)⟩
    rintro i σ Hi hi ⟨v, t, Si, ti, rfl⟩
    exact ⟨_, rfl, p, c, l, n, t, rfl, Si, by omega, fun Hj t' _ tb Sj _ => ⟨true, rfl, _, t', Sj, by omega, rfl⟩⟩
end
end Rs


set_option Elab.async false
set_option linter.all false
set_option maxRecDepth 100000
set_option maxHeartbeats 400000
namespace Rs
open PySem PySem.Spec PyProof.Rows L2 Bs Fq LamX RZ
abbrev sIR : Stmt := inClass (top 15) 0
abbrev sIS : Stmt := inClass (top 16) 0
section
variable {P : Program} {w : World} {K : PySem.W.Frag} {mg : Str → Option Value} {base : Heap} {f : Addr} {fd : FuncData}
theorem scIR : FnScope ["self", "given"] ["self", "given"] (defScope sIR) := ⟨rfl, rfl, rfl, by decide +kernel, rfl, by decide +kernel, by decide +kernel⟩
theorem scIS : FnScope ["self", "given"] ["self", "given"] (defScope sIS) := ⟨rfl, rfl, rfl, by decide +kernel, rfl, by decide +kernel, by decide +kernel⟩
theorem ok_iR {C : Addr} {q : Str} (F : Fun K "__init__" q sIR f fd) (T : OexC K C) (no : PySem.W.findIn K (.ref C) "given" = some none) : FnOk P w K mg base CX0 1 f fd ["self", "given"] (spInitW K C "given") := by
  refine F.ok scIR (fun vs H Q E h => ?_) (fun cdv A outer s H vs Q E hr h => ?_)
  · obtain ⟨a, y, rfl, _⟩ := h
    rfl
  · obtain ⟨a, y, rfl, ha, k⟩ := h
    exact ⟨_, pss_one (ps_ost (pv 0) (pv 1)), _, rfl, _, rfl, a, C, rfl, T, no, .inl ⟨ha, fun dx n1 n2 => k dx n1 n2⟩⟩
theorem ok_iS {C : Addr} {q : Str} (F : Fun K "__init__" q sIS f fd) (T : OexC K C) (no : PySem.W.findIn K (.ref C) "given" = some none) : FnOk P w K mg base CX0 1 f fd ["self", "given"] (spInitW K C "given") := by
  refine F.ok scIS (fun vs H Q E h => ?_) (fun cdv A outer s H vs Q E hr h => ?_)
  · obtain ⟨a, y, rfl, _⟩ := h
    rfl
  · obtain ⟨a, y, rfl, ha, k⟩ := h
    exact ⟨_, pss_one (ps_ost (pv 0) (pv 1)), _, rfl, _, rfl, a, C, rfl, T, no, .inl ⟨ha, fun dx n1 n2 => k dx n1 n2⟩⟩
theorem ErrW.okR {x q : Str} {C : Addr} (T : ErrW K mg x q "given" sIR C) : ErrOkW P w K mg base x "given" C := by
  obtain ⟨fI, fd, a, b, F, bi⟩ := T.ini
  exact ⟨T.gC, T.oex, fI, fd, a, b, ok_iR F T.oex T.no, bi⟩
theorem ErrW.okS {x q : Str} {C : Addr} (T : ErrW K mg x q "given" sIS C) : ErrOkW P w K mg base x "given" C := by
  obtain ⟨fI, fd, a, b, F, bi⟩ := T.ini
  exact ⟨T.gC, T.oex, fI, fd, a, b, ok_iS F T.oex T.no, bi⟩
/-- row_sum, with its default -/
structure DefRS (K : PySem.W.Frag) (mg : Str → Option Value) : Prop where
  ex : ∃ (f : Addr) (fd : FuncData), FunD K "row_sum" "row_sum" (defArgs sRowSum) (defBody sRowSum) (defScope sRowSum) [.int 0] [] f fd ∧ mg "row_sum" = some (.ref f)
theorem DefRS.cal (D : DefRS K mg) (PS_ : Cal P w K mg base 3 "paired_sum" (spPaired K)) : C8.Cal P w K mg base 4 "row_sum" (spRowSum K) [.int 0] := by
  obtain ⟨f, fd, F, m⟩ := D.ex
  obtain ⟨ds, v, b⟩ := F.binds1 (ps := ["row", "poly", "shift"]) 2 0 (by simp) rfl (fun T kV doc pm an cdv ct us its h1 h2 => match us, its, h1, h2 with | [_, _], [_], _, _ => ⟨_, rfl, rfl⟩)
  exact ⟨f, fd, _, ds, ok_rowsum F PS_, m, F.kp, b, v⟩
end
end Rs


set_option Elab.async false
set_option linter.all false
set_option maxRecDepth 100000
set_option maxHeartbeats 1000000
/-! the end of a law with tables of lambdas, for a promise that wants no guards -/
namespace Rs
open PySem PySem.Spec PyProof.Rows L2 Bs LamX
/-- what is tracked at the law's call: the empty tables; the script, if t -/
def hof (ts : List Addr) (a : Addr) (t : Bool) (u : HO) : Hp := fun b => if b ∈ ts then some (.tbl #[]) else if b = a ∧ t = true then some u else none
section
variable {ts : List Addr} {a b : Addr} {t : Bool} {u x : HO}
theorem hof_some (h : hof ts a t u b = some x) : (b ∈ ts ∧ x = .tbl #[]) ∨ (b = a ∧ t = true ∧ x = u) := by
  unfold hof at h
  split at h
  · rename_i m
    cases h
    exact .inl ⟨m, rfl⟩
  · split at h
    · rename_i z
      cases h
      exact .inr ⟨z.1, z.2, rfl⟩
    · cases h
theorem hof_tab (m : b ∈ ts) : hof ts a t u b = some (.tbl #[]) := if_pos m
theorem hof_at (n : a ∉ ts) (e : t = true) : hof ts a t u a = some u := (if_neg n).trans (if_pos ⟨rfl, e⟩)
end
section
variable {P : Program} {w : World} {K : PySem.W.Frag} {mg mb : Str → Option Value} {k : Nat} {fa a : Addr} {cs : List (Addr × Addr)} {fd : FuncData} {x : Str} {sp : Sp} {s0 : Shared} {vs : List Value} {ns : List Int}
theorem callG (inK : K.In s0.heap) (gM : s0.heap.Ns mainGlobals mg) (gB : s0.heap.Ns builtinsNs mb) (gV : ∀ y : Str, y ≠ "__name__" → mb y = bootBuiltins y) (gL : s0.heap.NoLimit) (gG : s0.gens = #[])
    (tE : ∀ q ∈ cs, s0.heap.get? q.2 = some (PySem.W.tabObj #[])) (tK : ∀ q ∈ cs, K.lookup q.2 = none) (tH : ∀ q ∈ cs, PySem.W.codeHdIn K q.1 q.2 = true)
    (gb : ∃ (m : Addr) (o : Obj), mg "__builtins__" = some (.ref m) ∧ m ≠ builtinsNs ∧ s0.heap.get? m = some o ∧ o.cls = .type "module" ∧ o.dict = some builtinsNs ∧ o.data = .plain)
    (sc : s0.heap.get? a = some { cls := .type "list", data := .seq vs.toArray }) (si : IntsAre vs ns) (sl : ns.length ≤ sizeLine) (room : Room k callerA)
    (prom : ∀ base : Heap, K.In base → base.Ns mainGlobals mg → (∀ q ∈ cs, TabB base mg q.1 q.2) → FnG P w K mg base k fa fd [x] sp) (bnd : ∀ (s : Shared) (u : Value), BindsTo s fd ⟨[u], []⟩ [(x, u)])
    (wish : ∀ H : Hp, (∀ q ∈ cs, H q.2 = some (.tbl #[])) → SqL K H a (ns.map V.int) → sp [.ref a] H (fun v _ => v = .bl true) fun _ _ _ => False) :
    codeAny (model P w) callerA (.call (.ref fa) ⟨[.ref a], []⟩) (fun r s' => r = .ok (.ret (.bool true)) ∧ OldK s0.heap s'.heap ∧ s'.os = s0.os ∧ AllBare s'.gens) s0 := by
  have rv := vals_ints si
  have lv := si.length
  generalize hts : cs.map (·.2) = ts
  have inT : ∀ b ∈ ts, ∃ c, (c, b) ∈ cs := fun b hb => by
    rw [← hts] at hb
    obtain ⟨⟨c, b'⟩, h1, h2⟩ := List.mem_map.mp hb
    cases h2
    exact ⟨c, h1⟩
  have toT : ∀ q ∈ cs, q.2 ∈ ts := fun q hq => by
    rw [← hts]
    exact List.mem_map.mpr ⟨q, hq, rfl⟩
  have tab : ∀ b ∈ ts, s0.heap.get? b = some (PySem.W.tabObj #[]) := fun b hb => by
    obtain ⟨c, m⟩ := inT b hb
    exact tE _ m
  have aT : a ∉ ts := fun z => by
    have e := (tab a z).symm.trans sc
    cases e
  -- the script's own record
  generalize hso : ({ cls := .type "list", data := .seq vs.toArray } : Obj) = so at sc
  generalize hH : hof ts a (K.lookup a).isNone (.frz so (.lst (ns.map V.int))) = H
  have why : ∀ {b : Addr} {u : HO}, H b = some u → (b ∈ ts ∧ u = .tbl #[]) ∨ (b = a ∧ K.lookup a = none ∧ u = .frz so (.lst (ns.map V.int))) := fun {b u} e => by
    rw [← hH] at e
    rcases hof_some e with z | ⟨z1, z2, z3⟩
    · exact .inl z
    · exact .inr ⟨z1, Option.isNone_iff_eq_none.mp z2, z3⟩
  have hT : ∀ q ∈ cs, H q.2 = some (.tbl #[]) := fun q hq => by
    rw [← hH]
    exact hof_tab (toT q hq)
  have hS : SqL K H a (ns.map V.int) := by
    cases e : K.lookup a with
    | none =>
      refine .inl (.inr ⟨so, ?_⟩)
      rw [← hH]
      exact hof_at aT (by rw [e]; rfl)
    | some o =>
      have e2 := inK a o e
      rw [sc] at e2
      cases e2
      subst hso
      exact .inr ⟨_, vs.toArray, _, e, rfl, rfl, rfl, by rw [List.size_toArray, lv]; exact sl, by simpa using rv⟩
  have ok0 : HOk P w H s0.heap := fun b u e => by
    rcases why e with ⟨z, rfl⟩ | ⟨rfl, _, rfl⟩
    · exact tab b z
    · refine ⟨sc, ?_⟩
      subst hso
      exact ⟨by rw [List.length_map]; exact sl, vs, _, rv, sc⟩
  -- what is neither a list nor an empty table isn't tracked
  have off : ∀ {b : Addr} {o : Obj}, s0.heap.get? b = some o → (∀ (z : Array Value) (m : Nat), o.data ≠ .seq z m) → o.data ≠ .fields #[] → H b = none := fun {b o} e n1 n2 => by
    cases q : H b with
    | none => rfl
    | some u =>
      rcases why q with ⟨z, _⟩ | ⟨z, _, _⟩
      · rw [tab b z] at e
        cases e
        exact absurd rfl n2
      · rw [z, sc] at e
        cases e
        subst hso
        exact absurd rfl (n1 _ _)
  have low : ∀ {b : Addr} {o : Obj}, s0.heap.get? b = some o → H b = none → (hidT s0.heap H).get? b = some o := fun e n => hidT_get e n
  have offD : ∀ {b : Addr} {m : Str → Option Value}, s0.heap.Ns b m → (hidT s0.heap H).Ns b m := by
    rintro b m ⟨o, es, ep, e, d, r⟩
    exact ⟨o, es, ep, low e (off e (fun z m' q => by rw [d] at q; cases q) fun q => by rw [d] at q; cases q), d, r⟩
  have offK : K.In (hidT s0.heap H) := fun b o e => low (inK b o e) (by
    cases q : H b with
    | none => rfl
    | some u =>
      rcases why q with ⟨z, _⟩ | ⟨z, n, _⟩
      · obtain ⟨c, m⟩ := inT b z
        exact absurd (e.symm.trans (tK _ m)) (by simp)
      · rw [z, n] at e
        cases e)
  have M : L2.Mod K mg (hidT s0.heap H) := by
    obtain ⟨mc, c1, c2⟩ := gL
    exact ⟨offK, offD gM, ⟨mb, offD gB, gV⟩, mc, offD c1, c2⟩
  have TB : ∀ q ∈ cs, TabB (hidT s0.heap H) mg q.1 q.2 := fun q hq => by
    obtain ⟨m, o, m1, m2, m3, m4, m5, m6⟩ := gb
    have pl : ∀ {d : Data}, d = o.data → d = .plain := fun z => z.trans m6
    refine NdefX.tabB_of_K offK (tH q hq) ⟨m, o, m1, m2, fun z => ?_, fun z => ?_, low m3 (off m3 (fun z m' e => by rw [m6] at e; cases e) fun e => by rw [m6] at e; cases e), m4, m5, m6⟩ fun z => ?_
    · obtain ⟨o2, es, ep, e, d, _⟩ := gM
      rw [← z, m3] at e
      cases e
      rw [m6] at d
      cases d
    · have e := tE q hq
      rw [← z, m3] at e
      cases e
      cases m6
    · obtain ⟨o2, es, ep, e, d, _⟩ := gM
      rw [z, tE q hq] at e
      cases e
      cases d
  have E : Env0 P w K mg (hidT s0.heap H) callerA [] s0 H :=
    { frames := rfl, mod := M, bs := fun b o e => of_hidT e, bsz := Nat.le_of_eq (hidT_size _ _), funs := trivial, frf := (fun b hb => nomatch hb), hok := ok0, bare := .of_eq gG }
  refine codeAny_mono ((prom _ offK (offD gM) TB).run callerA [] s0 H ⟨[.ref a], []⟩ [.ref a] [.ref a] _ _ rfl room E (bnd s0 (.ref a)) (.cons rfl .nil) (wish H hT hS)) fun r s' h => ?_
  rcases r with e | fl
  · exact (show False from h).elim
  · cases fl with
    | next => exact (show False from h).elim
    | brk => exact (show False from h).elim
    | cont => exact (show False from h).elim
    | ret u =>
      obtain ⟨v, H2, os, bare, un, ok2, r2, rfl⟩ := h
      obtain rfl : u = Value.bool true := r2
      have more : ∀ b ∈ ts, ∃ m : Array Value, s'.heap.get? b = some (PySem.W.tabObj m) := fun b hb => by
        obtain ⟨c, hm⟩ := inT b hb
        obtain ⟨m, z⟩ := un.tbls b #[] (hT _ hm)
        exact ⟨_, ok2 b _ z⟩
      have same : ∀ b o, b ∉ ts → s0.heap.get? b = some o → s'.heap.get? b = some o := fun b o nb e => by
        cases q : H b with
        | none => exact un.keep b o e q (fun z => nomatch z) fun z => nomatch z
        | some u =>
          rcases why q with ⟨z, _⟩ | ⟨_, _, rfl⟩
          · exact absurd z nb
          · have g1 := (ok0 b _ q).1
            have g2 := (ok2 b _ (un.frzs b _ _ q)).1
            rw [e] at g1
            cases g1
            exact g2
      refine ⟨rfl, ⟨fun b o e => ?_, fun b o e => ?_⟩, os, bare⟩
      · by_cases hb : b ∈ ts
        · obtain ⟨c, hm⟩ := inT b hb
          obtain ⟨m, g⟩ := more b hb
          rw [tab b hb] at e
          cases e
          exact .inr (.inl ⟨((PySem.W.codeHd_of_K inK (tH _ hm)).tab (tab b hb)).isCodeTable, rfl, #[], m, rfl, by rw [Array.empty_append]; exact g⟩)
        · exact .inl (same b o hb e)
      · by_cases hb : b ∈ ts
        · obtain ⟨m, g⟩ := more b hb
          exact ⟨_, g⟩
        · exact ⟨o, same b o hb e⟩
end
end Rs


set_option Elab.async false
set_option linter.all false
set_option maxRecDepth 100000
set_option maxHeartbeats 1000000
namespace Rs
open PySem PySem.Spec PyProof.Rows L2 Bs LamX
section
variable {K : PySem.W.Frag} {h : Heap} {mg : Str → Option Value} {f C c P : Addr} {x q qual : Str} {st : Stmt} {ps : List Str} {oc kV doc pm cdv ct : Value} {od an : Option Addr} {sl : Array (Option Value)}
theorem defN_mk (X : K.In h) (G : h.Ns mainGlobals mg) (a : PySem.W.nsIn K mainGlobals x = some (some (.ref f)))
    (l : K.lookup f = some ⟨oc, od, .func (PySem.W.fnOf x x (defArgs st) (defBody st) (defScope st) .none kV doc pm an cdv ct), sl⟩) (c : PySem.W.codeIn K cdv x = true) (k : PySem.W.keepIn K (.ref f) = true)
    (b : ∀ (kV doc pm : Value) (an : Option Addr) (cdv ct : Value) (us : List Value), us.length = ps.length → bindArgs (PySem.W.fnOf x x (defArgs st) (defBody st) (defScope st) .none kV doc pm an cdv ct) ⟨us, []⟩ = pure (ps.zip us)) : DefN K mg x st ps :=
  ⟨f, _, fun_mk l c k, PySem.W.mg_of X G a, (fun_mk l c k).binds b⟩
theorem defC_mk (X : K.In h) (G : h.Ns mainGlobals mg) (a : PySem.W.nsIn K mainGlobals x = some (some (.ref f)))
    (l : K.lookup f = some ⟨oc, od, .func (PySem.W.fnOf x x (defArgs st) (defBody st) (defScope st) .none kV doc pm an (.ref c) ct), sl⟩) (hc : PySem.W.codeIn K (.ref c) x = true) (k : PySem.W.keepIn K (.ref f) = true)
    (b : ∀ (kV doc pm : Value) (an : Option Addr) (cdv ct : Value) (us : List Value), us.length = ps.length → bindArgs (PySem.W.fnOf x x (defArgs st) (defBody st) (defScope st) .none kV doc pm an cdv ct) ⟨us, []⟩ = pure (ps.zip us)) : DefC K mg x st ps c :=
  ⟨f, _, ⟨oc, od, kV, doc, pm, an, ct, sl, rfl, l, hc⟩, PySem.W.mg_of X G a, k, (fun_mk l hc k).binds b⟩
/-- the table of a def's code, as K has it -/
theorem tab_mk {o1 : Value} {d1 : Option Addr} {vs : Array Value} {s1 : Array (Option Value)} (a : PySem.W.nsIn K mainGlobals x = some (some (.ref f)))
    (l : K.lookup f = some ⟨oc, od, .func (PySem.W.fnOf x x (defArgs st) (defBody st) (defScope st) .none kV doc pm an (.ref c) ct), sl⟩) (k : K.lookup c = some ⟨o1, d1, .fields vs, s1⟩) (v : (vs[11]? : Option Value) = some (.ref P)) : PySem.W.tabIn K x = some (c, P) := by
  unfold PySem.W.tabIn
  rw [a]
  simp only [l]
  show (match K.lookup c with
    | some ⟨_, _, .fields vs, _⟩ => (match (vs[11]? : Option Value) with
      | some (.ref P) => some (c, P)
      | _ => none)
    | _ => none) = _
  simp only [k, v]
end
section
variable {K : PySem.W.Frag} {mg : Str → Option Value} {g c2 c3 P2 P3 : Addr} {C : Cls}
structure Top0 (K : PySem.W.Frag) (mg : Str → Option Value) (C : Cls) (g c2 c3 : Addr) : Prop where
  red : DefN K mg "reduced" sReduced ["top", "bottom"]
  add : DefN K mg "added" sAdded ["one", "other"]
  tim : DefN K mg "timed" sTimed ["one", "other"]
  rai : DefN K mg "raised" sRaised ["one", "number"]
  bel : DefN K mg "is_below" sBelow ["one", "other"]
  pai : DefN K mg "paired_sum" sPaired ["some", "others"]
  who : DefN K mg "is_whole" sWhole ["thing"]
  bet : DefN K mg "is_between" sBetween ["thing", "low", "high"]
  fra : DefN K mg "is_fraction" sFraction ["thing"]
  pos : DefN K mg "is_positive" sPosi ["thing"]
  arf : DefN K mg "are_fractions" sAreF ["thing", "most"]
  neB : DefN K mg "need_between" sNeedB ["thing", "low", "high"]
  isp : DefN K mg "is_poly" sIsPoly ["thing"]
  isr : DefN K mg "is_row" sIsRow ["thing"]
  neR : DefN K mg "need_row" sNeedRow ["thing"]
  wei : DefN K mg "is_weighed" sWeigh ["thing"]
  iss : DefN K mg "is_share" sIsSh ["thing"]
  neS : DefN K mg "need_share" sNeedSh ["thing"]
  mof : DefN K mg "moment_of" sMomOf ["share", "number"]
  mom : DefN K mg "moments" sMoments ["share", "top"]
  sby : DefN K mg "sum_by" sSumBy ["row", "poly"]
  frn : DefN K mg "need_from_nought" sFromN ["thing"]
  mxd : DefN K mg "mixed" sMixedR ["row", "other", "near", "far"]
  mix : DefN K mg "_law_mixed" sMixed ["cell", "k"]
  beg : DefN K mg "_law_begin" sBegin ["script"]
  drw : DefN K mg "_law_draw" sDraw ["state", "many"]
  lra : DefN K mg "_law_ratio" sLRatio ["top", "bottom"]
  lpl : DefN K mg "_law_plus" sLPlus ["one", "other"]
  lti : DefN K mg "_law_times" sLTimes ["one", "other"]
  lun : DefN K mg "_law_under" sLUnder ["one", "other"]
  lsu : DefN K mg "_law_sum" sLSum ["some"]
  lsh : DefN K mg "_law_share" sLShare ["state", "few"]
  lpo : DefN K mg "_law_power" sLPower ["one", "many"]
  lmo : DefN K mg "_law_moments" sLMoms ["share_so", "top"]
  lsb : DefN K mg "_law_sum_by" sLSumBy ["row", "some"]
  sma : DefN K mg "_law_small" sSmall ["state"]
  ltr : DefN K mg "_law_trim" sLTrim ["some"]
  lpy : DefN K mg "_law_poly" sLPoly ["state", "many"]
  lro : DefN K mg "_law_row" sLRow ["state"]
  god : DefN K mg "_law_good" sGood ["state"]
  ref : DefC K mg "_law_refused_good" sRefused [] c2
  law : DefC K mg "law" sLaw ["script"] c3
  eF : Err K mg "BadFraction" "BadFraction.__init__" sInitF C.F
  eN : Err K mg "BadNumber" "BadNumber.__init__" sInitN C.N
  eP : ErrW K mg "BadPoly" "BadPoly.__init__" "given" sIP C.P
  eR : ErrW K mg "BadRow" "BadRow.__init__" "given" sIR C.R
  eS : ErrW K mg "BadShare" "BadShare.__init__" "given" sIS C.S
  hk : HeardK K mg g C
  z : Nou K mg
  t : Blt mg
  mo : MostOk mg
  ms : Mosts mg
  rs : DefRS K mg
  zp : mg "zip" = none
  al : mg "all" = none
abbrev lamQ (x : Str) : Str := (x ++ ".<locals>.") ++ "<lambda>"
def lamTs (P2 P3 : Addr) : List (Addr × Str) := [(P2, lamQ "_law_refused_good"), (P3, lamQ "law")]
theorem law_prom {P : Program} {w : World} (D : Top0 K mg C g c2 c3) (n23 : P2 ≠ P3) {fa : Addr} (hfa : mg "law" = some (.ref fa)) :
    ∃ fd : FuncData, (∀ (s : Shared) (u : Value), BindsTo s fd ⟨[u], []⟩ [("script", u)]) ∧
      ∀ base : Heap, (∀ r ∈ [(c2, P2), (c3, P3)], TabB base mg r.1 r.2) → FnG P w K mg base 11 fa fd ["script"] (spLaw K (lamTs P2 P3)) := by
  obtain ⟨f, fd, F, m, kp, bi⟩ := D.law.ex
  rw [hfa] at m
  cases m
  refine ⟨fd, ?_, fun base tb => ?_⟩
  · obtain ⟨oc, od, kV, doc, pm, an, ct, osl, rfl, _, _⟩ := F.ex
    exact fun s u => .of_eq rfl
  have t2 := tb (c2, P2) (by simp)
  have t3 := tb (c3, P3) (by simp)
  have one2 : ∀ p ∈ lamTs P2 P3, p.1 = P2 → p.2 = lamQ "_law_refused_good" := by
    intro p hp e
    simp only [lamTs, List.mem_cons, List.not_mem_nil, or_false] at hp
    rcases hp with rfl | rfl
    · rfl
    · exact absurd e.symm n23
  have in2 : (P2, lamQ "_law_refused_good") ∈ lamTs P2 P3 := .head _
  have one3 : ∀ p ∈ lamTs P2 P3, p.1 = P3 → p.2 = lamQ "law" := by
    intro p hp e
    simp only [lamTs, List.mem_cons, List.not_mem_nil, or_false] at hp
    rcases hp with rfl | rfl
    · exact absurd e n23
    · rfl
  have in3 : (P3, lamQ "law") ∈ lamTs P2 P3 := .tail _ (.head _)
  have T := D.t
  have eF : ErrOk P w K mg base "BadFraction" C.F := D.eF.okF
  have eN : ErrOk P w K mg base "BadNumber" C.N := D.eN.okN
  have eP : ErrOkW P w K mg base "BadPoly" "given" C.P := D.eP.okP
  have eR : ErrOkW P w K mg base "BadRow" "given" C.R := D.eR.okR
  have eS : ErrOkW P w K mg base "BadShare" "given" C.S := D.eS.okS
  have red := D.red.cal (P := P) (w := w) (base := base) fun f fd F => ok_reduced F T
  have add := D.add.cal (P := P) (w := w) (base := base) fun f fd F => ok_added F red
  have tim := D.tim.cal (P := P) (w := w) (base := base) fun f fd F => ok_timed F red
  have rai := D.rai.cal (P := P) (w := w) (base := base) fun f fd F => ok_raised F T
  have bel := D.bel.cal (P := P) (w := w) (base := base) fun f fd F => ok_below F
  have pai := D.pai.cal (P := P) (w := w) (base := base) fun f fd F => ok_paired F D.z D.zp add tim
  have rsu := D.rs.cal (P := P) (w := w) (base := base) pai
  have who := D.who.cal (P := P) (w := w) (base := base) fun f fd F => ok_whole F T
  have bet := D.bet.cal (P := P) (w := w) (base := base) fun f fd F => ok_between F who
  have fra := D.fra.cal (P := P) (w := w) (base := base) fun f fd F => ok_fraction F T who
  have pos := D.pos.cal (P := P) (w := w) (base := base) fun f fd F => ok_posi F fra
  have arf := D.arf.cal (P := P) (w := w) (base := base) fun f fd F => ok_areF F T D.al fra
  have neB := D.neB.calX (P := P) (w := w) (base := base) fun f fd F => ok_needB F eN bet
  have isp := D.isp.cal (P := P) (w := w) (base := base) fun f fd F => ok_isPoly F T D.z D.mo arf
  have isr := D.isr.cal (P := P) (w := w) (base := base) fun f fd F => ok_isRow F T D.ms arf
  have neR := D.neR.calX (P := P) (w := w) (base := base) fun f fd F => ok_needRow F eR isr
  have wei := D.wei.cal (P := P) (w := w) (base := base) fun f fd F => ok_weigh F T fra pos
  have iss := D.iss.cal (P := P) (w := w) (base := base) fun f fd F => ok_isSh F T D.ms D.al D.zp wei bel
  have neS := D.neS.calX (P := P) (w := w) (base := base) fun f fd F => ok_needSh F eS iss
  have mof := D.mof.cal (P := P) (w := w) (base := base) fun f fd F => ok_momOf F D.z add tim rai
  have mom := D.mom.calX (P := P) (w := w) (base := base) fun f fd F => ok_moments F T D.ms neS neB mof
  have sby := D.sby.calX (P := P) (w := w) (base := base) fun f fd F => ok_sumBy F T neR eP isp rsu
  have frn := D.frn.calX (P := P) (w := w) (base := base) fun f fd F => ok_fromN F eF fra
  have mxd := D.mxd.calX (P := P) (w := w) (base := base) fun f fd F => ok_mixedR F T D.z D.zp neR eR isr eF frn add tim
  have mix := D.mix.cal (P := P) (w := w) (base := base) fun f fd F => ok_mixed F T
  have beg := D.beg.cal (P := P) (w := w) (base := base) fun f fd F => ok_begin F T
  have drw := D.drw.cal (P := P) (w := w) (base := base) fun f fd F => ok_draw F T mix
  have lra := D.lra.cal (P := P) (w := w) (base := base) fun f fd F => ok_lratio F T
  have lpl := D.lpl.cal (P := P) (w := w) (base := base) fun f fd F => ok_lplus F lra
  have lti := D.lti.cal (P := P) (w := w) (base := base) fun f fd F => ok_ltimes F lra
  have lun := D.lun.cal (P := P) (w := w) (base := base) fun f fd F => ok_lunder F
  have lsu := D.lsu.cal (P := P) (w := w) (base := base) fun f fd F => ok_lsum F lpl
  have lsh := D.lsh.cal (P := P) (w := w) (base := base) fun f fd F => ok_lshare F T drw lra lun
  have lpo := D.lpo.cal (P := P) (w := w) (base := base) fun f fd F => ok_lpower F T lti
  have lmo := D.lmo.cal (P := P) (w := w) (base := base) fun f fd F => ok_lmoms F T lti lpo lsu
  have lsb := D.lsb.cal (P := P) (w := w) (base := base) fun f fd F => ok_lsumBy F D.zp lti lsu
  have sma := D.sma.cal (P := P) (w := w) (base := base) fun f fd F => ok_small F drw lra
  have ltr := D.ltr.cal (P := P) (w := w) (base := base) fun f fd F => ok_ltrim F T
  have lpy := D.lpy.cal (P := P) (w := w) (base := base) fun f fd F => ok_lpoly F T drw sma ltr
  have lro := D.lro.cal (P := P) (w := w) (base := base) fun f fd F => ok_lrow F T drw lra lpl lsh lmo
  have god := D.god.calG (P := P) (w := w) (base := base) fun f fd F => ok_good F T D.zp drw lra lpl lti lsh lro lmo lpy lsb mom neS sby neR mxd
  have ref := D.ref.calG (P := P) (w := w) (base := base) fun f fd F => ok_refused F T D.hk (fun A outer s H E => ⟨t2, rfl, in2, one2⟩) mom neS sby neR mxd
  exact ok_law F T D.hk (fun A outer s H E => ⟨t3, rfl, in3, one3⟩) mom neS sby mxd ref beg god
theorem walkG {l : PySem.W.OpenLaw} {q : Program} {loose : List Str} {XP : (Str → Option Value) → Heap → Prop} {YP : World → Heap → Prop} {d : DefRec} {KK : Params → PySem.W.Frag} (hn : l.most = some 63) (hd : d.params.defaults = [])
    (hY : ∀ (w : World) (h : Heap), YP w h → (KK w.params).In h)
    (F : ∀ (w : World) (mg : Str → Option Value) (fa : Addr) (h : Heap), (KK w.params).In h → h.Ns mainGlobals mg → mg d.name = some (.ref fa) →
      ∃ (C : Cls) (g c2 c3 P2 P3 : Addr) (e2 e3 : DefRec), Top0 (KK w.params) mg C g c2 c3 ∧ mg "law" = some (.ref fa) ∧ P2 ≠ P3 ∧
        (recsOf q).find? (fun e => e.name == ("_law_refused_good" : Str)) = some e2 ∧ (recsOf q).find? (fun e => e.name == ("law" : Str)) = some e3 ∧
        PySem.W.tabIn (KK w.params) "_law_refused_good" = some (c2, P2) ∧ PySem.W.tabIn (KK w.params) "law" = some (c3, P3) ∧
        (∀ r ∈ [(c2, P2), (c3, P3)], List.lookup r.2 (KK w.params) = none ∧ PySem.W.codeHdIn (KK w.params) r.1 r.2 = true)) :
    PySem.W.WalkO q loose XP YP l.row.toRowW d [] (fun f vs => PySem.call f vs) := by
  refine Att.attach_callB hn hd fun w s9 s0 mg mb fa o pm cd doc a vs ns GG Y h1 h2 h3 hm hs hi hl hb hg => ?_
  have inK := hY w _ Y
  obtain ⟨C, g, c2, c3, P2, P3, e2, e3, D, m, n23, r2, r3, b2, b3, no⟩ := F w mg fa _ inK GG.T.g hm
  obtain ⟨fd, bnd, pr⟩ := law_prom (P := l.prog) (w := w) D n23 m
  have z2 := (PySem.W.tab_of GG.T inK r2 b2).2
  have z3 := (PySem.W.tab_of GG.T inK r3 b3).2
  refine callG (cs := [(c2, P2), (c3, P3)]) inK GG.T.g GG.T.b GG.T.builtins GG.T.nolimit hg ?_ (fun r hr => (no r hr).1) (fun r hr => (no r hr).2) GG.T.bmain hs hi (Nat.le_trans hl (by decide)) ⟨rfl, by decide, by decide⟩ (fun base _ _ tb => pr base tb) bnd fun H ht hq => ?_
  · intro r hr
    simp only [List.mem_cons, List.not_mem_nil, or_false] at hr
    rcases hr with rfl | rfl
    · exact z2
    · exact z3
  · refine ⟨a, ns, rfl, hq, hl, ?_, fun _ => rfl⟩
    intro r hr
    simp only [lamTs, List.mem_cons, List.not_mem_nil, or_false] at hr
    rcases hr with rfl | rfl
    · exact TabS.nil (ht (c2, P2) (by simp))
    · exact TabS.nil (ht (c3, P3) (by simp))
end
end Rs


set_option Elab.async false
set_option linter.all false
set_option maxRecDepth 100000
set_option maxHeartbeats 1000000
namespace Rs
open PySem PySem.Spec PyProof.Rows L2 Bs LamX
section
variable {K : PySem.W.Frag} {h : Heap} {mg : Str → Option Value}
theorem nou_mk {a : Addr} {t1 t2 : Tok} {n : Nat} {sl : Array (Option Value)} (X : K.In h) (G : h.Ns mainGlobals mg) (e : PySem.W.nsIn K mainGlobals "NOUGHT" = some (some (.ref a)))
    (l : K.lookup a = some ⟨.type "tuple", none, .seq #[.int 0 t1, .int 1 t2] n, sl⟩) : Nou K mg :=
  ⟨a, PySem.W.mg_of X G e, fun H => .inr ⟨_, _, _, l, rfl, rfl, (by show 2 ≤ sizeLine; decide), .cons ⟨_, rfl⟩ (.cons ⟨_, rfl⟩ .nil)⟩⟩
theorem blt_mk (X : K.In h) (G : h.Ns mainGlobals mg) (h1 : PySem.W.nsIn K mainGlobals "isinstance" = some none) (h2 : PySem.W.nsIn K mainGlobals "len" = some none) (h3 : PySem.W.nsIn K mainGlobals "int" = some none)
    (h4 : PySem.W.nsIn K mainGlobals "bool" = some none) (h5 : PySem.W.nsIn K mainGlobals "tuple" = some none) (h6 : PySem.W.nsIn K mainGlobals "range" = some none) (h7 : PySem.W.nsIn K mainGlobals "list" = some none)
    (h8 : PySem.W.nsIn K mainGlobals "abs" = some none) (h9 : PySem.W.nsIn K mainGlobals "min" = some none) (h10 : PySem.W.nsIn K mainGlobals "repr" = some none) (h11 : PySem.W.nsIn K mainGlobals "gcd" = some (some (.builtin "math.gcd"))) : Blt mg :=
  ⟨PySem.W.mg_none_of X G h1, PySem.W.mg_none_of X G h2, PySem.W.mg_none_of X G h3, PySem.W.mg_none_of X G h4, PySem.W.mg_none_of X G h5, PySem.W.mg_none_of X G h6, PySem.W.mg_none_of X G h7, PySem.W.mg_none_of X G h8, PySem.W.mg_none_of X G h9, PySem.W.mg_none_of X G h10, PySem.W.mg_of X G h11⟩
/-- a class of errors with its __init__ -/
structure ErrTxt (K : PySem.W.Frag) (x qual fld : Str) (st : Stmt) (C : Addr) : Prop where
  a : PySem.W.nsIn K mainGlobals x = some (some (.ref C))
  oex : OexC K C
  xf : XfC K C
  no : PySem.W.findIn K (.ref C) fld = some none
  ini : ∃ (fI : Addr) (fd : FuncData), PySem.W.findIn K (.ref C) "__init__" = some (some (.ref fI)) ∧ PySem.W.typeIn K (.ref fI) = some (.type "function") ∧ Fun K "__init__" qual st fI fd ∧ Binds K fd ["self", fld] []
theorem err_mk {x qual fld : Str} {st : Stmt} {C fI N : Addr} {nm q : Str} {bs bm : List Value} {sn : List Str} {sub : List Value} {ab : Bool} {col : Option Bool} {dd : Option Addr} {k0 k1 k2 k3 k5 : Option Value}
    {oc kV doc pm cdv ct : Value} {od an : Option Addr} {sl : Array (Option Value)}
    (a : PySem.W.nsIn K mainGlobals x = some (some (.ref C))) (c : K.lookup C = some (excClassObj nm q C N bs bm true sn sub ab col dd k0 k1 k2 k3 k5 "ValueError.__new__")) (r : PySem.HandSPX.refsVE bm = true)
    (sa : PySem.W.findIn K (.ref C) "__setattr__" = some (some (.builtin "object.__setattr__"))) (ga : PySem.W.findIn K (.ref C) "__getattribute__" = some (some (.builtin "BaseException.__getattribute__")))
    (gg : PySem.W.findIn K (.ref C) "__getattr__" = some none) (no : PySem.W.findIn K (.ref C) fld = some none) (ex : PySem.W.subIn K (.ref C) (.type "BaseException") = some true) (ty : PySem.W.typeIn K (.ref C) = some (.type "type"))
    (kC : PySem.W.keepIn K (.ref C) = true) (hd : PySem.W.hasDictIn K C = true) (i : PySem.W.findIn K (.ref C) "__init__" = some (some (.ref fI))) (t : PySem.W.typeIn K (.ref fI) = some (.type "function"))
    (l : K.lookup fI = some ⟨oc, od, .func (PySem.W.fnOf "__init__" qual (defArgs st) (defBody st) (defScope st) .none kV doc pm an cdv ct), sl⟩) (hc : PySem.W.codeIn K cdv qual = true) (k : PySem.W.keepIn K (.ref fI) = true)
    (b : ∀ (kV doc pm : Value) (an : Option Addr) (cdv ct : Value) (us : List Value), us.length = (["self", fld] : List Str).length → bindArgs (PySem.W.fnOf "__init__" qual (defArgs st) (defBody st) (defScope st) .none kV doc pm an cdv ct) ⟨us, []⟩ = pure ((["self", fld] : List Str).zip us)) :
    ErrTxt K x qual fld st C :=
  ⟨a, ⟨⟨nm, q, N, bs, bm, sn, sub, ab, col, dd, k0, k1, k2, k3, k5, c, r⟩, sa, ex, ty, kC⟩, ⟨ga, gg, ex, hd⟩, no, fI, _, i, t, fun_mk l hc k, (fun_mk l hc k).binds b⟩
theorem ErrTxt.err {x qual : Str} {st : Stmt} {C : Addr} (E : ErrTxt K x qual "given" st C) (X : K.In h) (G : h.Ns mainGlobals mg) : Err K mg x qual st C := ⟨PySem.W.mg_of X G E.a, E.oex, E.xf, E.no, E.ini⟩
theorem ErrTxt.errW {x qual fld : Str} {st : Stmt} {C : Addr} (E : ErrTxt K x qual fld st C) (X : K.In h) (G : h.Ns mainGlobals mg) : ErrW K mg x qual fld st C := ⟨PySem.W.mg_of X G E.a, E.oex, E.xf, E.no, E.ini⟩
theorem heard_mk {g : Addr} {C : Cls} {oc kV doc pm cdv ct : Value} {od an : Option Addr} {sl : Array (Option Value)} (X : K.In h) (G : h.Ns mainGlobals mg) (eR : ErrTxt K "BadRow" "BadRow.__init__" "given" sIR C.R) (eS : ErrTxt K "BadShare" "BadShare.__init__" "given" sIS C.S) (eP : ErrTxt K "BadPoly" "BadPoly.__init__" "given" sIP C.P) (eN : ErrTxt K "BadNumber" "BadNumber.__init__" "given" sInitN C.N) (eF : ErrTxt K "BadFraction" "BadFraction.__init__" "given" sInitF C.F)
    (a : PySem.W.nsIn K mainGlobals "_law_heard" = some (some (.ref g))) (l : K.lookup g = some ⟨oc, od, .func (PySem.W.fnOf "_law_heard" "_law_heard" (defArgs sHeard) (defBody sHeard) (defScope sHeard) .none kV doc pm an cdv ct), sl⟩)
    (c : PySem.W.codeIn K cdv "_law_heard" = true) (k : PySem.W.keepIn K (.ref g) = true) (xRR : PySem.W.exmOne K (.ref C.R) (.ref C.R) = some true) (xSR : PySem.W.exmOne K (.ref C.S) (.ref C.R) = some false) (xSS : PySem.W.exmOne K (.ref C.S) (.ref C.S) = some true) (xPR : PySem.W.exmOne K (.ref C.P) (.ref C.R) = some false) (xPS : PySem.W.exmOne K (.ref C.P) (.ref C.S) = some false) (xPP : PySem.W.exmOne K (.ref C.P) (.ref C.P) = some true) (xNR : PySem.W.exmOne K (.ref C.N) (.ref C.R) = some false) (xNS : PySem.W.exmOne K (.ref C.N) (.ref C.S) = some false) (xNP : PySem.W.exmOne K (.ref C.N) (.ref C.P) = some false) (xNN : PySem.W.exmOne K (.ref C.N) (.ref C.N) = some true) (xFR : PySem.W.exmOne K (.ref C.F) (.ref C.R) = some false) (xFS : PySem.W.exmOne K (.ref C.F) (.ref C.S) = some false) (xFP : PySem.W.exmOne K (.ref C.F) (.ref C.P) = some false) (xFN : PySem.W.exmOne K (.ref C.F) (.ref C.N) = some false) (xFF : PySem.W.exmOne K (.ref C.F) (.ref C.F) = some true) : HeardK K mg g C :=
  ⟨PySem.W.mg_of X G a, k, ⟨oc, od, kV, doc, pm, an, cdv, ct, sl, l, c⟩, PySem.W.mg_of X G eR.a, PySem.W.mg_of X G eS.a, PySem.W.mg_of X G eP.a, PySem.W.mg_of X G eN.a, PySem.W.mg_of X G eF.a, eR.xf, eS.xf, eP.xf, eN.xf, eF.xf, eR.no, eS.no, eP.no, eN.no, eF.no, xRR, xSR, xSS, xPR, xPS, xPP, xNR, xNS, xNP, xNN, xFR, xFS, xFP, xFN, xFF⟩
theorem most_mk {t : Tok} (X : K.In h) (G : h.Ns mainGlobals mg) (e : PySem.W.nsIn K mainGlobals "MOST" = some (some (.int 12 t))) : MostOk mg := ⟨t, PySem.W.mg_of X G e⟩
theorem mosts_mk {t1 t2 : Tok} (X : K.In h) (G : h.Ns mainGlobals mg) (e1 : PySem.W.nsIn K mainGlobals "MOST_MOMENTS" = some (some (.int 9 t1))) (e2 : PySem.W.nsIn K mainGlobals "MOST_PAIRS" = some (some (.int 6 t2))) : Mosts mg := ⟨⟨t1, PySem.W.mg_of X G e1⟩, ⟨t2, PySem.W.mg_of X G e2⟩⟩
theorem rs_mk {f Td : Addr} {oc kV doc pm cdv ct tc : Value} {od an td : Option Addr} {sl sl2 : Array (Option Value)} {t : Tok} {n : Nat} (X : K.In h) (G : h.Ns mainGlobals mg) (a : PySem.W.nsIn K mainGlobals "row_sum" = some (some (.ref f))) (l : K.lookup f = some ⟨oc, od, .func (PySem.W.fnOf "row_sum" "row_sum" (defArgs sRowSum) (defBody sRowSum) (defScope sRowSum) (.ref Td) kV doc pm an cdv ct), sl⟩)
    (d : K.lookup Td = some ⟨tc, td, .seq #[.int 0 t] n, sl2⟩) (c : PySem.W.codeIn K cdv "row_sum" = true) (k : PySem.W.keepIn K (.ref f) = true) : DefRS K mg :=
  ⟨f, _, ⟨⟨oc, od, .ref Td, kV, doc, pm, an, cdv, ct, sl, rfl, l, c, .inr ⟨by simp, Td, _, [.int 0 t], n, rfl, d, rfl, .cons ⟨t, rfl⟩ .nil⟩, .inl rfl⟩, k⟩, PySem.W.mg_of X G a⟩
end
/-- all of it -/
theorem all_mk {q : Program} {K : PySem.W.Frag} {h : Heap} {mg : Str → Option Value} {fa c2 c3 P2 P3 : Addr} {CR CS CP CN CF : Addr}
    {f2 : Addr} {oc2 kV2 dc2 pm2 ct2 o2 : Value} {od2 an2 dd2 : Option Addr} {sl2 sm2 : Array (Option Value)} {vs2 : Array Value} {e2 : DefRec}
    {f3 : Addr} {oc3 kV3 dc3 pm3 ct3 o3 : Value} {od3 an3 dd3 : Option Addr} {sl3 sm3 : Array (Option Value)} {vs3 : Array Value} {e3 : DefRec}
    {g : Addr} {oc kV doc pm cdv ct : Value} {od an : Option Addr} {sl : Array (Option Value)}
    (X : K.In h) (G : h.Ns mainGlobals mg) (hfa : mg "law" = some (.ref fa))
    (red : DefN K mg "reduced" sReduced ["top", "bottom"])
    (add : DefN K mg "added" sAdded ["one", "other"])
    (tim : DefN K mg "timed" sTimed ["one", "other"])
    (rai : DefN K mg "raised" sRaised ["one", "number"])
    (bel : DefN K mg "is_below" sBelow ["one", "other"])
    (pai : DefN K mg "paired_sum" sPaired ["some", "others"])
    (who : DefN K mg "is_whole" sWhole ["thing"])
    (bet : DefN K mg "is_between" sBetween ["thing", "low", "high"])
    (fra : DefN K mg "is_fraction" sFraction ["thing"])
    (pos : DefN K mg "is_positive" sPosi ["thing"])
    (arf : DefN K mg "are_fractions" sAreF ["thing", "most"])
    (neB : DefN K mg "need_between" sNeedB ["thing", "low", "high"])
    (isp : DefN K mg "is_poly" sIsPoly ["thing"])
    (isr : DefN K mg "is_row" sIsRow ["thing"])
    (neR : DefN K mg "need_row" sNeedRow ["thing"])
    (wei : DefN K mg "is_weighed" sWeigh ["thing"])
    (iss : DefN K mg "is_share" sIsSh ["thing"])
    (neS : DefN K mg "need_share" sNeedSh ["thing"])
    (mof : DefN K mg "moment_of" sMomOf ["share", "number"])
    (mom : DefN K mg "moments" sMoments ["share", "top"])
    (sby : DefN K mg "sum_by" sSumBy ["row", "poly"])
    (frn : DefN K mg "need_from_nought" sFromN ["thing"])
    (mxd : DefN K mg "mixed" sMixedR ["row", "other", "near", "far"])
    (mix : DefN K mg "_law_mixed" sMixed ["cell", "k"])
    (beg : DefN K mg "_law_begin" sBegin ["script"])
    (drw : DefN K mg "_law_draw" sDraw ["state", "many"])
    (lra : DefN K mg "_law_ratio" sLRatio ["top", "bottom"])
    (lpl : DefN K mg "_law_plus" sLPlus ["one", "other"])
    (lti : DefN K mg "_law_times" sLTimes ["one", "other"])
    (lun : DefN K mg "_law_under" sLUnder ["one", "other"])
    (lsu : DefN K mg "_law_sum" sLSum ["some"])
    (lsh : DefN K mg "_law_share" sLShare ["state", "few"])
    (lpo : DefN K mg "_law_power" sLPower ["one", "many"])
    (lmo : DefN K mg "_law_moments" sLMoms ["share_so", "top"])
    (lsb : DefN K mg "_law_sum_by" sLSumBy ["row", "some"])
    (sma : DefN K mg "_law_small" sSmall ["state"])
    (ltr : DefN K mg "_law_trim" sLTrim ["some"])
    (lpy : DefN K mg "_law_poly" sLPoly ["state", "many"])
    (lro : DefN K mg "_law_row" sLRow ["state"])
    (god : DefN K mg "_law_good" sGood ["state"])
    (a2 : PySem.W.nsIn K mainGlobals "_law_refused_good" = some (some (.ref f2))) (l2 : K.lookup f2 = some ⟨oc2, od2, .func (PySem.W.fnOf "_law_refused_good" "_law_refused_good" (defArgs sRefused) (defBody sRefused) (defScope sRefused) .none kV2 dc2 pm2 an2 (.ref c2) ct2), sl2⟩) (hc2 : PySem.W.codeIn K (.ref c2) "_law_refused_good" = true) (k2 : PySem.W.keepIn K (.ref f2) = true)
    (u2 : K.lookup c2 = some ⟨o2, dd2, .fields vs2, sm2⟩) (v2 : (vs2[11]? : Option Value) = some (.ref P2)) (p2 : K.lookup P2 = none) (w2 : PySem.W.codeHdIn K c2 P2 = true) (r2 : (recsOf q).find? (fun e => e.name == ("_law_refused_good" : Str)) = some e2)
    (a3 : PySem.W.nsIn K mainGlobals "law" = some (some (.ref f3))) (l3 : K.lookup f3 = some ⟨oc3, od3, .func (PySem.W.fnOf "law" "law" (defArgs sLaw) (defBody sLaw) (defScope sLaw) .none kV3 dc3 pm3 an3 (.ref c3) ct3), sl3⟩) (hc3 : PySem.W.codeIn K (.ref c3) "law" = true) (k3 : PySem.W.keepIn K (.ref f3) = true)
    (u3 : K.lookup c3 = some ⟨o3, dd3, .fields vs3, sm3⟩) (v3 : (vs3[11]? : Option Value) = some (.ref P3)) (p3 : K.lookup P3 = none) (w3 : PySem.W.codeHdIn K c3 P3 = true) (r3 : (recsOf q).find? (fun e => e.name == ("law" : Str)) = some e3)
    (eF : ErrTxt K "BadFraction" "BadFraction.__init__" "given" sInitF CF)
    (eN : ErrTxt K "BadNumber" "BadNumber.__init__" "given" sInitN CN)
    (eP : ErrTxt K "BadPoly" "BadPoly.__init__" "given" sIP CP)
    (eR : ErrTxt K "BadRow" "BadRow.__init__" "given" sIR CR)
    (eS : ErrTxt K "BadShare" "BadShare.__init__" "given" sIS CS)
    (ha : PySem.W.nsIn K mainGlobals "_law_heard" = some (some (.ref g))) (hl : K.lookup g = some ⟨oc, od, .func (PySem.W.fnOf "_law_heard" "_law_heard" (defArgs sHeard) (defBody sHeard) (defScope sHeard) .none kV doc pm an cdv ct), sl⟩) (hc : PySem.W.codeIn K cdv "_law_heard" = true) (hk : PySem.W.keepIn K (.ref g) = true)
    (xRR : PySem.W.exmOne K (.ref CR) (.ref CR) = some true) (xSR : PySem.W.exmOne K (.ref CS) (.ref CR) = some false) (xSS : PySem.W.exmOne K (.ref CS) (.ref CS) = some true) (xPR : PySem.W.exmOne K (.ref CP) (.ref CR) = some false) (xPS : PySem.W.exmOne K (.ref CP) (.ref CS) = some false) (xPP : PySem.W.exmOne K (.ref CP) (.ref CP) = some true) (xNR : PySem.W.exmOne K (.ref CN) (.ref CR) = some false) (xNS : PySem.W.exmOne K (.ref CN) (.ref CS) = some false) (xNP : PySem.W.exmOne K (.ref CN) (.ref CP) = some false) (xNN : PySem.W.exmOne K (.ref CN) (.ref CN) = some true) (xFR : PySem.W.exmOne K (.ref CF) (.ref CR) = some false) (xFS : PySem.W.exmOne K (.ref CF) (.ref CS) = some false) (xFP : PySem.W.exmOne K (.ref CF) (.ref CP) = some false) (xFN : PySem.W.exmOne K (.ref CF) (.ref CN) = some false) (xFF : PySem.W.exmOne K (.ref CF) (.ref CF) = some true) (z : Nou K mg) (t : Blt mg) (mo : MostOk mg) (ms : Mosts mg) (rs : DefRS K mg) (zp : mg "zip" = none) (al : mg "all" = none) (n23 : P2 ≠ P3) :
    ∃ (C : Cls) (g c2 c3 P2 P3 : Addr) (e2 e3 : DefRec), Top0 K mg C g c2 c3 ∧ mg "law" = some (.ref fa) ∧ P2 ≠ P3 ∧
        (recsOf q).find? (fun e => e.name == ("_law_refused_good" : Str)) = some e2 ∧ (recsOf q).find? (fun e => e.name == ("law" : Str)) = some e3 ∧
        PySem.W.tabIn K "_law_refused_good" = some (c2, P2) ∧ PySem.W.tabIn K "law" = some (c3, P3) ∧
        (∀ r ∈ [(c2, P2), (c3, P3)], List.lookup r.2 K = none ∧ PySem.W.codeHdIn K r.1 r.2 = true) := by
  refine ⟨⟨CR, CS, CP, CN, CF⟩, g, c2, c3, P2, P3, e2, e3, ⟨red, add, tim, rai, bel, pai, who, bet, fra, pos, arf, neB, isp, isr, neR, wei, iss, neS, mof, mom, sby, frn, mxd, mix, beg, drw, lra, lpl, lti, lun, lsu, lsh, lpo, lmo, lsb, sma, ltr, lpy, lro, god, defC_mk X G a2 l2 hc2 k2 (fun _ _ _ _ _ _ us hl => match us, hl with | [], _ => rfl), defC_mk X G a3 l3 hc3 k3 (fun _ _ _ _ _ _ us hl => match us, hl with | [_], _ => rfl), eF.err X G, eN.err X G, eP.errW X G, eR.errW X G, eS.errW X G, heard_mk (C := ⟨CR, CS, CP, CN, CF⟩) X G eR eS eP eN eF ha hl hc hk xRR xSR xSS xPR xPS xPP xNR xNS xNP xNN xFR xFS xFP xFN xFF, z, t, mo, ms, rs, zp, al⟩, hfa, n23, r2, r3, tab_mk a2 l2 u2 v2, tab_mk a3 l3 u3 v3, ?_⟩
  intro r hr
  simp only [List.mem_cons, List.not_mem_nil, or_false] at hr
  rcases hr with rfl | rfl
  · exact ⟨p2, w2⟩
  · exact ⟨p3, w3⟩
end Rs


set_option Elab.async false
set_option linter.all false
open PySem PySem.W PyProof.Rows
set_option maxRecDepth 100000 in
set_option maxHeartbeats 0 in
theorem PySem.Challenge.cw_rungshare_k02_whole_rows_holds : PySem.Challenge.rw_rungshare_k02_whole_rows.Holds := by
  w_on; o_law; k_head; (case hw => w_witness2)
  k_fill
  refine Rs.walkG (l := PySem.Challenge.rw_rungshare_k02_whole_rows) rfl rfl (fun w h Y => PySem.W.km_in_of Y) ?F
  case F =>
    intro w mg fa h KX G hmg
    refine' Rs.all_mk KX G hmg ?red ?add ?tim ?rai ?bel ?pai ?who ?bet ?fra ?pos ?arf ?neB ?isp ?isr ?neR ?wei ?iss ?neS ?mof ?mom ?sby ?frn ?mxd ?mix ?beg ?drw ?lra ?lpl ?lti ?lun ?lsu ?lsh ?lpo ?lmo ?lsb ?sma ?ltr ?lpy ?lro ?god ?a2 ?l2 ?hc2 ?k2 ?u2 ?v2 ?p2 ?w2 ?r2 ?a3 ?l3 ?hc3 ?k3 ?u3 ?v3 ?p3 ?w3 ?r3 ?eF ?eN ?eP ?eR ?eS ?gha ?ghl ?ghc ?ghk ?gxRR ?gxSR ?gxSS ?gxPR ?gxPS ?gxPP ?gxNR ?gxNS ?gxNP ?gxNN ?gxFR ?gxFS ?gxFP ?gxFN ?gxFF ?gz ?gt ?gmo ?gms ?grs ?gzp ?gal ?n23
    (case red => refine' Rs.defN_mk KX G ?a ?l ?c ?k (fun _ _ _ _ _ _ us hl => match us, hl with | [_, _], _ => rfl); (case a => k_is); (case l => k_is); (case c => k_is); (case k => k_is))
    (case add => refine' Rs.defN_mk KX G ?a ?l ?c ?k (fun _ _ _ _ _ _ us hl => match us, hl with | [_, _], _ => rfl); (case a => k_is); (case l => k_is); (case c => k_is); (case k => k_is))
    (case tim => refine' Rs.defN_mk KX G ?a ?l ?c ?k (fun _ _ _ _ _ _ us hl => match us, hl with | [_, _], _ => rfl); (case a => k_is); (case l => k_is); (case c => k_is); (case k => k_is))
    (case rai => refine' Rs.defN_mk KX G ?a ?l ?c ?k (fun _ _ _ _ _ _ us hl => match us, hl with | [_, _], _ => rfl); (case a => k_is); (case l => k_is); (case c => k_is); (case k => k_is))
    (case bel => refine' Rs.defN_mk KX G ?a ?l ?c ?k (fun _ _ _ _ _ _ us hl => match us, hl with | [_, _], _ => rfl); (case a => k_is); (case l => k_is); (case c => k_is); (case k => k_is))
    (case pai => refine' Rs.defN_mk KX G ?a ?l ?c ?k (fun _ _ _ _ _ _ us hl => match us, hl with | [_, _], _ => rfl); (case a => k_is); (case l => k_is); (case c => k_is); (case k => k_is))
    (case who => refine' Rs.defN_mk KX G ?a ?l ?c ?k (fun _ _ _ _ _ _ us hl => match us, hl with | [_], _ => rfl); (case a => k_is); (case l => k_is); (case c => k_is); (case k => k_is))
    (case bet => refine' Rs.defN_mk KX G ?a ?l ?c ?k (fun _ _ _ _ _ _ us hl => match us, hl with | [_, _, _], _ => rfl); (case a => k_is); (case l => k_is); (case c => k_is); (case k => k_is))
    (case fra => refine' Rs.defN_mk KX G ?a ?l ?c ?k (fun _ _ _ _ _ _ us hl => match us, hl with | [_], _ => rfl); (case a => k_is); (case l => k_is); (case c => k_is); (case k => k_is))
    (case pos => refine' Rs.defN_mk KX G ?a ?l ?c ?k (fun _ _ _ _ _ _ us hl => match us, hl with | [_], _ => rfl); (case a => k_is); (case l => k_is); (case c => k_is); (case k => k_is))
    (case arf => refine' Rs.defN_mk KX G ?a ?l ?c ?k (fun _ _ _ _ _ _ us hl => match us, hl with | [_, _], _ => rfl); (case a => k_is); (case l => k_is); (case c => k_is); (case k => k_is))
    (case neB => refine' Rs.defN_mk KX G ?a ?l ?c ?k (fun _ _ _ _ _ _ us hl => match us, hl with | [_, _, _], _ => rfl); (case a => k_is); (case l => k_is); (case c => k_is); (case k => k_is))
    (case isp => refine' Rs.defN_mk KX G ?a ?l ?c ?k (fun _ _ _ _ _ _ us hl => match us, hl with | [_], _ => rfl); (case a => k_is); (case l => k_is); (case c => k_is); (case k => k_is))
    (case isr => refine' Rs.defN_mk KX G ?a ?l ?c ?k (fun _ _ _ _ _ _ us hl => match us, hl with | [_], _ => rfl); (case a => k_is); (case l => k_is); (case c => k_is); (case k => k_is))
    (case neR => refine' Rs.defN_mk KX G ?a ?l ?c ?k (fun _ _ _ _ _ _ us hl => match us, hl with | [_], _ => rfl); (case a => k_is); (case l => k_is); (case c => k_is); (case k => k_is))
    (case wei => refine' Rs.defN_mk KX G ?a ?l ?c ?k (fun _ _ _ _ _ _ us hl => match us, hl with | [_], _ => rfl); (case a => k_is); (case l => k_is); (case c => k_is); (case k => k_is))
    (case iss => refine' Rs.defN_mk KX G ?a ?l ?c ?k (fun _ _ _ _ _ _ us hl => match us, hl with | [_], _ => rfl); (case a => k_is); (case l => k_is); (case c => k_is); (case k => k_is))
    (case neS => refine' Rs.defN_mk KX G ?a ?l ?c ?k (fun _ _ _ _ _ _ us hl => match us, hl with | [_], _ => rfl); (case a => k_is); (case l => k_is); (case c => k_is); (case k => k_is))
    (case mof => refine' Rs.defN_mk KX G ?a ?l ?c ?k (fun _ _ _ _ _ _ us hl => match us, hl with | [_, _], _ => rfl); (case a => k_is); (case l => k_is); (case c => k_is); (case k => k_is))
    (case mom => refine' Rs.defN_mk KX G ?a ?l ?c ?k (fun _ _ _ _ _ _ us hl => match us, hl with | [_, _], _ => rfl); (case a => k_is); (case l => k_is); (case c => k_is); (case k => k_is))
    (case sby => refine' Rs.defN_mk KX G ?a ?l ?c ?k (fun _ _ _ _ _ _ us hl => match us, hl with | [_, _], _ => rfl); (case a => k_is); (case l => k_is); (case c => k_is); (case k => k_is))
    (case frn => refine' Rs.defN_mk KX G ?a ?l ?c ?k (fun _ _ _ _ _ _ us hl => match us, hl with | [_], _ => rfl); (case a => k_is); (case l => k_is); (case c => k_is); (case k => k_is))
    (case mxd => refine' Rs.defN_mk KX G ?a ?l ?c ?k (fun _ _ _ _ _ _ us hl => match us, hl with | [_, _, _, _], _ => rfl); (case a => k_is); (case l => k_is); (case c => k_is); (case k => k_is))
    (case mix => refine' Rs.defN_mk KX G ?a ?l ?c ?k (fun _ _ _ _ _ _ us hl => match us, hl with | [_, _], _ => rfl); (case a => k_is); (case l => k_is); (case c => k_is); (case k => k_is))
    (case beg => refine' Rs.defN_mk KX G ?a ?l ?c ?k (fun _ _ _ _ _ _ us hl => match us, hl with | [_], _ => rfl); (case a => k_is); (case l => k_is); (case c => k_is); (case k => k_is))
    (case drw => refine' Rs.defN_mk KX G ?a ?l ?c ?k (fun _ _ _ _ _ _ us hl => match us, hl with | [_, _], _ => rfl); (case a => k_is); (case l => k_is); (case c => k_is); (case k => k_is))
    (case lra => refine' Rs.defN_mk KX G ?a ?l ?c ?k (fun _ _ _ _ _ _ us hl => match us, hl with | [_, _], _ => rfl); (case a => k_is); (case l => k_is); (case c => k_is); (case k => k_is))
    (case lpl => refine' Rs.defN_mk KX G ?a ?l ?c ?k (fun _ _ _ _ _ _ us hl => match us, hl with | [_, _], _ => rfl); (case a => k_is); (case l => k_is); (case c => k_is); (case k => k_is))
    (case lti => refine' Rs.defN_mk KX G ?a ?l ?c ?k (fun _ _ _ _ _ _ us hl => match us, hl with | [_, _], _ => rfl); (case a => k_is); (case l => k_is); (case c => k_is); (case k => k_is))
    (case lun => refine' Rs.defN_mk KX G ?a ?l ?c ?k (fun _ _ _ _ _ _ us hl => match us, hl with | [_, _], _ => rfl); (case a => k_is); (case l => k_is); (case c => k_is); (case k => k_is))
    (case lsu => refine' Rs.defN_mk KX G ?a ?l ?c ?k (fun _ _ _ _ _ _ us hl => match us, hl with | [_], _ => rfl); (case a => k_is); (case l => k_is); (case c => k_is); (case k => k_is))
    (case lsh => refine' Rs.defN_mk KX G ?a ?l ?c ?k (fun _ _ _ _ _ _ us hl => match us, hl with | [_, _], _ => rfl); (case a => k_is); (case l => k_is); (case c => k_is); (case k => k_is))
    (case lpo => refine' Rs.defN_mk KX G ?a ?l ?c ?k (fun _ _ _ _ _ _ us hl => match us, hl with | [_, _], _ => rfl); (case a => k_is); (case l => k_is); (case c => k_is); (case k => k_is))
    (case lmo => refine' Rs.defN_mk KX G ?a ?l ?c ?k (fun _ _ _ _ _ _ us hl => match us, hl with | [_, _], _ => rfl); (case a => k_is); (case l => k_is); (case c => k_is); (case k => k_is))
    (case lsb => refine' Rs.defN_mk KX G ?a ?l ?c ?k (fun _ _ _ _ _ _ us hl => match us, hl with | [_, _], _ => rfl); (case a => k_is); (case l => k_is); (case c => k_is); (case k => k_is))
    (case sma => refine' Rs.defN_mk KX G ?a ?l ?c ?k (fun _ _ _ _ _ _ us hl => match us, hl with | [_], _ => rfl); (case a => k_is); (case l => k_is); (case c => k_is); (case k => k_is))
    (case ltr => refine' Rs.defN_mk KX G ?a ?l ?c ?k (fun _ _ _ _ _ _ us hl => match us, hl with | [_], _ => rfl); (case a => k_is); (case l => k_is); (case c => k_is); (case k => k_is))
    (case lpy => refine' Rs.defN_mk KX G ?a ?l ?c ?k (fun _ _ _ _ _ _ us hl => match us, hl with | [_, _], _ => rfl); (case a => k_is); (case l => k_is); (case c => k_is); (case k => k_is))
    (case lro => refine' Rs.defN_mk KX G ?a ?l ?c ?k (fun _ _ _ _ _ _ us hl => match us, hl with | [_], _ => rfl); (case a => k_is); (case l => k_is); (case c => k_is); (case k => k_is))
    (case god => refine' Rs.defN_mk KX G ?a ?l ?c ?k (fun _ _ _ _ _ _ us hl => match us, hl with | [_], _ => rfl); (case a => k_is); (case l => k_is); (case c => k_is); (case k => k_is))
    (case a2 => k_is); (case l2 => k_is); (case hc2 => k_is); (case k2 => k_is); (case u2 => k_is); (case v2 => rfl); (case p2 => kernel_rfl); (case w2 => kernel_rfl); (case r2 => rfl)
    (case a3 => k_is); (case l3 => k_is); (case hc3 => k_is); (case k3 => k_is); (case u3 => k_is); (case v3 => rfl); (case p3 => kernel_rfl); (case w3 => kernel_rfl); (case r3 => rfl)
    (case eF => refine' Rs.err_mk ?aeF ?ceF ?reF ?saeF ?gaeF ?ggeF ?noeF ?exeF ?tyeF ?kCeF ?hdeF ?ieF ?teF ?leF ?hceF ?keF (fun _ _ _ _ _ _ us hl => match us, hl with | [_, _], _ => rfl); (case aeF => k_is); (case ceF => k_is); (case reF => decide +kernel); (case saeF => k_is); (case gaeF => k_is); (case ggeF => k_is); (case noeF => k_is); (case exeF => k_is); (case tyeF => k_is); (case kCeF => k_is); (case hdeF => k_is); (case ieF => k_is); (case teF => k_is); (case leF => k_is); (case hceF => k_is); (case keF => k_is))
    (case eN => refine' Rs.err_mk ?aeN ?ceN ?reN ?saeN ?gaeN ?ggeN ?noeN ?exeN ?tyeN ?kCeN ?hdeN ?ieN ?teN ?leN ?hceN ?keN (fun _ _ _ _ _ _ us hl => match us, hl with | [_, _], _ => rfl); (case aeN => k_is); (case ceN => k_is); (case reN => decide +kernel); (case saeN => k_is); (case gaeN => k_is); (case ggeN => k_is); (case noeN => k_is); (case exeN => k_is); (case tyeN => k_is); (case kCeN => k_is); (case hdeN => k_is); (case ieN => k_is); (case teN => k_is); (case leN => k_is); (case hceN => k_is); (case keN => k_is))
    (case eP => refine' Rs.err_mk ?aeP ?ceP ?reP ?saeP ?gaeP ?ggeP ?noeP ?exeP ?tyeP ?kCeP ?hdeP ?ieP ?teP ?leP ?hceP ?keP (fun _ _ _ _ _ _ us hl => match us, hl with | [_, _], _ => rfl); (case aeP => k_is); (case ceP => k_is); (case reP => decide +kernel); (case saeP => k_is); (case gaeP => k_is); (case ggeP => k_is); (case noeP => k_is); (case exeP => k_is); (case tyeP => k_is); (case kCeP => k_is); (case hdeP => k_is); (case ieP => k_is); (case teP => k_is); (case leP => k_is); (case hceP => k_is); (case keP => k_is))
    (case eR => refine' Rs.err_mk ?aeR ?ceR ?reR ?saeR ?gaeR ?ggeR ?noeR ?exeR ?tyeR ?kCeR ?hdeR ?ieR ?teR ?leR ?hceR ?keR (fun _ _ _ _ _ _ us hl => match us, hl with | [_, _], _ => rfl); (case aeR => k_is); (case ceR => k_is); (case reR => decide +kernel); (case saeR => k_is); (case gaeR => k_is); (case ggeR => k_is); (case noeR => k_is); (case exeR => k_is); (case tyeR => k_is); (case kCeR => k_is); (case hdeR => k_is); (case ieR => k_is); (case teR => k_is); (case leR => k_is); (case hceR => k_is); (case keR => k_is))
    (case eS => refine' Rs.err_mk ?aeS ?ceS ?reS ?saeS ?gaeS ?ggeS ?noeS ?exeS ?tyeS ?kCeS ?hdeS ?ieS ?teS ?leS ?hceS ?keS (fun _ _ _ _ _ _ us hl => match us, hl with | [_, _], _ => rfl); (case aeS => k_is); (case ceS => k_is); (case reS => decide +kernel); (case saeS => k_is); (case gaeS => k_is); (case ggeS => k_is); (case noeS => k_is); (case exeS => k_is); (case tyeS => k_is); (case kCeS => k_is); (case hdeS => k_is); (case ieS => k_is); (case teS => k_is); (case leS => k_is); (case hceS => k_is); (case keS => k_is))
    (case gha => k_is); (case ghl => k_is); (case ghc => k_is); (case ghk => k_is)
    (case gxRR => first | k_is | kernel_rfl)
    (case gxSR => first | k_is | kernel_rfl)
    (case gxSS => first | k_is | kernel_rfl)
    (case gxPR => first | k_is | kernel_rfl)
    (case gxPS => first | k_is | kernel_rfl)
    (case gxPP => first | k_is | kernel_rfl)
    (case gxNR => first | k_is | kernel_rfl)
    (case gxNS => first | k_is | kernel_rfl)
    (case gxNP => first | k_is | kernel_rfl)
    (case gxNN => first | k_is | kernel_rfl)
    (case gxFR => first | k_is | kernel_rfl)
    (case gxFS => first | k_is | kernel_rfl)
    (case gxFP => first | k_is | kernel_rfl)
    (case gxFN => first | k_is | kernel_rfl)
    (case gxFF => first | k_is | kernel_rfl)
    (case gz => refine' Rs.nou_mk KX G ?a ?l; (case a => k_is); (case l => k_is))
    (case gt => refine' Rs.blt_mk KX G ?h1 ?h2 ?h3 ?h4 ?h5 ?h6 ?h7 ?h8 ?h9 ?h10 ?h11; (case h1 => k_is); (case h2 => k_is); (case h3 => k_is); (case h4 => k_is); (case h5 => k_is); (case h6 => k_is); (case h7 => k_is); (case h8 => k_is); (case h9 => k_is); (case h10 => k_is); (case h11 => k_is))
    (case gmo => refine' Rs.most_mk KX G ?hmo; (case hmo => k_is))
    (case gms => refine' Rs.mosts_mk KX G ?hm9 ?hm6; (case hm9 => k_is); (case hm6 => k_is))
    (case grs => refine' Rs.rs_mk KX G ?hra ?hrl ?hrd ?hrc ?hrk; (case hra => k_is); (case hrl => k_is); (case hrd => k_is); (case hrc => k_is); (case hrk => k_is))
    (case gzp => refine' PySem.W.mg_none_of KX G ?hnzp; k_is)
    (case gal => refine' PySem.W.mg_none_of KX G ?hnal; k_is)
    (case n23 => decide)


