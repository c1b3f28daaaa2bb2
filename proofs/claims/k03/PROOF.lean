import PyProof.Rows.All
import Wide.All
import OpenK.AllK
import Wide.FinOn
import HandS.ForMost
import HandS.ForExc
import HandS.Gcd
import HandS.Wide
import HandS.IsInst
import HandS.ExcInit
import HandS.Lambda
import HandS.OwnEq
import PySem.Challenge.RW_rungshare_k03_whole_ladders
import HandS.ExcField
import HandS.Codes
import HandS.TryMany
import HandS.TupAny
import KE.GoesMore
import HandS.Iter
import HandS.Rev
import HandS.Style
import HandS.Walk
import HandS.TupMul
import HandS.Zip
import HandS.WordsExc
import HandS.TupLe
import HandS.EndTab
import HandS.NestedK
set_option Elab.async false
set_option linter.all false
set_option maxRecDepth 100000
set_option maxHeartbeats 2000000
/-! small things that every law wants -/
namespace Bs
open PySem PySem.Spec PyProof.Rows L2
theorem same_new {H : Hp} {p : Addr} {o : HO} (h : H p = none) : Same H (upd H p o) := fun b u e => (upd_ne (ne_of_none e h)).trans e
theorem Same.t {K : PySem.W.Frag} {H H' : Hp} {a : Addr} {xs : List V} (e : Same H H') (h : SqT K H a xs) : SqT K H' a xs := by
  rcases h with (h | ⟨o, h⟩) | h
  · exact .inl (.inl (e _ _ h))
  · exact .inl (.inr ⟨o, e _ _ h⟩)
  · exact .inr h
section
variable {X : Cx}
/-- x *= e, both ints, together below a million bits -/
def ipM : TIp := fun x y H Q => ∃ i j, x = .int i ∧ y = .int j ∧ CMulW i j ∧ Q (.int (i * j)) H
theorem ip_mul : PIp X .Mult ipM := by
  rintro pins s σ H x y v u Q I r1 r2 ⟨i, j, rfl, rfl, c, q⟩
  obtain ⟨t, rfl⟩ := r1
  obtain ⟨t', rfl⟩ := r2
  exact imul_int ⟨.int _, H, I.tok _, ⟨_, rfl⟩, q⟩ c.ok
/-- repr of data in lists and tuples -/
def rRepr (K : PySem.W.Frag) : List V → Hp → VK → Prop := fun xs H Q => ∃ (a : Addr) (d : PyData), xs = [.ref a] ∧ Dp K H (.ref a) d ∧ d.showable = true ∧ d.hasDict = false ∧ d.depth ≤ 60 ∧ d.shown.length ≤ sizeLine ∧ Q (.str d.shown) H
theorem call_repr (hg : X.A.guards = some []) (hu : X.A.units + 64 < cLine) : CallR X (.builtin "repr") (rRepr X.K) := by
  rintro pins s σ H xs us Q I r ⟨a, d, rfl, hd, h1, h2, h3, h4, q⟩
  obtain ⟨u, rfl, ru⟩ := vals1 r
  obtain ⟨as, rd⟩ := Dp.reads I d (.ref a) u hd ru
  obtain rfl : u = Value.ref a := ru
  refine repr_of_reads' rd h1 (PyData.noDict_hsm h2) hg (by omega) (fun _ _ e => e) (fun h' u tk hk => ?_) h4
  exact ⟨.str d.shown, H, I.kept (h' := h') hk, ⟨u, rfl⟩, q⟩
end
/-! ### defs that may raise, and defs that ask for no guards -/
structure CalX (P : Program) (w : World) (K : PySem.W.Frag) (mg : Str → Option Value) (base : Heap) (k : Nat) (x : Str) (sp : Sp) : Prop where
  ex : ∃ (f : Addr) (fd : FuncData) (ps : List Str), FnOk P w K mg base (L2.CX P w) k f fd ps sp ∧ mg x = some (.ref f) ∧ PySem.W.keepIn K (.ref f) = true ∧ Binds K fd ps []
structure Cal (P : Program) (w : World) (K : PySem.W.Frag) (mg : Str → Option Value) (base : Heap) (k : Nat) (x : Str) (sp : Sp) : Prop where
  ex : ∃ (f : Addr) (fd : FuncData) (ps : List Str), FnOk P w K mg base CX0 k f fd ps sp ∧ mg x = some (.ref f) ∧ PySem.W.keepIn K (.ref f) = true ∧ Binds K fd ps []
/-- a promise that is kept where no guard stands around -/
structure FnG (P : Program) (w : World) (K : PySem.W.Frag) (mg : Str → Option Value) (base : Heap) (k : Nat) (f : Addr) (fd : FuncData) (ps : List Str) (sp : Sp) : Prop where
  len : ∀ vs H Q E, sp vs H Q E → vs.length = ps.length
  run : ∀ (A : Around) (outer : List Env) (s : Shared) (H : Hp) (args : Args) (us : List Value) (vs : List V) (Q : VK) (E : XK), A.guards = some [] → Room k A → Env0 P w K mg base A outer s H →
    BindsTo s fd args (ps.zip us) → Vals vs us → sp vs H Q E → codeAny (model P w) A (.call (.ref f) args) (CR CX0 outer P w H s Q E) s
structure CalG (P : Program) (w : World) (K : PySem.W.Frag) (mg : Str → Option Value) (base : Heap) (k : Nat) (x : Str) (sp : Sp) : Prop where
  ex : ∃ (f : Addr) (fd : FuncData) (ps : List Str), FnG P w K mg base k f fd ps sp ∧ mg x = some (.ref f) ∧ PySem.W.keepIn K (.ref f) = true ∧ Binds K fd ps []
section
variable {P : Program} {w : World} {K : PySem.W.Frag} {mg : Str → Option Value} {base : Heap} {k : Nat} {f : Addr} {fd : FuncData} {sp : Sp} {x qual : Str} {st : Stmt} {N ps : List Str}
theorem FnG.ok (F : Fun K x qual st f fd) (S : FnScope N ps (defScope st)) (len : ∀ vs H Q E, sp vs H Q E → vs.length = ps.length)
    (hbody : ∀ (cdv : Value) (A : Around) (outer : List Env) (s : Shared) (H : Hp) (vs : List V) (Q : VK) (E : XK), A.guards = some [] → Room k (A.deeper (envOfC qual (defScope st) s.heap.objs.size f cdv)) → sp vs H Q E →
      ∃ t, PSs (cxOf CX0 P w K mg base N qual (defScope st) f cdv A outer s H E).nox (defBody st) t ∧ t { nx := fun _ H' => Q .non H', rt := Q } (start N vs) H) : FnG P w K mg base (k + 1) f fd ps sp := by
  obtain ⟨oc, od, kV, doc, pm, an, cdv, ct, osl, rfl, lk, hcd⟩ := F.ex
  refine ⟨len, fun A outer s H args us vs Q E hg hr e0 hb r h => ?_⟩
  refine LamX.run_ofS lk hcd S hr e0 hb r (len _ _ _ _ h) (fun hr' => ?_)
  obtain ⟨t, a, b⟩ := hbody cdv A outer s H vs Q E hg hr' h
  exact ⟨t, a.nox, b⟩
end
section
variable {X : Cx} {k j : Nat} {x : Str} {sp : Sp} {p pos : Pos} {e : Expr} {es : List Expr} {t : TA} {E : XK}
theorem pe_x (c : CalX X.prog X.w X.K X.mg X.base k x sp) (hr : Room j X.A) (hk : k ≤ j) (hg : Gl X x) (hx : Passes (L2.CX X.prog X.w) X E) (ha : PA X (e :: es) t)
    (hdb : (x == ("__debug__" : Str)) = false := by decide) (he : starEach (e :: es) X.env = (false, eval e X.env) :: starEach es X.env := by rfl) (hpl : (backTo pos (starEach es X.env)).any (·.1) = false := by rfl) :
    PE X (.Call (.Name x p) (e :: es) [] pos) (tCall sp [] E t) := by
  obtain ⟨f, fd, ps, F, hm, kp, b⟩ := c.ex
  exact pe_call F (hr.mono hk) hg hm kp b .nil hx ha hdb he hpl
theorem pe_n (c : Cal X.prog X.w X.K X.mg X.base k x sp) (hr : Room j X.A) (hk : k ≤ j) (hg : Gl X x) (ha : PA X (e :: es) t)
    (hdb : (x == ("__debug__" : Str)) = false := by decide) (he : starEach (e :: es) X.env = (false, eval e X.env) :: starEach es X.env := by rfl) (hpl : (backTo pos (starEach es X.env)).any (·.1) = false := by rfl) :
    PE X (.Call (.Name x p) (e :: es) [] pos) (tCall sp [] E0 t) := by
  obtain ⟨f, fd, ps, F, hm, kp, b⟩ := c.ex
  exact pe_call F (hr.mono hk) hg hm kp b .nil pass0 ha hdb he hpl
theorem run_g {pins : List (Addr × Obj)} {σ : L2.St} {H : Hp} {s : Shared} {Q : VK} {f : Addr} {fd : FuncData} {ps : List Str} {us : List Value} {vs : List V} (F : FnG X.prog X.w X.K X.mg X.base k f fd ps sp) (hg : X.A.guards = some []) (hr : Room k X.A)
    (hb : Binds X.K fd ps []) (I : L2.Inv X pins σ H s) (r : Vals vs us) (h : sp vs H Q E) : wpAny (model X.prog X.w) X.A (call (.ref f) us) (EP X pins σ Q) X.xe s := by
  have hl : (us ++ []).length = ps.length := by rw [List.append_nil, ← r.length]; exact F.len _ _ _ _ h
  have b0 := hb s us I.kIn hl
  rw [List.append_nil] at b0
  refine wpAny_call (codeAny_mono (F.run X.A X.stack s H ⟨us, []⟩ us vs Q E hg hr I.env0 b0 r h) (fun r s' hq => ?_))
  rcases r with e | fl
  · exact (show False from hq).elim
  · cases fl with
    | ret u => exact I.after hq
    | next => exact hq.elim
    | brk => exact hq.elim
    | cont => exact hq.elim
theorem pe_g (c : CalG X.prog X.w X.K X.mg X.base k x sp) (hgd : X.A.guards = some []) (hr : Room j X.A) (hk : k ≤ j) (hg : Gl X x) (ha : PA X (e :: es) t)
    (hdb : (x == ("__debug__" : Str)) = false := by decide) (he : starEach (e :: es) X.env = (false, eval e X.env) :: starEach es X.env := by rfl) (hpl : (backTo pos (starEach es X.env)).any (·.1) = false := by rfl) :
    PE X (.Call (.Name x p) (e :: es) [] pos) (tCall sp [] E0 t) := by
  obtain ⟨f, fd, ps, F, hm, kp, b⟩ := c.ex
  constructor
  intro pins s σ H Q I h
  refine wpAny_Call_Name_kw (ld_glob I hg hm ?_ hdb)
  refine PySem.W.callWith_K (h₀ := X.base) I.ok.mod.kin kp (thn (ha.run pos pins s σ H _ I h) (fun us s1 ⟨vs, H1, I1, r, q⟩ => ⟨I1.kIn, ?_⟩)) he hpl
  have q' : sp (vs ++ []) H1 Q E0 := q
  rw [List.append_nil] at q'
  exact run_g F hgd (hr.mono hk) b I1 r q'
theorem pe_g0 (c : CalG X.prog X.w X.K X.mg X.base k x sp) (hgd : X.A.guards = some []) (hr : Room j X.A) (hk : k ≤ j) (hg : Gl X x) (hdb : (x == ("__debug__" : Str)) = false := by decide) :
    PE X (.Call (.Name x p) [] [] pos) (tCall sp [] E0 tNil) := by
  obtain ⟨f, fd, ps, F, hm, kp, b⟩ := c.ex
  constructor
  intro pins s σ H Q I h
  refine wpAny_Call_Name_kw (ld_glob I hg hm ?_ hdb)
  exact PySem.W.callWith_K0 I.kIn kp (run_g (us := []) F hgd (hr.mono hk) b I .nil h)
end
end Bs


/-! fractions as pairs of integers: the mathematics alone -/
namespace Fq
abbrev F := Int × Int
def gI (a b : Int) : Int := ((Nat.gcd a.natAbs b.natAbs : Nat) : Int)
/-- least terms, the bottom above nought -/
def red (a b : Int) : F := (a / gI a b, b / gI a b)
/-- least terms, the bottom not nought -/
def redP (a b : Int) : F := if b < 0 then red (-a) (-b) else red a b
theorem gI_neg (a b : Int) : gI (-a) (-b) = gI a b := by simp [gI]
theorem gI_pos {a b : Int} (h : b ≠ 0) : 0 < gI a b := by
  have : 0 < Nat.gcd a.natAbs b.natAbs := Nat.gcd_pos_of_pos_right _ (by omega)
  unfold gI; omega
theorem gI_le {a b : Int} (h : b ≠ 0) : (gI a b).natAbs ≤ b.natAbs := by
  have : Nat.gcd a.natAbs b.natAbs ≤ b.natAbs := Nat.gcd_le_right _ (by omega)
  unfold gI; omega
theorem redP_pos {a b : Int} (h : 0 < b) : redP a b = red a b := if_neg (by omega)
theorem redP_neg {a b : Int} (h : b < 0) : redP a b = red (-a) (-b) := if_pos h
/-- what the program reckons: by the divisor with b's sign -/
theorem redP_eq {a b g : Int} (hb : b ≠ 0) (hg : g = if b < 0 then -gI a b else gI a b) : (a.fdiv g, b.fdiv g) = redP a b := by
  have hp := gI_pos (a := a) hb
  by_cases c : b < 0
  · rw [if_pos c] at hg
    subst hg
    rw [redP_neg c, red, gI_neg]
    have e : ∀ x : Int, x.fdiv (-gI a b) = (-x) / gI a b := fun x => by
      have := Int.neg_fdiv_neg (-x) (gI a b)
      rw [Int.neg_neg] at this
      rw [this, Int.fdiv_eq_ediv_of_nonneg _ (by omega)]
    rw [e, e]
  · rw [if_neg c] at hg
    subst hg
    rw [redP, if_neg c, red, Int.fdiv_eq_ediv_of_nonneg _ (by omega), Int.fdiv_eq_ediv_of_nonneg _ (by omega)]
/-- a fraction in least terms -/
def Ok (q : F) : Prop := 0 < q.2 ∧ Nat.gcd q.1.natAbs q.2.natAbs = 1
theorem gI_dvd_l (a b : Int) : gI a b ∣ a := by
  unfold gI
  exact Int.ofNat_dvd_left.mpr (Nat.gcd_dvd_left _ _)
theorem gI_dvd_r (a b : Int) : gI a b ∣ b := by
  unfold gI
  exact Int.ofNat_dvd_left.mpr (Nat.gcd_dvd_right _ _)
theorem red_ok {a b : Int} (h : 0 < b) : Ok (red a b) := by
  have hg := gI_pos (a := a) (b := b) (by omega)
  obtain ⟨x, hx⟩ := gI_dvd_l a b
  obtain ⟨y, hy⟩ := gI_dvd_r a b
  have e1 : a / gI a b = x := Int.ediv_eq_of_eq_mul_right (by omega) hx
  have e2 : b / gI a b = y := Int.ediv_eq_of_eq_mul_right (by omega) hy
  refine ⟨?_, ?_⟩
  · show 0 < b / gI a b
    rw [e2]
    apply Int.pos_of_mul_pos_right (a := gI a b) (b := y) ?_ hg |> id
    rw [← hy]; exact h
  · show Nat.gcd (a / gI a b).natAbs (b / gI a b).natAbs = 1
    rw [e1, e2]
    have q1 : a.natAbs = (gI a b).natAbs * x.natAbs := by
      have := congrArg Int.natAbs hx
      rwa [Int.natAbs_mul] at this
    have q2 : b.natAbs = (gI a b).natAbs * y.natAbs := by
      have := congrArg Int.natAbs hy
      rwa [Int.natAbs_mul] at this
    have q3 : (gI a b).natAbs = Nat.gcd a.natAbs b.natAbs := by unfold gI; omega
    have q4 : Nat.gcd a.natAbs b.natAbs = (gI a b).natAbs * Nat.gcd x.natAbs y.natAbs := by
      rw [q1, q2, Nat.gcd_mul_left]
    have hp : 0 < (gI a b).natAbs := by omega
    have : (gI a b).natAbs * 1 = (gI a b).natAbs * Nat.gcd x.natAbs y.natAbs := by rw [← q4, q3]; omega
    exact (Nat.eq_of_mul_eq_mul_left hp this).symm
theorem red_of {q : F} (h : Ok q) : red q.1 q.2 = q := by
  have : gI q.1 q.2 = 1 := by unfold gI; rw [h.2]; rfl
  unfold red
  rw [this, Int.ediv_one, Int.ediv_one]
/-- sums, differences, products, quotients -/
def add (q r : F) : F := red (q.1 * r.2 + r.1 * q.2) (q.2 * r.2)
def sub (q r : F) : F := red (q.1 * r.2 - r.1 * q.2) (q.2 * r.2)
def mul (q r : F) : F := red (q.1 * r.1) (q.2 * r.2)
def div (q r : F) : F := redP (q.1 * r.2) (q.2 * r.1)
def lt (q r : F) : Bool := decide (q.1 * r.2 < r.1 * q.2)
def pw (q : F) (n : Nat) : F := (q.1 ^ n, q.2 ^ n)
theorem pw_ok {q : F} (h : Ok q) (n : Nat) : Ok (pw q n) := by
  refine ⟨Int.pow_pos h.1, ?_⟩
  show Nat.gcd (q.1 ^ n).natAbs (q.2 ^ n).natAbs = 1
  rw [Int.natAbs_pow, Int.natAbs_pow]
  exact Nat.Coprime.pow n n h.2
theorem pw_succ (q : F) (n : Nat) (h : Ok q) : mul (pw q n) q = pw q (n + 1) := by
  have := red_of (pw_ok h (n + 1))
  show red (q.1 ^ n * q.1) (q.2 ^ n * q.2) = _
  rw [← Int.pow_succ, ← Int.pow_succ]
  exact this
end Fq


set_option linter.all false
namespace Fq
/-- worth a divided by b -/
def Vl (q : F) (a b : Int) : Prop := q.1 * b = a * q.2
theorem vl_red {a b : Int} (h : 0 < b) : Vl (red a b) a b := by
  have hg := gI_pos (a := a) (b := b) (by omega)
  obtain ⟨x, hx⟩ := gI_dvd_l a b
  obtain ⟨y, hy⟩ := gI_dvd_r a b
  have e1 : a / gI a b = x := Int.ediv_eq_of_eq_mul_right (by omega) hx
  have e2 : b / gI a b = y := Int.ediv_eq_of_eq_mul_right (by omega) hy
  show (a / gI a b) * b = a * (b / gI a b)
  rw [e1, e2]
  generalize gI a b = g at *
  subst hx hy
  grind
theorem mul_cancel {a b m : Int} (hm : m ≠ 0) (h : a * m = b * m) : a = b := Int.eq_of_mul_eq_mul_right hm h
theorem vl_add {q r : F} {a b c d : Int} (hq : 0 < q.2) (hr : 0 < r.2) (h1 : Vl q a b) (h2 : Vl r c d) : Vl (add q r) (a * d + c * b) (b * d) := by
  have hm : 0 < q.2 * r.2 := Int.mul_pos hq hr
  have v := vl_red (a := q.1 * r.2 + r.1 * q.2) hm
  unfold Vl at *
  show (red _ _).1 * _ = _ * (red _ _).2
  generalize red (q.1 * r.2 + r.1 * q.2) (q.2 * r.2) = s at *
  refine mul_cancel (m := q.2 * r.2) (by omega) ?_
  generalize q.1 = q1 at *; generalize q.2 = q2 at *; generalize r.1 = r1 at *; generalize r.2 = r2 at *; generalize s.1 = s1 at *; generalize s.2 = s2 at *
  have e : s1 * (b * d) * (q2 * r2) = (s1 * (q2 * r2)) * (b * d) := by grind
  rw [e, v]
  have e2 : (q1 * r2 + r1 * q2) * s2 * (b * d) = s2 * ((q1 * b) * r2 * d + (r1 * d) * q2 * b) := by grind
  rw [e2, h1, h2]
  grind
theorem vl_mul {q r : F} {a b c d : Int} (hq : 0 < q.2) (hr : 0 < r.2) (h1 : Vl q a b) (h2 : Vl r c d) : Vl (mul q r) (a * c) (b * d) := by
  have hm : 0 < q.2 * r.2 := Int.mul_pos hq hr
  have v := vl_red (a := q.1 * r.1) hm
  unfold Vl at *
  show (red _ _).1 * _ = _ * (red _ _).2
  generalize red (q.1 * r.1) (q.2 * r.2) = s at *
  refine mul_cancel (m := q.2 * r.2) (by omega) ?_
  generalize q.1 = q1 at *; generalize q.2 = q2 at *; generalize r.1 = r1 at *; generalize r.2 = r2 at *; generalize s.1 = s1 at *; generalize s.2 = s2 at *
  have e : s1 * (b * d) * (q2 * r2) = (s1 * (q2 * r2)) * (b * d) := by grind
  rw [e, v]
  have e2 : (q1 * r1) * s2 * (b * d) = s2 * ((q1 * b) * (r1 * d)) := by grind
  rw [e2, h1, h2]
  grind
theorem vl_times {q : F} {a b : Int} (k : Int) (h : Vl q a b) : Vl q (a * k) (b * k) := by
  unfold Vl at *
  have : q.1 * (b * k) = (q.1 * b) * k := by grind
  rw [this, h]
  grind
theorem cop_dvd {x y z : Int} (h : Nat.gcd x.natAbs y.natAbs = 1) (d : y ∣ x * z) : y ∣ z := by
  rw [← Int.natAbs_dvd_natAbs] at *
  rw [Int.natAbs_mul] at d
  exact Nat.Coprime.dvd_of_dvd_mul_left (Nat.Coprime.symm h) d
theorem vl_dvd {q : F} {a b : Int} (o : Ok q) (h : Vl q a b) : q.2 ∣ b := cop_dvd o.2 ⟨a, by unfold Vl at h; rw [h, Int.mul_comm]⟩
theorem vl_uniq {q r : F} {a b : Int} (o : Ok q) (o' : Ok r) (hb : b ≠ 0) (h1 : Vl q a b) (h2 : Vl r a b) : q = r := by
  have e : q.1 * r.2 = r.1 * q.2 := by
    unfold Vl at h1 h2
    refine mul_cancel hb ?_
    have : q.1 * r.2 * b = (q.1 * b) * r.2 := by grind
    rw [this, h1]
    have : r.1 * q.2 * b = (r.1 * b) * q.2 := by grind
    rw [this, h2]
    grind
  have d1 : q.2 ∣ r.2 := cop_dvd o.2 ⟨r.1, by rw [e, Int.mul_comm]⟩
  have d2 : r.2 ∣ q.2 := cop_dvd o'.2 ⟨q.1, by rw [← e, Int.mul_comm]⟩
  have p1 := o.1
  have p2 := o'.1
  have e2 : q.2 = r.2 := Int.le_antisymm (Int.le_of_dvd p2 d1) (Int.le_of_dvd p1 d2)
  have e1 : q.1 = r.1 := by
    rw [e2] at e
    exact mul_cancel (by omega) e
  exact Prod.ext e1 e2
theorem ok_add' {q r : F} (hq : 0 < q.2) (hr : 0 < r.2) : Ok (add q r) := red_ok (Int.mul_pos hq hr)
theorem ok_sub' {q r : F} (hq : 0 < q.2) (hr : 0 < r.2) : Ok (sub q r) := red_ok (Int.mul_pos hq hr)
theorem ok_mul' {q r : F} (hq : 0 < q.2) (hr : 0 < r.2) : Ok (mul q r) := red_ok (Int.mul_pos hq hr)
theorem ok01 : Ok (0, 1) := ⟨by decide, by decide⟩
theorem vl_self (q : F) : Vl q q.1 q.2 := rfl
theorem add_zero : add (0, 1) (0, 1) = (0, 1) := by decide
theorem sub_zero : sub (0, 1) (0, 1) = (0, 1) := by decide
/-- the bottom of a sum where both divide one number -/
theorem dvd_add {q r : F} {D : Int} (o : Ok q) (o' : Ok r) (hD : D ≠ 0) (h1 : q.2 ∣ D) (h2 : r.2 ∣ D) : (add q r).2 ∣ D := by
  obtain ⟨x, hx⟩ := h1
  obtain ⟨y, hy⟩ := h2
  have v1 : Vl q (q.1 * x) D := by unfold Vl; rw [hx]; grind
  have v2 : Vl r (r.1 * y) D := by unfold Vl; rw [hy]; grind
  have v := vl_add o.1 o'.1 v1 v2
  have v' : Vl (add q r) (q.1 * x + r.1 * y) D := by
    unfold Vl at *
    refine mul_cancel hD ?_
    rw [Int.mul_assoc, v]
    grind
  exact vl_dvd (ok_add' o.1 o'.1) v'
theorem dvd_mul {q r : F} {D E : Int} (o : Ok q) (o' : Ok r) (h1 : q.2 ∣ D) (h2 : r.2 ∣ E) : (mul q r).2 ∣ D * E :=
  Int.dvd_trans (vl_dvd (ok_mul' o.1 o'.1) (vl_mul o.1 o'.1 (vl_self q) (vl_self r))) (Int.mul_dvd_mul h1 h2)
end Fq
namespace Rs
open Fq
/-- what it has at a power -/
def co (qs : List F) (k : Nat) : F := qs.getD k (0, 1)
/-- noughts at the end left out -/
def trimN (qs : List F) : Nat → List F
  | 0 => []
  | n + 1 => if co qs n = (0, 1) then trimN qs n else qs.take (n + 1)
def trim (qs : List F) : List F := trimN qs qs.length
theorem trimN_is (qs : List F) : ∀ n, n ≤ qs.length → ∃ k, k ≤ n ∧ trimN qs n = qs.take k
  | 0, _ => ⟨0, Nat.le_refl _, by simp [trimN]⟩
  | n + 1, h => by
    unfold trimN
    split
    · obtain ⟨k, h1, h2⟩ := trimN_is qs n (by omega)
      exact ⟨k, by omega, h2⟩
    · exact ⟨n + 1, Nat.le_refl _, rfl⟩
theorem co_get {qs : List F} {k : Nat} {q : F} (h : qs[k]? = some q) : co qs k = q := by
  unfold co
  rw [List.getD_eq_getElem?_getD, h]
  rfl
theorem co_lt {qs : List F} {k : Nat} (h : k < qs.length) : qs[k]? = some (co qs k) := by
  rw [List.getElem?_eq_getElem h, co_get (List.getElem?_eq_getElem h)]
theorem co_ge {qs : List F} {k : Nat} (h : qs.length ≤ k) : co qs k = (0, 1) := by
  unfold co
  rw [List.getD_eq_getElem?_getD, List.getElem?_eq_none h]
  rfl
theorem co_mem {qs : List F} {k : Nat} (h : k < qs.length) : co qs k ∈ qs := List.mem_of_getElem? (co_lt h)
theorem co_all {P : F → Prop} {qs : List F} (h : ∀ q ∈ qs, P q) (h0 : P (0, 1)) (k : Nat) : P (co qs k) := by
  by_cases c : k < qs.length
  · exact h _ (co_mem c)
  · rw [co_ge (by omega)]
    exact h0
theorem co_snoc {ws : List F} {z : F} {k : Nat} (h : k < ws.length) : co (ws ++ [z]) k = co ws k := by
  refine co_get ?_
  rw [List.getElem?_append_left h, co_lt h]
theorem trimN_snoc {ws : List F} {z : F} : ∀ n, n ≤ ws.length → trimN (ws ++ [z]) n = trimN ws n
  | 0, _ => rfl
  | n + 1, h => by
    unfold trimN
    rw [co_snoc (by omega), trimN_snoc n (by omega), List.take_append_of_le_length h]
theorem trim_snoc (ws : List F) : trim (ws ++ [(0, 1)]) = trim ws := by
  unfold trim
  rw [List.length_append, List.length_singleton]
  show (if co (ws ++ [(0, 1)]) ws.length = (0, 1) then _ else _) = _
  rw [if_pos (co_get (by simp)), trimN_snoc _ (Nat.le_refl _)]
theorem trim_rep : ∀ n : Nat, trim (List.replicate n (0, 1)) = []
  | 0 => rfl
  | n + 1 => by
    rw [List.replicate_succ', trim_snoc, trim_rep n]
theorem trimN_nz (qs : List F) : ∀ n, n ≤ qs.length → trimN qs n = [] ∨ ∃ k, k < n ∧ trimN qs n = qs.take (k + 1) ∧ co qs k ≠ (0, 1)
  | 0, _ => .inl rfl
  | n + 1, h => by
    unfold trimN
    split
    · rcases trimN_nz qs n (by omega) with e | ⟨k, h1, h2, h3⟩
      · exact .inl e
      · exact .inr ⟨k, by omega, h2, h3⟩
    · rename_i c
      exact .inr ⟨n, by omega, rfl, c⟩
/-- a polynomial: the last one not nought -/
def Pn (qs : List F) : Prop := qs = [] ∨ co qs (qs.length - 1) ≠ (0, 1)
theorem trim_pn (qs : List F) : Pn (trim qs) := by
  rcases trimN_nz qs qs.length (Nat.le_refl _) with e | ⟨k, h1, h2, h3⟩
  · exact .inl e
  · right
    have l : (trim qs).length = k + 1 := by
      show (trimN _ _).length = _
      rw [h2, List.length_take]
      omega
    rw [l, Nat.add_sub_cancel]
    have : co (trim qs) k = co qs k := by
      refine co_get ?_
      show (trimN _ _)[k]? = _
      rw [h2, List.getElem?_take_of_lt (by omega), co_lt h1]
    rw [this]
    exact h3
theorem trim_mem {qs : List F} {q : F} (h : q ∈ trim qs) : q ∈ qs := by
  obtain ⟨k, _, e⟩ := trimN_is qs qs.length (Nat.le_refl _)
  rw [trim, e] at h
  exact List.mem_of_mem_take h
theorem trim_len (qs : List F) : (trim qs).length ≤ qs.length := by
  obtain ⟨k, h, e⟩ := trimN_is qs qs.length (Nat.le_refl _)
  rw [trim, e, List.length_take]
  omega
theorem trim_of {qs : List F} (h : Pn qs) : trim qs = qs := by
  unfold trim
  rcases h with rfl | h
  · rfl
  · cases e : qs.length with
    | zero => rw [List.eq_nil_of_length_eq_zero e]; rfl
    | succ n =>
      rw [e, Nat.add_sub_cancel] at h
      unfold trimN
      rw [if_neg h, ← e, List.take_length]
/-- power by power -/
def byPower (op : F → F → F) (qs rs : List F) (n : Nat) : List F := (List.range n).map fun k => op (co qs k) (co rs k)
theorem byPower_succ (op : F → F → F) (qs rs : List F) (n : Nat) : byPower op qs rs (n + 1) = byPower op qs rs n ++ [op (co qs n) (co rs n)] := by
  rw [byPower, List.range_succ, List.map_append]
  rfl
theorem byPower_len (op : F → F → F) (qs rs : List F) (n : Nat) : (byPower op qs rs n).length = n := by
  rw [byPower, List.length_map, List.length_range]
theorem byPower_trim {op : F → F → F} (h0 : op (0, 1) (0, 1) = (0, 1)) {qs rs : List F} {m : Nat} (h1 : qs.length ≤ m) (h2 : rs.length ≤ m) : ∀ d, trim (byPower op qs rs (m + d)) = trim (byPower op qs rs m)
  | 0 => rfl
  | d + 1 => by
    rw [← Nat.add_assoc, byPower_succ, co_ge (by omega), co_ge (by omega), h0, trim_snoc, byPower_trim h0 h1 h2 d]
theorem byPower_mem {op : F → F → F} {qs rs : List F} {n : Nat} {q : F} (h : q ∈ byPower op qs rs n) : ∃ k, q = op (co qs k) (co rs k) := by
  obtain ⟨k, _, rfl⟩ := List.mem_map.mp h
  exact ⟨k, rfl⟩
/-! ### products -/
def stepJ (w : List F) (i : Nat) (p : F) (rs : List F) : Nat → List F
  | 0 => w
  | j + 1 => (stepJ w i p rs j).set (i + j) (add (co (stepJ w i p rs j) (i + j)) (mul p (co rs j)))
def stepI (w : List F) (qs rs : List F) : Nat → List F
  | 0 => w
  | i + 1 => stepJ (stepI w qs rs i) i (co qs i) rs rs.length
def prodN (n : Nat) (qs rs : List F) : List F := stepI (List.replicate n (0, 1)) qs rs qs.length
theorem stepJ_len (w : List F) (i : Nat) (p : F) (rs : List F) : ∀ j, (stepJ w i p rs j).length = w.length
  | 0 => rfl
  | j + 1 => by
    show (List.set _ _ _).length = _
    rw [List.length_set, stepJ_len w i p rs j]
theorem stepI_len (w qs rs : List F) : ∀ i, (stepI w qs rs i).length = w.length
  | 0 => rfl
  | i + 1 => by
    show (stepJ _ _ _ _ _).length = _
    rw [stepJ_len, stepI_len w qs rs i]
theorem prodN_len (n : Nat) (qs rs : List F) : (prodN n qs rs).length = n := by
  rw [prodN, stepI_len, List.length_replicate]
theorem stepJ_snoc (w : List F) (z : F) (i : Nat) (p : F) (rs : List F) : ∀ j, i + j ≤ w.length → stepJ (w ++ [z]) i p rs j = stepJ w i p rs j ++ [z]
  | 0, _ => rfl
  | j + 1, h => by
    have l := stepJ_len w i p rs j
    show (stepJ (w ++ [z]) i p rs j).set _ _ = (stepJ w i p rs j).set _ _ ++ [z]
    rw [stepJ_snoc w z i p rs j (by omega), co_snoc (by omega), List.set_append_left _ _ (by omega)]
theorem stepI_snoc (w : List F) (z : F) (qs rs : List F) : ∀ i, i + rs.length ≤ w.length + 1 → stepI (w ++ [z]) qs rs i = stepI w qs rs i ++ [z]
  | 0, _ => rfl
  | i + 1, h => by
    have l := stepI_len w qs rs i
    show stepJ (stepI (w ++ [z]) qs rs i) _ _ _ _ = stepJ (stepI w qs rs i) _ _ _ _ ++ [z]
    rw [stepI_snoc w z qs rs i (by omega), stepJ_snoc _ _ _ _ _ _ (by omega)]
def prodL (qs rs : List F) : List F := if qs = [] ∨ rs = [] then [] else prodN (qs.length + rs.length - 1) qs rs
theorem prodN_nil (n : Nat) (qs : List F) : prodN n qs [] = List.replicate n (0, 1) := by
  have : ∀ (w : List F) i, stepI w qs [] i = w := fun w i => by
    induction i with
    | zero => rfl
    | succ i h =>
      show stepJ (stepI w qs [] i) i (co qs i) [] 0 = _
      exact h
  exact this _ _
theorem prod_all (qs rs : List F) : trim (prodN (qs.length + rs.length) qs rs) = trim (prodL qs rs) := by
  unfold prodL
  split
  · rename_i c
    rcases c with rfl | rfl
    · show trim (List.replicate _ _) = _
      rw [trim_rep]
      rfl
    · rw [prodN_nil, trim_rep]
      rfl
  · rename_i c
    have h1 : qs ≠ [] := fun z => c (.inl z)
    have h2 : rs ≠ [] := fun z => c (.inr z)
    have l1 := List.length_pos_iff.mpr h1
    have l2 := List.length_pos_iff.mpr h2
    obtain ⟨n, e⟩ : ∃ n, qs.length + rs.length = n + 1 := ⟨qs.length + rs.length - 1, by omega⟩
    rw [e, Nat.add_sub_cancel]
    unfold prodN
    rw [List.replicate_succ', stepI_snoc _ _ _ _ _ (by rw [List.length_replicate]; omega), trim_snoc]
/-- small fractions -/
structure S3 (q : F) : Prop where
  ok : Fq.Ok q
  b : q.2 ≤ 3
  a : q.1.natAbs < 16
theorem S3.zero : S3 (0, 1) := ⟨Fq.ok01, by decide, by decide⟩
theorem S3.cases {q : F} (h : S3 q) : q.2 = 1 ∨ q.2 = 2 ∨ q.2 = 3 := by
  have := h.ok.1
  have := h.b
  omega
theorem S3.d6 {q : F} (h : S3 q) : q.2 ∣ 6 := by
  rcases h.cases with e | e | e <;> rw [e] <;> decide
/-- what a product's parts may be, behind so many steps -/
structure Pb (k : Nat) (q : F) : Prop where
  ok : Fq.Ok q
  b : q.2 ∣ 36
  a : q.1.natAbs < 2 ^ (20 + 8 * k)
theorem Pb.zero : Pb 0 (0, 1) := ⟨Fq.ok01, by decide, by decide⟩
theorem Pb.mono {k m : Nat} {q : F} (h : Pb k q) (e : k ≤ m) : Pb m q := ⟨h.ok, h.b, Nat.lt_of_lt_of_le h.a (Nat.pow_le_pow_right (by decide) (by omega))⟩
theorem Pb.le {k : Nat} {q : F} (h : Pb k q) : q.2 ≤ 36 := Int.le_of_dvd (by decide) h.b
theorem red_top {a b : Int} (h : 0 < b) : (red a b).1.natAbs ≤ a.natAbs := by
  have hg := gI_pos (a := a) (b := b) (by omega)
  show (a / gI a b).natAbs ≤ a.natAbs
  obtain ⟨x, hx⟩ := gI_dvd_l a b
  have e1 : a / gI a b = x := Int.ediv_eq_of_eq_mul_right (by omega) hx
  rw [e1]
  have q1 : a.natAbs = (gI a b).natAbs * x.natAbs := by
    have := congrArg Int.natAbs hx
    rwa [Int.natAbs_mul] at this
  rw [q1]
  exact Nat.le_mul_of_pos_left _ (by omega)
theorem mul_s3 {p r : F} (hp : S3 p) (hr : S3 r) : Fq.Ok (mul p r) ∧ (mul p r).2 ∣ 36 ∧ (mul p r).1.natAbs < 256 := by
  refine ⟨ok_mul' hp.ok.1 hr.ok.1, dvd_mul hp.ok hr.ok hp.d6 hr.d6, ?_⟩
  refine Nat.lt_of_le_of_lt (red_top (Int.mul_pos hp.ok.1 hr.ok.1)) ?_
  rw [Int.natAbs_mul]
  have := hp.a
  have := hr.a
  have : p.1.natAbs * r.1.natAbs ≤ 15 * 15 := Nat.mul_le_mul (by omega) (by omega)
  omega
theorem Pb.step {k : Nat} {q p r : F} (h : Pb k q) (hp : S3 p) (hr : S3 r) : Pb (k + 1) (add q (mul p r)) := by
  obtain ⟨o, d, l⟩ := mul_s3 hp hr
  refine ⟨ok_add' h.ok.1 o.1, dvd_add h.ok o (by decide) h.b d, ?_⟩
  refine Nat.lt_of_le_of_lt (red_top (Int.mul_pos h.ok.1 o.1)) ?_
  have b1 := h.le
  have b2 : (mul p r).2 ≤ 36 := Int.le_of_dvd (by decide) d
  have p1 := h.ok.1
  have p2 := o.1
  have := Int.natAbs_add_le (q.1 * (mul p r).2) ((mul p r).1 * q.2)
  rw [Int.natAbs_mul, Int.natAbs_mul] at this
  have m1 : q.1.natAbs * (mul p r).2.natAbs ≤ q.1.natAbs * 36 := Nat.mul_le_mul (Nat.le_refl _) (by omega)
  have m2 : (mul p r).1.natAbs * q.2.natAbs ≤ 255 * 36 := Nat.mul_le_mul (by omega) (by omega)
  have e : 2 ^ (20 + 8 * (k + 1)) = 2 ^ (20 + 8 * k) * 256 := by
    rw [show 20 + 8 * (k + 1) = (20 + 8 * k) + 8 by omega, Nat.pow_add]
  have := h.a
  have : 2 ^ 20 ≤ 2 ^ (20 + 8 * k) := Nat.pow_le_pow_right (by decide) (by omega)
  have : (2 : Nat) ^ 20 = 1048576 := by decide
  rw [e]
  omega
theorem stepJ_pb {k i : Nat} {w : List F} {p : F} {rs : List F} (hw : ∀ q ∈ w, Pb k q) (hp : S3 p) (hr : ∀ r ∈ rs, S3 r) : ∀ j, i + j ≤ w.length → ∀ q ∈ stepJ w i p rs j, Pb (k + j) q
  | 0, _ => hw
  | j + 1, h => fun q hq => by
    have ih := stepJ_pb (i := i) hw hp hr j (by omega)
    have l := stepJ_len w i p rs j
    rcases List.mem_or_eq_of_mem_set hq with m | rfl
    · exact (ih q m).mono (by omega)
    · exact (ih _ (co_mem (by omega))).step hp (co_all hr S3.zero j)
theorem stepI_pb {k : Nat} {w qs rs : List F} (hw : ∀ q ∈ w, Pb k q) (hp : ∀ q ∈ qs, S3 q) (hr : ∀ r ∈ rs, S3 r) : ∀ i, i + rs.length ≤ w.length + 1 → ∀ q ∈ stepI w qs rs i, Pb (k + i * rs.length) q
  | 0, _ => by
    rw [Nat.zero_mul]
    exact hw
  | i + 1, h => fun q hq => by
    have ih := stepI_pb (qs := qs) hw hp hr i (by omega)
    have l := stepI_len w qs rs i
    have := stepJ_pb (i := i) ih (co_all hp S3.zero i) hr rs.length (by omega) q hq
    rw [Nat.succ_mul, ← Nat.add_assoc]
    exact this
theorem rep_pb (n : Nat) : ∀ q ∈ List.replicate n ((0, 1) : F), Pb 0 q := fun q h => by
  rw [(List.mem_replicate.mp h).2]
  exact Pb.zero
/-! ### worths -/
def hor (m : F) : List F → F
  | [] => (0, 1)
  | c :: cs => add (mul (hor m cs) m) c
def wat (m : F) : List Int → Int × Int
  | [] => (0, 1)
  | v :: vs => ((wat m vs).1 * m.1 + v * (wat m vs).2, (wat m vs).2 * m.2)
/-- each is g times the integer, divided by B -/
inductive HV (g B : Int) : List F → List Int → Prop
  | nil : HV g B [] []
  | cons {q : F} {qs : List F} {v : Int} {vs : List Int} : Fq.Ok q → Vl q (g * v) B → HV g B qs vs → HV g B (q :: qs) (v :: vs)
theorem HV.len {g B : Int} {qs : List F} {vs : List Int} (h : HV g B qs vs) : qs.length = vs.length := by
  induction h with
  | nil => rfl
  | cons _ _ _ ih => rw [List.length_cons, List.length_cons, ih]
theorem wat_pow (m : F) : ∀ vs : List Int, (wat m vs).2 = m.2 ^ vs.length
  | [] => by rw [List.length_nil, Int.pow_zero]; rfl
  | v :: vs => by
    show (wat m vs).2 * m.2 = _
    rw [wat_pow m vs, List.length_cons, Int.pow_succ]
theorem hor_vl {m : F} (hm : 0 < m.2) {g B : Int} (hB : 0 < B) {qs : List F} {vs : List Int} (h : HV g B qs vs) :
    Fq.Ok (hor m qs) ∧ Vl (hor m qs) (g * (wat m vs).1 * m.2) (B * (wat m vs).2) ∧ 0 < (wat m vs).2 := by
  induction h with
  | nil => exact ⟨ok01, by show (0 : Int) * _ = g * 0 * m.2 * 1; rw [Int.mul_zero, Int.zero_mul, Int.zero_mul, Int.zero_mul], Int.zero_lt_one⟩
  | cons o hv h ih =>
    rename_i q qs v vs
    obtain ⟨i1, i2, i3⟩ := ih
    have om := ok_mul' i1.1 hm
    refine ⟨ok_add' om.1 o.1, ?_, Int.mul_pos i3 hm⟩
    have t := vl_add om.1 o.1 (vl_mul i1.1 hm i2 (vl_self m)) hv
    show Vl (add (mul (hor m qs) m) q) (g * ((wat m vs).1 * m.1 + v * (wat m vs).2) * m.2) (B * ((wat m vs).2 * m.2))
    generalize add (mul (hor m qs) m) q = s at *
    generalize (wat m vs).1 = W at *
    generalize (wat m vs).2 = b at *
    unfold Vl at *
    refine mul_cancel (m := B) (by omega) ?_
    have e : s.1 * (B * (b * m.2)) * B = s.1 * (B * b * m.2 * B) := by grind
    rw [e, t]
    grind
theorem worth_eq {m : F} (hm : 0 < m.2) {g B : Int} (hB : 0 < B) {qs : List F} {vs : List Int} (h : HV g B qs vs) :
    mul (red g B) (red (wat m vs).1 (m.2 ^ (vs.length - 1))) = hor m qs := by
  obtain ⟨i1, i2, i3⟩ := hor_vl hm hB h
  have hp : 0 < m.2 ^ (vs.length - 1) := Int.pow_pos hm
  have o1 := red_ok (a := g) hB
  have o2 := red_ok (a := (wat m vs).1) hp
  have t := vl_mul o1.1 o2.1 (vl_red hB) (vl_red hp)
  refine vl_uniq (ok_mul' o1.1 o2.1) i1 (Int.ne_of_gt (Int.mul_pos hB i3)) ?_ i2
  cases vs with
  | nil =>
    have e : (wat m []).1 = 0 := rfl
    have e2 : (wat m []).2 = 1 := rfl
    rw [e] at t ⊢
    rw [e2]
    have e3 : m.2 ^ (([] : List Int).length - 1) = 1 := by rw [List.length_nil, Nat.zero_sub, Int.pow_zero]
    rw [e3] at t ⊢
    rw [Int.mul_zero] at t ⊢
    rw [Int.zero_mul]
    exact t
  | cons v vs =>
    have e : m.2 ^ ((v :: vs).length - 1) * m.2 = (wat m (v :: vs)).2 := by
      rw [wat_pow, List.length_cons, Nat.add_sub_cancel, Int.pow_succ]
    have t2 := vl_times m.2 t
    rw [Int.mul_assoc B, e] at t2
    exact t2
end Rs
namespace Rs
open Fq
theorem hv6 : ∀ {qs : List F}, (∀ q ∈ qs, S3 q) → HV 1 6 qs (qs.map fun q => q.1 * (6 / q.2))
  | [], _ => .nil
  | q :: qs, h => by
    have s := h q List.mem_cons_self
    refine .cons s.ok ?_ (hv6 fun r hr => h r (List.mem_cons_of_mem _ hr))
    show q.1 * 6 = 1 * (q.1 * (6 / q.2)) * q.2
    rw [Int.one_mul, Int.mul_assoc, Int.ediv_mul_cancel s.d6]
theorem pow3 {m : F} (hm : S3 m) (k : Nat) : 0 < m.2 ^ k ∧ m.2 ^ k ≤ 3 ^ k := by
  refine ⟨Int.pow_pos hm.ok.1, ?_⟩
  induction k with
  | zero => simp
  | succ k ih =>
    have := hm.ok.1
    have := hm.b
    rw [Int.pow_succ, Int.pow_succ]
    exact Int.mul_le_mul ih hm.b (by omega) (Int.le_of_lt (Int.pow_pos (by decide)))
theorem pow3_le {k : Nat} (h : k ≤ 6) : (3 : Int) ^ k ≤ 729 := by
  have : ∀ k, k < 7 → (3 : Int) ^ k ≤ 729 := by decide
  exact this k (by omega)
theorem hor_ok {m : F} (hm : S3 m) {qs : List F} (h : ∀ q ∈ qs, S3 q) : Fq.Ok (hor m qs) ∧ (hor m qs).2 ≤ 6 * 3 ^ qs.length := by
  obtain ⟨o, v, p⟩ := hor_vl hm.ok.1 (g := 1) (B := 6) (by decide) (hv6 h)
  refine ⟨o, ?_⟩
  have d := vl_dvd o v
  have hp : 0 < 6 * (wat m (qs.map fun q => q.1 * (6 / q.2))).2 := Int.mul_pos (by decide) p
  have l := Int.le_of_dvd hp d
  rw [wat_pow, List.length_map] at l
  have := (pow3 hm qs.length).2
  omega
theorem hor_num {m : F} (hm : S3 m) : ∀ {qs : List F}, (∀ q ∈ qs, S3 q) → qs.length ≤ 6 → (hor m qs).1.natAbs < 2 ^ (20 + 12 * qs.length)
  | [], _, _ => by
    show (0 : Nat) < _
    exact Nat.pow_pos (by decide)
  | c :: cs, h, l => by
    have hc := h c List.mem_cons_self
    have hs : ∀ q ∈ cs, S3 q := fun r hr => h r (List.mem_cons_of_mem _ hr)
    simp only [List.length_cons] at l ⊢
    have ih := hor_num hm hs (by omega)
    obtain ⟨o, d⟩ := hor_ok hm hs
    show (add (mul (hor m cs) m) c).1.natAbs < _
    generalize hor m cs = q at *
    have mp := Int.mul_pos o.1 hm.ok.1
    have om := ok_mul' o.1 hm.ok.1
    have t1 : (mul q m).1.natAbs ≤ q.1.natAbs * 16 := by
      refine Nat.le_trans (red_top mp) ?_
      rw [Int.natAbs_mul]
      exact Nat.mul_le_mul (Nat.le_refl _) (by have := hm.a; omega)
    have t2 : (mul q m).2 ≤ q.2 * m.2 := Int.le_of_dvd mp (vl_dvd om (vl_mul o.1 hm.ok.1 (vl_self q) (vl_self m)))
    have t3 : q.2 * m.2 ≤ 4374 * 3 := by
      have := pow3_le (k := cs.length) (by omega)
      exact Int.mul_le_mul (by omega) hm.b (by have := hm.ok.1; omega) (by decide)
    refine Nat.lt_of_le_of_lt (red_top (Int.mul_pos om.1 hc.ok.1)) ?_
    have p1 := om.1
    have p2 := hc.ok.1
    have b2 := hc.b
    have := Int.natAbs_add_le ((mul q m).1 * c.2) (c.1 * (mul q m).2)
    rw [Int.natAbs_mul, Int.natAbs_mul] at this
    have m1 : (mul q m).1.natAbs * c.2.natAbs ≤ (q.1.natAbs * 16) * 3 := Nat.mul_le_mul t1 (by omega)
    have m2 : c.1.natAbs * (mul q m).2.natAbs ≤ 15 * 13122 := Nat.mul_le_mul (by have := hc.a; omega) (by omega)
    have e : 2 ^ (20 + 12 * (cs.length + 1)) = 2 ^ (20 + 12 * cs.length) * 4096 := by
      rw [show 20 + 12 * (cs.length + 1) = (20 + 12 * cs.length) + 12 by omega, Nat.pow_add]
    have : 2 ^ 20 ≤ 2 ^ (20 + 12 * cs.length) := Nat.pow_le_pow_right (by decide) (by omega)
    have : (2 : Nat) ^ 20 = 1048576 := by decide
    rw [e]
    omega
/-! ### the common bottom, the common divisor -/
def botN (qs : List F) : Nat → Int
  | 0 => 1
  | i + 1 => botN qs i / gI (botN qs i) (co qs i).2 * (co qs i).2
def B6 (b : Int) : Prop := b = 1 ∨ b = 2 ∨ b = 3 ∨ b = 6
theorem bot_step {b d : Int} (hb : B6 b) (hd : d = 1 ∨ d = 2 ∨ d = 3) : B6 (b / gI b d * d) ∧ b ∣ b / gI b d * d ∧ d ∣ b / gI b d * d := by
  unfold B6
  rcases hb with rfl | rfl | rfl | rfl <;> rcases hd with rfl | rfl | rfl <;> decide
theorem botN_ok {qs : List F} (h : ∀ q ∈ qs, S3 q) : ∀ i, B6 (botN qs i) ∧ ∀ k, k < i → (co qs k).2 ∣ botN qs i
  | 0 => ⟨.inl rfl, fun k hk => absurd hk (by omega)⟩
  | i + 1 => by
    obtain ⟨a, b⟩ := botN_ok h i
    obtain ⟨c, d, e⟩ := bot_step a (co_all h S3.zero i).cases
    refine ⟨c, fun k hk => ?_⟩
    by_cases z : k = i
    · rw [z]
      exact e
    · exact Int.dvd_trans (b k (by omega)) d
theorem B6.pos {b : Int} (h : B6 b) : 0 < b ∧ b ≤ 6 := by unfold B6 at h; omega
def wholeL (B : Int) (qs : List F) : List Int := qs.map fun q => q.1 * (B / q.2)
def cmN (ws : List Int) : Nat → Int
  | 0 => 0
  | i + 1 => gI (cmN ws i) (ws.getD i 0)
theorem gI_lt {a b : Int} {n : Nat} (h1 : a.natAbs < n) (h2 : b.natAbs < n) : 0 ≤ gI a b ∧ (gI a b).natAbs < n := by
  unfold gI
  refine ⟨Int.natCast_nonneg _, ?_⟩
  rw [Int.natAbs_natCast]
  by_cases z : b.natAbs = 0
  · rw [z, Nat.gcd_zero_right]
    exact h1
  · exact Nat.lt_of_le_of_lt (Nat.gcd_le_right _ (by omega)) h2
theorem getD_mem {ws : List Int} {P : Int → Prop} (h : ∀ w ∈ ws, P w) (h0 : P 0) (k : Nat) : P (ws.getD k 0) := by
  rw [List.getD_eq_getElem?_getD]
  cases e : ws[k]? with
  | none => exact h0
  | some w => exact h w (List.mem_of_getElem? e)
theorem cmN_ok {ws : List Int} (h : ∀ w ∈ ws, w.natAbs < 128) : ∀ i, 0 ≤ cmN ws i ∧ (cmN ws i).natAbs < 128 ∧ ∀ k, k < i → cmN ws i ∣ ws.getD k 0
  | 0 => ⟨Int.le_refl _, (by show (0 : Int).natAbs < 128; decide), fun k hk => absurd hk (by omega)⟩
  | i + 1 => by
    obtain ⟨a, b, c⟩ := cmN_ok h i
    obtain ⟨d, e⟩ := gI_lt b (getD_mem (P := fun w => w.natAbs < 128) h (by decide) i)
    refine ⟨d, e, fun k hk => ?_⟩
    by_cases z : k = i
    · rw [z]
      exact gI_dvd_r _ _
    · exact Int.dvd_trans (gI_dvd_l _ _) (c k (by omega))
def gg (c : Int) : Int := if (1 : Int) > c then 1 else c
theorem gg_ok {ws : List Int} (h : ∀ w ∈ ws, w.natAbs < 128) : 0 < gg (cmN ws ws.length) ∧ (gg (cmN ws ws.length)).natAbs < 128 ∧ ∀ w ∈ ws, gg (cmN ws ws.length) ∣ w := by
  obtain ⟨a, b, c⟩ := cmN_ok h ws.length
  unfold gg
  split
  · exact ⟨by decide, by decide, fun w _ => Int.one_dvd w⟩
  · refine ⟨by omega, b, fun w hw => ?_⟩
    obtain ⟨k, hk, e⟩ := List.getElem_of_mem hw
    have := c k hk
    rw [List.getD_eq_getElem?_getD, List.getElem?_eq_getElem hk] at this
    rw [← e]
    exact this
theorem whole_lt {B : Int} {qs : List F} (hB : B6 B) (h : ∀ q ∈ qs, S3 q) (hd : ∀ q ∈ qs, q.2 ∣ B) : ∀ w ∈ wholeL B qs, w.natAbs < 128 := by
  intro w hw
  obtain ⟨q, hq, rfl⟩ := List.mem_map.mp hw
  have s := h q hq
  have l : B / q.2 ≤ 6 ∧ 0 ≤ B / q.2 := by
    have := hB.pos
    rcases s.cases with e | e | e <;> rw [e] <;> omega
  rw [Int.natAbs_mul]
  have := s.a
  have : q.1.natAbs * (B / q.2).natAbs ≤ 15 * 6 := Nat.mul_le_mul (by omega) (by omega)
  omega
theorem hv_of {B g : Int} : ∀ {qs : List F}, (∀ q ∈ qs, S3 q) → (∀ q ∈ qs, q.2 ∣ B) → (∀ w ∈ wholeL B qs, g ∣ w) → HV g B qs ((wholeL B qs).map (· / g))
  | [], _, _, _ => .nil
  | q :: qs, h, hd, hg => by
    refine .cons (h q List.mem_cons_self).ok ?_ (hv_of (fun r hr => h r (List.mem_cons_of_mem _ hr)) (fun r hr => hd r (List.mem_cons_of_mem _ hr)) (fun w hw => hg w (List.mem_cons_of_mem _ hw)))
    show q.1 * B = g * (q.1 * (B / q.2) / g) * q.2
    rw [Int.mul_ediv_cancel' (hg _ List.mem_cons_self), Int.mul_assoc, Int.ediv_mul_cancel (hd q List.mem_cons_self)]
theorem wat_num {m : F} (hm : S3 m) : ∀ {vs : List Int}, (∀ v ∈ vs, v.natAbs < 128) → vs.length ≤ 6 → (wat m vs).1.natAbs < 2 ^ (20 + 8 * vs.length) ∧ 0 < (wat m vs).2 ∧ (wat m vs).2 ≤ 729
  | [], _, _ => ⟨by show (0 : Nat) < _; exact Nat.pow_pos (by decide), Int.zero_lt_one, (by show (1 : Int) ≤ 729; decide)⟩
  | v :: vs, h, l => by
    have hv := h v List.mem_cons_self
    simp only [List.length_cons] at l
    obtain ⟨i1, i2, i3⟩ := wat_num hm (vs := vs) (fun r hr => h r (List.mem_cons_of_mem _ hr)) (by omega)
    refine ⟨?_, ?_, ?_⟩
    · show ((wat m vs).1 * m.1 + v * (wat m vs).2).natAbs < 2 ^ (20 + 8 * (vs.length + 1))
      have := Int.natAbs_add_le ((wat m vs).1 * m.1) (v * (wat m vs).2)
      rw [Int.natAbs_mul, Int.natAbs_mul] at this
      have m1 : (wat m vs).1.natAbs * m.1.natAbs ≤ (wat m vs).1.natAbs * 16 := Nat.mul_le_mul (Nat.le_refl _) (by have := hm.a; omega)
      have m2 : v.natAbs * (wat m vs).2.natAbs ≤ 127 * 729 := Nat.mul_le_mul (by omega) (by omega)
      have e : 2 ^ (20 + 8 * (vs.length + 1)) = 2 ^ (20 + 8 * vs.length) * 256 := by
        rw [show 20 + 8 * (vs.length + 1) = (20 + 8 * vs.length) + 8 by omega, Nat.pow_add]
      have : 2 ^ 20 ≤ 2 ^ (20 + 8 * vs.length) := Nat.pow_le_pow_right (by decide) (by omega)
      have : (2 : Nat) ^ 20 = 1048576 := by decide
      rw [e]
      omega
    · rw [wat_pow]
      exact (pow3 hm _).1
    · rw [wat_pow]
      have := (pow3 hm (v :: vs).length).2
      have := pow3_le (k := (v :: vs).length) (by rw [List.length_cons]; omega)
      omega
theorem div_lt {ws : List Int} {g : Int} (h : ∀ w ∈ ws, w.natAbs < 128) : ∀ v ∈ ws.map (· / g), v.natAbs < 128 := by
  intro v hv
  obtain ⟨w, hw, rfl⟩ := List.mem_map.mp hv
  exact Nat.lt_of_le_of_lt (Int.natAbs_ediv_le_natAbs w g) (h w hw)
end Rs


set_option linter.all false
set_option maxRecDepth 100000
set_option maxHeartbeats 400000
namespace Fq
/-! ### the worth of a fraction -/
def val (q : F) : Rat := (q.1 : Rat) / (q.2 : Rat)
theorem ne0 {b : Int} (h : 0 < b) : (b : Rat) ≠ 0 := by exact_mod_cast (by omega : b ≠ 0)
theorem val_vl {q : F} {a b : Int} (hq : 0 < q.2) (hb : 0 < b) (h : Vl q a b) : val q = (a : Rat) / (b : Rat) := by
  have h1 := ne0 hq
  have h2 := ne0 hb
  unfold Vl at h
  have h3 : (q.1 : Rat) * (b : Rat) = (a : Rat) * (q.2 : Rat) := by
    rw [← Rat.intCast_mul, ← Rat.intCast_mul, h]
  unfold val
  grind
theorem val_add {q r : F} (hq : 0 < q.2) (hr : 0 < r.2) : val (add q r) = val q + val r := by
  have o := ok_add' hq hr
  have v := vl_add hq hr (vl_self q) (vl_self r)
  rw [val_vl o.1 (Int.mul_pos hq hr) v]
  have h1 := ne0 hq
  have h2 := ne0 hr
  unfold val
  rw [Rat.intCast_add, Rat.intCast_mul, Rat.intCast_mul, Rat.intCast_mul]
  grind
theorem val_red {a b : Int} (h : 0 < b) : val (red a b) = (a : Rat) / (b : Rat) := val_vl (red_ok h).1 h (vl_red h)
theorem val_sub {q r : F} (hq : 0 < q.2) (hr : 0 < r.2) : val (sub q r) = val q - val r := by
  show val (red _ _) = _
  rw [val_red (Int.mul_pos hq hr)]
  have h1 := ne0 hq
  have h2 := ne0 hr
  unfold val
  rw [Rat.intCast_sub, Rat.intCast_mul, Rat.intCast_mul, Rat.intCast_mul]
  grind
theorem val_mul {q r : F} (hq : 0 < q.2) (hr : 0 < r.2) : val (mul q r) = val q * val r := by
  show val (red _ _) = _
  rw [val_red (Int.mul_pos hq hr)]
  have h1 := ne0 hq
  have h2 := ne0 hr
  unfold val
  rw [Rat.intCast_mul, Rat.intCast_mul]
  grind
theorem val_zero : val (0, 1) = 0 := by
  unfold val
  simp
  grind
theorem val_one : val (1, 1) = 1 := by
  unfold val
  simp
  grind
theorem val_inj {q r : F} (o : Ok q) (o' : Ok r) (h : val q = val r) : q = r := by
  refine vl_uniq (a := r.1) (b := r.2) o o' (by have := o'.1; omega) ?_ rfl
  have h1 := ne0 o.1
  have h2 := ne0 o'.1
  have h3 : (q.1 : Rat) * (r.2 : Rat) = (r.1 : Rat) * (q.2 : Rat) := by
    unfold val at h
    grind
  show q.1 * r.2 = r.1 * q.2
  rw [← Rat.intCast_mul, ← Rat.intCast_mul] at h3
  exact_mod_cast h3
/-! ### sums of n -/
def sm (f : Nat → Rat) : Nat → Rat
  | 0 => 0
  | n + 1 => sm f n + f n
theorem sm_congr {f g : Nat → Rat} : ∀ {n : Nat}, (∀ i, i < n → f i = g i) → sm f n = sm g n
  | 0, _ => rfl
  | n + 1, h => by
    show sm f n + f n = sm g n + g n
    rw [sm_congr (fun i hi => h i (by omega)), h n (by omega)]
theorem sm_zero {f : Nat → Rat} {n : Nat} (h : ∀ i, i < n → f i = 0) : sm f n = 0 := by
  rw [sm_congr h]
  induction n with
  | zero => rfl
  | succ n ih =>
    show sm (fun _ => 0) n + 0 = 0
    rw [ih (fun i hi => h i (by omega))]
    grind
theorem sm_sub (f g : Nat → Rat) : ∀ n, sm (fun i => f i - g i) n = sm f n - sm g n
  | 0 => by show (0 : Rat) = 0 - 0; grind
  | n + 1 => by
    show sm _ n + _ = (sm f n + f n) - (sm g n + g n)
    rw [sm_sub f g n]
    grind
theorem sm_mul (c : Rat) (f : Nat → Rat) : ∀ n, sm (fun i => c * f i) n = c * sm f n
  | 0 => by show (0 : Rat) = c * 0; grind
  | n + 1 => by
    show sm _ n + _ = c * (sm f n + f n)
    rw [sm_mul c f n]
    grind
theorem sm_left (f : Nat → Rat) : ∀ n, sm f (n + 1) = f 0 + sm (fun i => f (i + 1)) n
  | 0 => by show (0 : Rat) + f 0 = f 0 + 0; grind
  | n + 1 => by
    show sm f (n + 1) + f (n + 1) = f 0 + (sm _ n + f (n + 1))
    rw [sm_left f n]
    grind
theorem sm_more {f : Nat → Rat} {n : Nat} (h : ∀ i, n ≤ i → f i = 0) : ∀ d, sm f (n + d) = sm f n
  | 0 => rfl
  | d + 1 => by
    show sm f (n + d) + f (n + d) = _
    rw [sm_more h d, h _ (by omega)]
    grind
/-! ### one step of the ways, in worths -/
def J (A B : Nat → Rat) (s : Nat → Rat) : Nat → Rat := fun h => (if h = 0 then 0 else s (h - 1)) + A h * s h + B h * s (h + 1)
def Jn (A B : Nat → Rat) : Nat → (Nat → Rat) → Nat → Rat
  | 0, u => u
  | n + 1, u => J A B (Jn A B n u)
theorem Jn_in (A B : Nat → Rat) (u : Nat → Rat) : ∀ n, Jn A B n (J A B u) = Jn A B (n + 1) u
  | 0 => rfl
  | n + 1 => by
    show J A B (Jn A B n (J A B u)) = J A B (Jn A B (n + 1) u)
    rw [Jn_in A B u n]
theorem Jn_add (A B : Nat → Rat) (u : Nat → Rat) (j : Nat) : ∀ i, Jn A B (i + j) u = Jn A B i (Jn A B j u)
  | 0 => by rw [Nat.zero_add]; rfl
  | i + 1 => by
    rw [show i + 1 + j = (i + j) + 1 by omega]
    show J A B (Jn A B (i + j) u) = J A B (Jn A B i (Jn A B j u))
    rw [Jn_add A B u j i]
theorem J_sm (A B : Nat → Rat) (c : Nat → Rat) (g : Nat → Nat → Rat) : ∀ n, J A B (fun h => sm (fun i => c i * g i h) n) = fun h => sm (fun i => c i * J A B (g i) h) n
  | 0 => by
    funext h
    show (if h = 0 then (0 : Rat) else 0) + A h * 0 + B h * 0 = 0
    split <;> grind
  | n + 1 => by
    funext h
    have ih := congrFun (J_sm A B c g n) h
    show _ = sm _ n + c n * J A B (g n) h
    rw [← ih]
    unfold J
    show (if h = 0 then (0 : Rat) else sm _ n + _) + A h * (sm _ n + _) + B h * (sm _ n + _) = _
    split <;> grind
theorem Jn_sm (A B : Nat → Rat) (c : Nat → Rat) (g : Nat → Nat → Rat) (n : Nat) : ∀ m, Jn A B m (fun h => sm (fun i => c i * g i h) n) = fun h => sm (fun i => c i * Jn A B m (g i) h) n
  | 0 => rfl
  | m + 1 => by
    show J A B (Jn A B m _) = _
    rw [Jn_sm A B c g n m, J_sm]
    rfl
/-- the standard functions -/
def ek (k : Nat) : Nat → Rat := fun h => if h = k then 1 else 0
theorem J_ek (A B : Nat → Rat) (k : Nat) : J A B (ek k) = fun h => ek (k + 1) h + A k * ek k h + (if k = 0 then 0 else B (k - 1) * ek (k - 1) h) := by
  funext h
  unfold J ek
  by_cases h0 : h = 0
  · subst h0
    by_cases k0 : k = 0
    · subst k0
      simp
    · by_cases k1 : k = 1
      · subst k1
        simp
      · simp
        have : ¬ (0 = k) := by omega
        have : ¬ (0 = k - 1) := by omega
        have : ¬ (1 = k) := by omega
        grind
  · by_cases e1 : h = k + 1
    · subst e1
      simp
      have : ¬ (k + 1 = k - 1) := by omega
      grind
    · by_cases e2 : h = k
      · subst e2
        have : ¬ (h - 1 = h) := by omega
        have : ¬ (h = h - 1) := by omega
        simp
        grind
      · by_cases e3 : h + 1 = k
        · subst e3
          simp
          grind
        · have : ¬ (h - 1 = k) := by omega
          have : ¬ (h = k - 1) := by omega
          grind
/-! ### the polynomials by the rule of three terms: their coefficients in worths -/
def pc (A B : Nat → Rat) : Nat → Nat → Rat
  | 0 => fun i => if i = 0 then 1 else 0
  | 1 => fun i => (if i = 0 then 0 else if i = 1 then 1 else 0) - A 0 * (if i = 0 then 1 else 0)
  | k + 2 => fun i => (if i = 0 then 0 else pc A B (k + 1) (i - 1)) - A (k + 1) * pc A B (k + 1) i - B k * pc A B k i
theorem pc_hi (A B : Nat → Rat) : ∀ k i, k < i → pc A B k i = 0
  | 0, i, h => by
    show (if i = 0 then (1 : Rat) else 0) = 0
    rw [if_neg (by omega)]
  | 1, i, h => by
    show (if i = 0 then (0 : Rat) else if i = 1 then 1 else 0) - A 0 * (if i = 0 then 1 else 0) = 0
    rw [if_neg (by omega), if_neg (by omega), if_neg (by omega)]
    grind
  | k + 2, i, h => by
    show (if i = 0 then (0 : Rat) else pc A B (k + 1) (i - 1)) - A (k + 1) * pc A B (k + 1) i - B k * pc A B k i = 0
    rw [if_neg (by omega), pc_hi A B (k + 1) _ (by omega), pc_hi A B (k + 1) i (by omega), pc_hi A B k i (by omega)]
    grind
/-- a polynomial at J, on u -/
def ev (A B : Nat → Rat) (c : Nat → Rat) (n : Nat) (u : Nat → Rat) : Nat → Rat := fun h => sm (fun i => c i * Jn A B i u h) n
theorem ev_more {A B c : Nat → Rat} {n : Nat} (h : ∀ i, n ≤ i → c i = 0) (u : Nat → Rat) (d : Nat) : ev A B c (n + d) u = ev A B c n u := by
  funext x
  refine sm_more (fun i hi => ?_) d
  rw [h i hi]
  grind
theorem ev_pc2 (A B : Nat → Rat) (k : Nat) (u : Nat → Rat) : ev A B (pc A B (k + 2)) (k + 3) u = fun h => ev A B (pc A B (k + 1)) (k + 2) (J A B u) h - A (k + 1) * ev A B (pc A B (k + 1)) (k + 2) u h - B k * ev A B (pc A B k) (k + 1) u h := by
  funext h
  have e1 : sm (fun i => pc A B (k + 1) i * Jn A B i u h) (k + 3) = ev A B (pc A B (k + 1)) (k + 2) u h :=
    congrFun (ev_more (n := k + 2) (fun i hi => pc_hi A B _ _ (by omega)) u 1) h
  have e2 : sm (fun i => pc A B k i * Jn A B i u h) (k + 3) = ev A B (pc A B k) (k + 1) u h :=
    congrFun (ev_more (n := k + 1) (fun i hi => pc_hi A B _ _ (by omega)) u 2) h
  have e3 : sm (fun i => (if i = 0 then 0 else pc A B (k + 1) (i - 1)) * Jn A B i u h) (k + 3) = ev A B (pc A B (k + 1)) (k + 2) (J A B u) h := by
    rw [sm_left]
    show (if 0 = 0 then (0 : Rat) else _) * _ + _ = _
    rw [if_pos rfl]
    have : sm (fun i => (if i + 1 = 0 then 0 else pc A B (k + 1) (i + 1 - 1)) * Jn A B (i + 1) u h) (k + 2) = ev A B (pc A B (k + 1)) (k + 2) (J A B u) h := by
      refine sm_congr fun i hi => ?_
      rw [if_neg (by omega), Nat.add_sub_cancel, ← Jn_in]
    rw [this]
    grind
  rw [← e1, ← e2, ← e3, ← sm_mul, ← sm_mul, ← sm_sub, ← sm_sub]
  refine sm_congr fun i hi => ?_
  show ((if i = 0 then (0 : Rat) else pc A B (k + 1) (i - 1)) - A (k + 1) * pc A B (k + 1) i - B k * pc A B k i) * Jn A B i u h = _
  grind
theorem ev_pc0 (A B : Nat → Rat) (u : Nat → Rat) : ev A B (pc A B 0) 1 u = u := by
  funext h
  show (0 : Rat) + (if 0 = 0 then 1 else 0) * u h = u h
  rw [if_pos rfl]
  grind
theorem ev_pc1 (A B : Nat → Rat) (u : Nat → Rat) : ev A B (pc A B 1) 2 u = fun h => J A B u h - A 0 * u h := by
  funext h
  show ((0 : Rat) + ((if 0 = 0 then 0 else _) - A 0 * (if 0 = 0 then 1 else 0)) * u h) + ((if 1 = 0 then (0 : Rat) else if 1 = 1 then 1 else 0) - A 0 * (if 1 = 0 then 1 else 0)) * J A B u h = _
  rw [if_pos rfl, if_pos rfl, if_neg (by decide), if_pos rfl, if_neg (by decide)]
  grind
/-- a polynomial at J commutes with J -/
theorem ev_J (A B c : Nat → Rat) (n : Nat) (u : Nat → Rat) : ev A B c n (J A B u) = J A B (ev A B c n u) := by
  show _ = J A B (fun h => sm (fun i => c i * Jn A B i u h) n)
  rw [J_sm]
  funext h
  refine sm_congr fun i _ => ?_
  rw [Jn_in]
  rfl
theorem up2 {f : Nat → Prop} (h0 : f 0) (h1 : f 1) (h : ∀ k, f k → f (k + 1) → f (k + 2)) : ∀ k, f k := by
  have : ∀ k, f k ∧ f (k + 1) := by
    intro k
    induction k with
    | zero => exact ⟨h0, h1⟩
    | succ k ih => exact ⟨ih.2, h k ih.1 ih.2⟩
  exact fun k => (this k).1
/-- the k-th polynomial takes the first function to the k-th -/
theorem favard1 (A B : Nat → Rat) : ∀ k, ev A B (pc A B k) (k + 1) (ek 0) = ek k := by
  refine up2 (ev_pc0 A B _) ?_ fun k h1 h2 => ?_
  · rw [ev_pc1, J_ek]
    funext h
    show ek 1 h + A 0 * ek 0 h + (if 0 = 0 then 0 else _) - A 0 * ek 0 h = ek 1 h
    rw [if_pos rfl]
    grind
  · rw [ev_pc2, ev_J, h1, h2, J_ek]
    funext h
    show ek (k + 1 + 1) h + A (k + 1) * ek (k + 1) h + (if k + 1 = 0 then 0 else B (k + 1 - 1) * ek (k + 1 - 1) h) - A (k + 1) * ek (k + 1) h - B k * ek k h = ek (k + 2) h
    rw [if_neg (by omega), Nat.add_sub_cancel]
    grind
/-- the product of the first k steps -/
def pB (B : Nat → Rat) : Nat → Rat
  | 0 => 1
  | k + 1 => pB B k * B k
theorem favard2 (A B : Nat → Rat) : ∀ k, ∀ u : Nat → Rat, ev A B (pc A B k) (k + 1) u 0 = pB B k * u k := by
  refine up2 (fun u => ?_) (fun u => ?_) fun k h1 h2 u => ?_
  · rw [ev_pc0]
    show u 0 = 1 * u 0
    grind
  · rw [ev_pc1]
    show (if 0 = 0 then (0 : Rat) else _) + A 0 * u 0 + B 0 * u 1 - A 0 * u 0 = 1 * B 0 * u 1
    rw [if_pos rfl]
    grind
  · rw [ev_pc2]
    show ev A B (pc A B (k + 1)) (k + 2) (J A B u) 0 - A (k + 1) * ev A B (pc A B (k + 1)) (k + 2) u 0 - B k * ev A B (pc A B k) (k + 1) u 0 = _
    rw [h2, h2, h1]
    show pB B (k + 1) * ((if k + 1 = 0 then (0 : Rat) else u (k + 1 - 1)) + A (k + 1) * u (k + 1) + B (k + 1) * u (k + 1 + 1)) - _ - _ = pB B (k + 1) * B (k + 1) * u (k + 2)
    rw [if_neg (by omega), Nat.add_sub_cancel]
    show pB B k * B k * _ - A (k + 1) * (pB B k * B k * u (k + 1)) - _ = pB B k * B k * B (k + 1) * u (k + 2)
    grind
/-- an ended ladder: above the end nothing comes back -/
theorem ended_zero (A B : Nat → Rat) {m : Nat} (hB : B (m - 1) = 0) (hm : 0 < m) : ∀ k h, h < m → Jn A B k (ek m) h = 0
  | 0, h, hh => by
    show (if h = m then (1 : Rat) else 0) = 0
    rw [if_neg (by omega)]
  | k + 1, h, hh => by
    show (if h = 0 then (0 : Rat) else Jn A B k (ek m) (h - 1)) + A h * Jn A B k (ek m) h + B h * Jn A B k (ek m) (h + 1) = 0
    rw [ended_zero A B hB hm k h hh]
    have e : B h * Jn A B k (ek m) (h + 1) = 0 := by
      by_cases c : h + 1 < m
      · rw [ended_zero A B hB hm k (h + 1) c]
        grind
      · rw [show h = m - 1 by omega, hB]
        grind
    rw [e]
    split
    · grind
    · rw [ended_zero A B hB hm k (h - 1) (by omega)]
      grind
end Fq


set_option linter.all false
set_option maxRecDepth 100000
set_option maxHeartbeats 400000
namespace Fq
open Rs (co co_get co_lt co_ge co_mem co_all)
/-! ### sizes: over 6^n, at most 2^(9n) -/
structure Zs (n : Nat) (q : F) : Prop where
  ok : Ok q
  v : ∃ t : Int, Vl q t (6 ^ n) ∧ t.natAbs ≤ 2 ^ (9 * n)
theorem six_pos (n : Nat) : (0 : Int) < 6 ^ n := Int.pow_pos (by decide)
theorem p9 (n : Nat) : 2 ^ (9 * (n + 1)) = 2 ^ (9 * n) * 512 := by
  rw [show 9 * (n + 1) = 9 * n + 9 by omega, Nat.pow_add]
theorem Zs.up {n : Nat} {q : F} (h : Zs n q) : Zs (n + 1) q := by
  obtain ⟨o, t, v, l⟩ := h
  refine ⟨o, t * 6, ?_, ?_⟩
  · rw [Int.pow_succ]
    exact vl_times 6 v
  · rw [Int.natAbs_mul, p9]
    exact Nat.mul_le_mul l (by decide)
theorem Zs.mono {n m : Nat} {q : F} (h : Zs n q) (e : n ≤ m) : Zs m q := by
  induction e with
  | refl => exact h
  | step _ ih => exact ih.up
theorem Zs.zero {n : Nat} : Zs n (0, 1) := ⟨ok01, 0, by show (0 : Int) * _ = 0 * 1; rw [Int.zero_mul, Int.zero_mul], Nat.zero_le _⟩
theorem Zs.one {n : Nat} : Zs n (1, 1) := Zs.mono (n := 0) ⟨⟨by decide, by decide⟩, 1, by show (1 : Int) * 1 = 1 * 1; rfl, by decide⟩ (Nat.zero_le n)
theorem Zs.mul {n m : Nat} {q r : F} (h : Zs n q) (g : Zs m r) : Zs (n + m) (mul q r) := by
  obtain ⟨o, t, v, l⟩ := h
  obtain ⟨o', t', v', l'⟩ := g
  refine ⟨ok_mul' o.1 o'.1, t * t', ?_, ?_⟩
  · rw [Int.pow_add]
    exact vl_mul o.1 o'.1 v v'
  · rw [Int.natAbs_mul, Nat.mul_add, Nat.pow_add]
    exact Nat.mul_le_mul l l'
theorem vl_sub {q r : F} {a b c d : Int} (hq : 0 < q.2) (hr : 0 < r.2) (h1 : Vl q a b) (h2 : Vl r c d) : Vl (sub q r) (a * d - c * b) (b * d) := by
  have hm : 0 < q.2 * r.2 := Int.mul_pos hq hr
  have v := vl_red (a := q.1 * r.2 - r.1 * q.2) hm
  unfold Vl at *
  show (red _ _).1 * _ = _ * (red _ _).2
  generalize red (q.1 * r.2 - r.1 * q.2) (q.2 * r.2) = s at *
  refine mul_cancel (m := q.2 * r.2) (by omega) ?_
  generalize q.1 = q1 at *; generalize q.2 = q2 at *; generalize r.1 = r1 at *; generalize r.2 = r2 at *; generalize s.1 = s1 at *; generalize s.2 = s2 at *
  have e : s1 * (b * d) * (q2 * r2) = (s1 * (q2 * r2)) * (b * d) := by grind
  rw [e, v]
  have e2 : (q1 * r2 - r1 * q2) * s2 * (b * d) = s2 * ((q1 * b) * r2 * d - (r1 * d) * q2 * b) := by grind
  rw [e2, h1, h2]
  grind
theorem vl_same {q : F} {x D : Int} (hD : 0 < D) (h : Vl q (x * D) (D * D)) : Vl q x D := by
  unfold Vl at *
  refine mul_cancel (m := D) (by omega) ?_
  rw [Int.mul_assoc, h]
  grind
theorem Zs.add {n : Nat} {q r : F} (h : Zs n q) (g : Zs n r) : Zs (n + 1) (add q r) := by
  obtain ⟨o, t, v, l⟩ := h
  obtain ⟨o', t', v', l'⟩ := g
  have s := vl_add o.1 o'.1 v v'
  rw [← Int.add_mul] at s
  refine ⟨ok_add' o.1 o'.1, (t + t') * 6, ?_, ?_⟩
  · rw [Int.pow_succ]
    exact vl_times 6 (vl_same (six_pos n) s)
  · have := Int.natAbs_add_le t t'
    rw [Int.natAbs_mul, p9, show (6 : Int).natAbs = 6 from rfl]
    generalize 2 ^ (9 * n) = X at *
    omega
theorem Zs.sub {n : Nat} {q r : F} (h : Zs n q) (g : Zs n r) : Zs (n + 1) (sub q r) := by
  obtain ⟨o, t, v, l⟩ := h
  obtain ⟨o', t', v', l'⟩ := g
  have s := vl_sub o.1 o'.1 v v'
  rw [← Int.sub_mul] at s
  refine ⟨ok_sub' o.1 o'.1, (t - t') * 6, ?_, ?_⟩
  · rw [Int.pow_succ]
    exact vl_times 6 (vl_same (six_pos n) s)
  · have := Int.natAbs_sub_le t t'
    rw [Int.natAbs_mul, p9, show (6 : Int).natAbs = 6 from rfl]
    generalize 2 ^ (9 * n) = X at *
    omega
/-- what the reckoning wants of a size -/
theorem Zs.small {n : Nat} {q : F} (h : Zs n q) (e : n ≤ 400) : q.1.natAbs < 2 ^ 4000 ∧ 0 < q.2 ∧ q.2.natAbs < 2 ^ 4000 := by
  obtain ⟨o, t, v, l⟩ := h
  have d := vl_dvd o v
  have p := six_pos n
  have s : q.2 ≤ 6 ^ n := Int.le_of_dvd p d
  obtain ⟨x, hx⟩ := d
  have x0 : 0 < x := by
    rw [hx] at p
    exact Int.pos_of_mul_pos_right p o.1 |> id
  have et : q.1 * x = t := by
    unfold Vl at v
    refine mul_cancel (m := q.2) (by have := o.1; omega) ?_
    rw [← v, hx]
    grind
  have b : 2 ^ (9 * n) < 2 ^ 4000 := Nat.pow_lt_pow_right (by decide) (by omega)
  have c : (6 ^ n : Nat) < 2 ^ 4000 := by
    refine Nat.lt_of_le_of_lt ?_ b
    rw [Nat.pow_mul]
    exact Nat.pow_le_pow_left (by decide) n
  refine ⟨?_, o.1, ?_⟩
  · refine Nat.lt_of_le_of_lt (Nat.le_trans ?_ l) b
    rw [← et, Int.natAbs_mul]
    exact Nat.le_mul_of_pos_right _ (by omega)
  · refine Nat.lt_of_le_of_lt ?_ c
    have e2 : ((6 ^ n : Nat) : Int) = 6 ^ n := by rw [Int.natCast_pow]; rfl
    have := o.1
    omega
/-- a small fraction: the law's levels, steps and totals -/
theorem Zs.of {q : F} (o : Ok q) (d : q.2 ∣ 6) (a : q.1.natAbs ≤ 85) : Zs 1 q := by
  obtain ⟨x, hx⟩ := d
  have x0 : 0 < x := by
    have : 0 < q.2 * x := by omega
    exact Int.pos_of_mul_pos_right this o.1 |> id
  have x6 : x ≤ 6 := by
    have := o.1
    have h1 : 1 * x ≤ q.2 * x := Int.mul_le_mul_of_nonneg_right (by omega) (by omega)
    omega
  refine ⟨o, q.1 * x, ?_, ?_⟩
  · show q.1 * 6 ^ 1 = q.1 * x * q.2
    rw [Int.pow_one, hx]
    grind
  · rw [Int.natAbs_mul]
    have : q.1.natAbs * x.natAbs ≤ 85 * 6 := Nat.mul_le_mul a (by omega)
    have : 2 ^ (9 * 1) = 512 := by decide
    omega
/-! ### lists of fractions -/
def Za (n : Nat) (l : List F) : Prop := ∀ q ∈ l, Zs n q
theorem Za.co {n : Nat} {l : List F} (h : Za n l) (k : Nat) : Zs n (Rs.co l k) := co_all h Zs.zero k
theorem Za.mono {n m : Nat} {l : List F} (h : Za n l) (e : n ≤ m) : Za m l := fun q hq => (h q hq).mono e
/-- a list of fractions by its worths -/
theorem list_eq {n m : Nat} {a b : List F} (ha : Za n a) (hb : Za m b) (hl : a.length = b.length) (h : ∀ i, i < a.length → val (co a i) = val (co b i)) : a = b := by
  refine List.ext_getElem? fun i => ?_
  by_cases c : i < a.length
  · rw [co_lt c, co_lt (hl ▸ c), val_inj (ha.co i).ok (hb.co i).ok (h i c)]
  · rw [List.getElem?_eq_none (by omega), List.getElem?_eq_none (by omega)]
theorem co_map {n : Nat} {f : Nat → F} {k : Nat} : co ((List.range n).map f) k = if k < n then f k else (0, 1) := by
  split
  · rename_i h
    refine co_get ?_
    rw [List.getElem?_map, List.getElem?_range h]
    rfl
  · rename_i h
    exact co_ge (by simp; omega)
theorem co_map1 {l : List F} {f : F → F} {k : Nat} : co (l.map f) k = if k < l.length then f (co l k) else (0, 1) := by
  split
  · rename_i h
    refine co_get ?_
    rw [List.getElem?_map, co_lt h]
    rfl
  · rename_i h
    exact co_ge (by simp; omega)
theorem trimN_co (qs : List F) : ∀ n, n ≤ qs.length → ∀ i, co (Rs.trimN qs n) i = if i < n then co qs i else (0, 1)
  | 0, _, i => by
    rw [if_neg (by omega)]
    exact co_ge (Nat.zero_le _)
  | n + 1, h, i => by
    unfold Rs.trimN
    split
    · rename_i z
      rw [trimN_co qs n (by omega)]
      by_cases c : i < n
      · rw [if_pos c, if_pos (by omega)]
      · by_cases e : i = n
        · subst e
          rw [if_neg c, if_pos (by omega), z]
        · rw [if_neg c, if_neg (by omega)]
    · split
      · rename_i c
        refine co_get ?_
        rw [List.getElem?_take_of_lt (by omega), co_lt (by omega)]
      · exact co_ge (by rw [List.length_take]; omega)
theorem trim_co (qs : List F) (i : Nat) : co (Rs.trim qs) i = co qs i := by
  unfold Rs.trim
  rw [trimN_co qs _ (Nat.le_refl _)]
  split
  · rfl
  · rw [co_ge (by omega)]
theorem trim_za {n : Nat} {l : List F} (h : Za n l) : Za n (Rs.trim l) := fun q hq => h q (Rs.trim_mem hq)
/-! ### sums -/
def sumF (z : F) (l : List F) : F := l.foldl add z
theorem sumF_snoc (z : F) (l : List F) (q : F) : sumF z (l ++ [q]) = add (sumF z l) q := by
  unfold sumF
  rw [List.foldl_append]
  rfl
theorem sum_map {n : Nat} {g : Nat → F} (h : ∀ i, Zs n (g i)) : ∀ m, Zs (n + m) (sumF (0, 1) ((List.range m).map g)) ∧ val (sumF (0, 1) ((List.range m).map g)) = sm (fun i => val (g i)) m
  | 0 => ⟨Zs.zero, val_zero⟩
  | m + 1 => by
    obtain ⟨a, b⟩ := sum_map h m
    rw [List.range_succ, List.map_append, List.map_singleton, sumF_snoc]
    refine ⟨a.add ((h m).mono (by omega)), ?_⟩
    rw [val_add a.ok.1 (h m).ok.1, b]
    rfl
def sumBy (some row : List F) : F := sumF (0, 1) (List.zipWith mul some row)
theorem zip_map {a b : List F} (h : a.length ≤ b.length) : List.zipWith mul a b = (List.range a.length).map fun i => mul (co a i) (co b i) := by
  refine List.ext_getElem? fun i => ?_
  rw [List.getElem?_zipWith]
  by_cases c : i < a.length
  · rw [co_lt c, co_lt (Nat.lt_of_lt_of_le c h), List.getElem?_map, List.getElem?_range c]
    rfl
  · rw [List.getElem?_eq_none (by omega), List.getElem?_eq_none (l := List.map _ _) (by simp; omega)]
theorem sumBy_val {n m : Nat} {a b : List F} (ha : Za n a) (hb : Za m b) (h : a.length ≤ b.length) :
    Zs (n + m + a.length) (sumBy a b) ∧ val (sumBy a b) = sm (fun i => val (co a i) * val (co b i)) a.length := by
  unfold sumBy
  rw [zip_map h]
  obtain ⟨x, y⟩ := sum_map (g := fun i => mul (co a i) (co b i)) (fun i => (ha.co i).mul (hb.co i)) a.length
  refine ⟨x, ?_⟩
  rw [y]
  refine sm_congr fun i _ => ?_
  exact val_mul (ha.co i).ok.1 (hb.co i).ok.1
/-! ### products -/
theorem co_set {w : List F} {k : Nat} (x : F) (hk : k < w.length) (m : Nat) : co (w.set k x) m = if m = k then x else co w m := by
  split
  · rename_i e
    subst e
    exact co_get (List.getElem?_set_self hk)
  · rename_i e
    unfold Rs.co
    rw [List.getD_eq_getElem?_getD, List.getD_eq_getElem?_getD, List.getElem?_set_ne (by omega)]
theorem sm_upd (g : Nat → Rat) (c : Rat) (k : Nat) : ∀ n, k < n → sm (fun m => if m = k then g m + c else g m) n = sm g n + c
  | 0, h => absurd h (by omega)
  | n + 1, h => by
    by_cases e : k = n
    · subst e
      show sm _ k + (if k = k then g k + c else g k) = sm g k + g k + c
      rw [if_pos rfl, sm_congr (g := g) (fun i hi => if_neg (by omega))]
      grind
    · show sm _ n + (if n = k then g n + c else g n) = sm g n + g n + c
      rw [if_neg (by omega), sm_upd g c k n (by omega)]
      grind
def wt (f : Nat → Rat) (w : List F) : Rat := sm (fun m => val (co w m) * f m) w.length
theorem wt_set {n : Nat} {w : List F} (hw : Za n w) {y : F} (hy : 0 < y.2) (f : Nat → Rat) {k : Nat} (hk : k < w.length) : wt f (w.set k (add (co w k) y)) = wt f w + val y * f k := by
  unfold wt
  rw [List.length_set, ← sm_upd (fun m => val (co w m) * f m) (val y * f k) k w.length hk]
  refine sm_congr fun m _ => ?_
  show val (co (w.set k _) m) * f m = _
  rw [co_set _ hk]
  split
  · rename_i e
    subst e
    rw [val_add (hw.co m).ok.1 hy]
    grind
  · rfl
theorem za_set {n : Nat} {w : List F} (hw : Za n w) {y : F} (hy : Zs n y) (k : Nat) : Za n (w.set k y) := fun q hq => by
  rcases List.mem_or_eq_of_mem_set hq with m | rfl
  · exact hw q m
  · exact hy
theorem stepJ_wt {n a b i : Nat} {w : List F} {p : F} {rs : List F} (hw : Za n w) (hp : Zs a p) (hr : Za b rs) (hn : a + b ≤ n) (f : Nat → Rat) : ∀ j, i + j ≤ w.length →
    Za (n + j) (Rs.stepJ w i p rs j) ∧ wt f (Rs.stepJ w i p rs j) = wt f w + val p * sm (fun j => val (co rs j) * f (i + j)) j
  | 0, _ => ⟨hw, by show wt f w = wt f w + val p * 0; grind⟩
  | j + 1, h => by
    obtain ⟨x, y⟩ := stepJ_wt (i := i) hw hp hr hn f j (by omega)
    have l := Rs.stepJ_len w i p rs j
    have z : Zs (n + j) (mul p (co rs j)) := (hp.mul (hr.co j)).mono (by omega)
    refine ⟨za_set (x.mono (Nat.le_succ _)) ((x.co _).add z) _, ?_⟩
    show wt f (List.set _ _ _) = _
    rw [wt_set x z.ok.1 f (by omega), y, val_mul hp.ok.1 (hr.co j).ok.1]
    show _ = wt f w + val p * (sm _ j + val (co rs j) * f (i + j))
    grind
theorem stepI_wt {n a b : Nat} {w qs rs : List F} (hw : Za n w) (hq : Za a qs) (hr : Za b rs) (hn : a + b ≤ n) (f : Nat → Rat) : ∀ i, i + rs.length ≤ w.length + 1 →
    Za (n + i * rs.length) (Rs.stepI w qs rs i) ∧ wt f (Rs.stepI w qs rs i) = wt f w + sm (fun i => val (co qs i) * sm (fun j => val (co rs j) * f (i + j)) rs.length) i
  | 0, _ => ⟨by rw [Nat.zero_mul]; exact hw, by show wt f w = wt f w + 0; grind⟩
  | i + 1, h => by
    obtain ⟨x, y⟩ := stepI_wt hw hq hr hn f i (by omega)
    have l := Rs.stepI_len w qs rs i
    obtain ⟨u, v⟩ := stepJ_wt (i := i) x (hq.co i) hr (by omega) f rs.length (by omega)
    refine ⟨?_, ?_⟩
    · rw [Nat.succ_mul, ← Nat.add_assoc]
      exact u
    · show wt f (Rs.stepJ _ _ _ _ _) = _
      rw [v, y]
      show _ = wt f w + (sm _ i + _)
      grind
theorem prodN_wt {a b : Nat} {qs rs : List F} (hq : Za a qs) (hr : Za b rs) (h1 : qs ≠ []) (h2 : rs ≠ []) (f : Nat → Rat) :
    Za (a + b + qs.length * rs.length) (Rs.prodN (qs.length + rs.length - 1) qs rs) ∧
    wt f (Rs.prodN (qs.length + rs.length - 1) qs rs) = sm (fun i => val (co qs i) * sm (fun j => val (co rs j) * f (i + j)) rs.length) qs.length := by
  have l1 : 0 < qs.length := List.length_pos_iff.mpr h1
  have l2 : 0 < rs.length := List.length_pos_iff.mpr h2
  have hw : Za (a + b) (List.replicate (qs.length + rs.length - 1) ((0, 1) : F)) := fun q hq => by
    rw [(List.mem_replicate.mp hq).2]
    exact Zs.zero
  obtain ⟨x, y⟩ := stepI_wt hw hq hr (Nat.le_refl _) f qs.length (by rw [List.length_replicate]; omega)
  refine ⟨x, ?_⟩
  unfold Rs.prodN
  rw [y]
  have : wt f (List.replicate (qs.length + rs.length - 1) ((0, 1) : F)) = 0 := by
    refine sm_zero fun i _ => ?_
    have : co (List.replicate (qs.length + rs.length - 1) ((0, 1) : F)) i = (0, 1) := by
      unfold Rs.co
      rw [List.getD_eq_getElem?_getD]
      cases e : (List.replicate (qs.length + rs.length - 1) ((0, 1) : F))[i]? with
      | none => rfl
      | some q => exact (List.mem_replicate.mp (List.mem_of_getElem? e)).2
    rw [this, val_zero]
    grind
  rw [this]
  grind
end Fq


set_option linter.all false
set_option maxRecDepth 100000
set_option maxHeartbeats 400000
namespace Fq
open Rs (co co_get co_lt co_ge co_mem co_all)
/-! ### sums of ways -/
def stepH (s ls ss : List F) (h : Nat) : F :=
  let w0 := if 0 < h then co s (h - 1) else (0, 1)
  let w1 := if h < s.length ∧ h < ls.length then add w0 (mul (co ls h) (co s h)) else w0
  if h + 1 < s.length ∧ h < ss.length then add w1 (mul (co ss h) (co s (h + 1))) else w1
def stepL (s ls ss : List F) : List F := (List.range (s.length + 1)).map (stepH s ls ss)
def sumsL (ls ss : List F) : Nat → List F
  | 0 => [(1, 1)]
  | n + 1 => stepL (sumsL ls ss n) ls ss
def rowL (T : F) (ls ss : List F) (n : Nat) : List F := T :: (List.range n).map fun k => mul T (co (sumsL ls ss (k + 1)) 0)
def wA (ls : List F) : Nat → Rat := fun h => val (co ls h)
theorem wA_hi {ls : List F} {h : Nat} (e : ls.length ≤ h) : wA ls h = 0 := by
  unfold wA
  rw [co_ge e, val_zero]
theorem stepH_ok {n : Nat} {s ls ss : List F} (hs : Za n s) (hl : Za 1 ls) (hb : Za 1 ss) (h : Nat) :
    Zs (n + 3) (stepH s ls ss h) ∧ val (stepH s ls ss h) = J (wA ls) (wA ss) (wA s) h := by
  have t0 : Zs n (if 0 < h then co s (h - 1) else (0, 1)) ∧ val (if 0 < h then co s (h - 1) else (0, 1)) = (if h = 0 then 0 else wA s (h - 1)) := by
    by_cases c : 0 < h
    · rw [if_pos c, if_neg (by omega)]
      exact ⟨hs.co _, rfl⟩
    · rw [if_neg c, if_pos (by omega)]
      exact ⟨Zs.zero, val_zero⟩
  unfold stepH
  generalize (if 0 < h then co s (h - 1) else (0, 1)) = w0 at *
  have t1 : Zs (n + 2) (if h < s.length ∧ h < ls.length then add w0 (mul (co ls h) (co s h)) else w0) ∧ val (if h < s.length ∧ h < ls.length then add w0 (mul (co ls h) (co s h)) else w0) = (if h = 0 then 0 else wA s (h - 1)) + wA ls h * wA s h := by
    have m : Zs (n + 1) (mul (co ls h) (co s h)) := ((hl.co h).mul (hs.co h)).mono (by omega)
    by_cases c : h < s.length ∧ h < ls.length
    · rw [if_pos c]
      refine ⟨(t0.1.up).add m, ?_⟩
      rw [val_add t0.1.ok.1 m.ok.1, t0.2, val_mul (hl.co h).ok.1 (hs.co h).ok.1]
      rfl
    · rw [if_neg c]
      refine ⟨t0.1.mono (by omega), ?_⟩
      have : wA ls h * wA s h = 0 := by
        by_cases z : h < s.length
        · rw [wA_hi (ls := ls) (by omega)]
          grind
        · rw [wA_hi (ls := s) (by omega)]
          grind
      rw [this, t0.2]
      grind
  show Zs (n + 3) (if h + 1 < s.length ∧ h < ss.length then add (if h < s.length ∧ h < ls.length then add w0 (mul (co ls h) (co s h)) else w0) (mul (co ss h) (co s (h + 1))) else (if h < s.length ∧ h < ls.length then add w0 (mul (co ls h) (co s h)) else w0)) ∧ val (if h + 1 < s.length ∧ h < ss.length then add (if h < s.length ∧ h < ls.length then add w0 (mul (co ls h) (co s h)) else w0) (mul (co ss h) (co s (h + 1))) else (if h < s.length ∧ h < ls.length then add w0 (mul (co ls h) (co s h)) else w0)) = _
  generalize (if h < s.length ∧ h < ls.length then add w0 (mul (co ls h) (co s h)) else w0) = w1 at *
  have m : Zs (n + 1) (mul (co ss h) (co s (h + 1))) := ((hb.co h).mul (hs.co (h + 1))).mono (by omega)
  unfold J
  by_cases c : h + 1 < s.length ∧ h < ss.length
  · rw [if_pos c]
    refine ⟨t1.1.add (m.mono (by omega)), ?_⟩
    rw [val_add t1.1.ok.1 m.ok.1, t1.2, val_mul (hb.co h).ok.1 (hs.co (h + 1)).ok.1]
    rfl
  · rw [if_neg c]
    refine ⟨t1.1.mono (by omega), ?_⟩
    have : wA ss h * wA s (h + 1) = 0 := by
      by_cases z : h + 1 < s.length
      · rw [wA_hi (ls := ss) (by omega)]
        grind
      · rw [wA_hi (ls := s) (by omega)]
        grind
    rw [this, t1.2]
    grind
theorem stepL_len (s ls ss : List F) : (stepL s ls ss).length = s.length + 1 := by simp [stepL]
theorem stepL_ok {n : Nat} {s ls ss : List F} (hs : Za n s) (hl : Za 1 ls) (hb : Za 1 ss) : Za (n + 3) (stepL s ls ss) ∧ wA (stepL s ls ss) = J (wA ls) (wA ss) (wA s) := by
  refine ⟨fun q hq => ?_, ?_⟩
  · obtain ⟨h, _, rfl⟩ := List.mem_map.mp hq
    exact (stepH_ok hs hl hb h).1
  · funext h
    have t := (stepH_ok hs hl hb h).2
    show val (co _ h) = _
    unfold stepL
    rw [co_map]
    split
    · exact t
    · rename_i c
      rw [← t]
      have : stepH s ls ss h = (0, 1) := by
        simp only [stepH]
        rw [if_neg (c := h < s.length ∧ h < ls.length) (by omega), if_neg (by omega), if_pos (by omega), co_ge (by omega)]
      rw [this]
theorem ek0 : wA [(1, 1)] = ek 0 := by
  funext h
  unfold wA ek
  cases h with
  | zero => exact val_one
  | succ h =>
    rw [co_ge (by simp), if_neg (by omega), val_zero]
theorem sumsL_len (ls ss : List F) : ∀ n, (sumsL ls ss n).length = n + 1
  | 0 => rfl
  | n + 1 => by
    show (stepL _ _ _).length = _
    rw [stepL_len, sumsL_len ls ss n]
theorem sumsL_ok {ls ss : List F} (hl : Za 1 ls) (hb : Za 1 ss) : ∀ n, Za (3 * n) (sumsL ls ss n) ∧ wA (sumsL ls ss n) = Jn (wA ls) (wA ss) n (ek 0)
  | 0 => ⟨fun q hq => by rw [List.mem_singleton.mp hq]; exact Zs.one, ek0⟩
  | n + 1 => by
    obtain ⟨a, b⟩ := sumsL_ok hl hb n
    obtain ⟨c, d⟩ := stepL_ok a hl hb
    refine ⟨c, ?_⟩
    show wA (stepL _ _ _) = J _ _ _
    rw [d, b]
theorem rowL_len (T : F) (ls ss : List F) (n : Nat) : (rowL T ls ss n).length = n + 1 := by simp [rowL]
theorem rowL_zero {T : F} {ls ss : List F} {n : Nat} : co (rowL T ls ss n) 0 = T := rfl
theorem rowL_ok {T : F} {ls ss : List F} (hT : Zs 1 T) (hl : Za 1 ls) (hb : Za 1 ss) (n : Nat) :
    Za (3 * n + 1) (rowL T ls ss n) ∧ ∀ k, k ≤ n → val (co (rowL T ls ss n) k) = val T * Jn (wA ls) (wA ss) k (ek 0) 0 := by
  refine ⟨fun q hq => ?_, fun k hk => ?_⟩
  · rcases List.mem_cons.mp hq with rfl | hq
    · exact hT.mono (by omega)
    · obtain ⟨k, hk, rfl⟩ := List.mem_map.mp hq
      have := List.mem_range.mp hk
      exact (hT.mul ((sumsL_ok hl hb (k + 1)).1.co 0)).mono (by omega)
  · cases k with
    | zero =>
      rw [rowL_zero]
      show _ = val T * (if 0 = 0 then 1 else 0)
      rw [if_pos rfl]
      grind
    | succ k =>
      have e : co (rowL T ls ss n) (k + 1) = mul T (co (sumsL ls ss (k + 1)) 0) := by
        refine co_get ?_
        show ((List.range n).map _)[k]? = _
        rw [List.getElem?_map, List.getElem?_range (by omega)]
        rfl
      obtain ⟨a, b⟩ := sumsL_ok hl hb (k + 1)
      rw [e, val_mul hT.ok.1 (a.co 0).ok.1, ← b]
      rfl
theorem rowL_take (T : F) (ls ss : List F) {n m : Nat} (h : n ≤ m) : rowL T ls ss n = (rowL T ls ss m).take (n + 1) := by
  unfold rowL
  rw [List.take_succ_cons, ← List.map_take, List.take_range, Nat.min_eq_left h]
/-! ### the law's own rungs -/
def lsr (a b : List F) : List F := (List.range a.length).map fun k => if k < b.length then sub (co a k) (co b k) else co a k
theorem lsr_len (a b : List F) : (lsr a b).length = a.length := by simp [lsr]
theorem lsr_ok {n : Nat} {a b : List F} (ha : Za n a) (hb : Za n b) (hl : b.length ≤ a.length) : Za (n + 1) (lsr a b) ∧ ∀ i, val (co (lsr a b) i) = val (co a i) - val (co b i) := by
  have t : ∀ i, Zs (n + 1) (if i < b.length then sub (co a i) (co b i) else co a i) ∧ val (if i < b.length then sub (co a i) (co b i) else co a i) = val (co a i) - val (co b i) := by
    intro i
    split
    · exact ⟨(ha.co i).sub (hb.co i), val_sub (ha.co i).ok.1 (hb.co i).ok.1⟩
    · refine ⟨(ha.co i).up, ?_⟩
      rw [co_ge (qs := b) (by omega), val_zero]
      grind
  refine ⟨fun q hq => ?_, fun i => ?_⟩
  · obtain ⟨k, _, rfl⟩ := List.mem_map.mp hq
    exact (t k).1
  · unfold lsr
    rw [co_map]
    split
    · exact (t i).2
    · rw [co_ge (qs := a) (by omega), co_ge (qs := b) (by omega), val_zero]
      grind
def scl (c : F) (a : List F) : List F := a.map (mul c)
theorem scl_ok {n m : Nat} {c : F} {a : List F} (hc : Zs n c) (ha : Za m a) : Za (n + m) (scl c a) ∧ (∀ i, val (co (scl c a) i) = val c * val (co a i)) ∧ (scl c a).length = a.length := by
  refine ⟨fun q hq => ?_, fun i => ?_, List.length_map _⟩
  · obtain ⟨r, hr, rfl⟩ := List.mem_map.mp hq
    exact hc.mul (ha r hr)
  · unfold scl
    rw [co_map1]
    split
    · exact val_mul hc.ok.1 (ha.co i).ok.1
    · rw [co_ge (qs := a) (by omega), val_zero]
      grind
def ruled (ls ss : List F) : Nat → List F
  | 0 => [(1, 1)]
  | 1 => lsr ((0, 1) :: [(1, 1)]) (scl (co ls 0) [(1, 1)])
  | k + 2 => lsr (lsr ((0, 1) :: ruled ls ss (k + 1)) (scl (co ls (k + 1)) (ruled ls ss (k + 1)))) (scl (co ss k) (ruled ls ss k))
theorem shift_co (a : List F) (i : Nat) : co ((0, 1) :: a) i = if i = 0 then (0, 1) else co a (i - 1) := by
  cases i with
  | zero => rfl
  | succ i =>
    rw [if_neg (by omega), Nat.add_sub_cancel]
    rfl
theorem shift_ok {n : Nat} {a : List F} (h : Za n a) : Za n ((0, 1) :: a) ∧ ∀ i, val (co ((0, 1) :: a) i) = if i = 0 then 0 else val (co a (i - 1)) := by
  refine ⟨fun q hq => ?_, fun i => ?_⟩
  · rcases List.mem_cons.mp hq with rfl | hq
    · exact Zs.zero
    · exact h q hq
  · rw [shift_co]
    split
    · exact val_zero
    · rfl
/-- a list with these worths -/
structure Pf (ls ss : List F) (k : Nat) (p : List F) : Prop where
  l : p.length = k + 1
  z : Za (3 * k) p
  v : ∀ i, val (co p i) = pc (wA ls) (wA ss) k i
theorem one_v (i : Nat) : val (co [(1, 1)] i) = if i = 0 then 1 else 0 := by
  have := congrFun ek0 i
  exact this
theorem za_one {n : Nat} : Za n [(1, 1)] := fun q hq => by rw [List.mem_singleton.mp hq]; exact Zs.one
theorem ruled_pf {ls ss : List F} (hl : Za 1 ls) (hb : Za 1 ss) : ∀ k, Pf ls ss k (ruled ls ss k) := by
  refine up2 ⟨rfl, za_one, one_v⟩ ?_ fun k h1 h2 => ?_
  · obtain ⟨s1, s2⟩ := shift_ok (za_one (n := 1))
    obtain ⟨c1, c2, c3⟩ := scl_ok (hl.co 0) (za_one (n := 0))
    obtain ⟨l1, l2⟩ := lsr_ok s1 c1 (by rw [c3]; decide)
    refine ⟨by show (lsr _ _).length = _; rw [lsr_len]; rfl, l1.mono (by decide), fun i => ?_⟩
    show val (co (lsr _ _) i) = _
    rw [l2, s2, c2, one_v]
    show _ = (if i = 0 then (0 : Rat) else if i = 1 then 1 else 0) - wA ls 0 * (if i = 0 then 1 else 0)
    rw [one_v]
    by_cases c : i = 0
    · rw [if_pos c, if_pos c, if_pos c]
      rfl
    · rw [if_neg c, if_neg c, if_neg c]
      have : (if i - 1 = 0 then (1 : Rat) else 0) = if i = 1 then 1 else 0 := by
        by_cases d : i = 1
        · rw [if_pos (by omega), if_pos d]
        · rw [if_neg (by omega), if_neg d]
      rw [this]
      rfl
  · obtain ⟨s1, s2⟩ := shift_ok h2.z
    obtain ⟨c1, c2, c3⟩ := scl_ok (hl.co (k + 1)) h2.z
    obtain ⟨l1, l2⟩ := lsr_ok (s1.mono (m := 1 + 3 * (k + 1)) (by omega)) c1 (by rw [c3, List.length_cons]; omega)
    obtain ⟨d1, d2, d3⟩ := scl_ok (hb.co k) h1.z
    obtain ⟨m1, m2⟩ := lsr_ok l1 (d1.mono (by omega)) (by rw [d3, lsr_len, List.length_cons, h1.l, h2.l]; omega)
    refine ⟨?_, m1.mono (by omega), fun i => ?_⟩
    · show (lsr (lsr _ _) _).length = _
      rw [lsr_len, lsr_len, List.length_cons, h2.l]
    · show val (co (lsr (lsr _ _) _) i) = _
      rw [m2, l2, s2, c2, d2, h2.v, h2.v, h1.v]
      rfl
/-! ### the program's rungs -/
def plL (a b : List F) : List F := Rs.trim (Rs.byPower sub a b (max a.length b.length))
def scP (a : List F) (c : F) : List F := Rs.trim (a.map fun q => mul q c)
def nxt (before here : List F) (level step : F) : List F := plL (plL ((0, 1) :: here) (scP here level)) (scP before step)
theorem scP_ok {n m : Nat} {c : F} {a : List F} (hc : Zs n c) (ha : Za m a) : Za (m + n) (scP a c) ∧ (∀ i, val (co (scP a c) i) = val c * val (co a i)) ∧ (scP a c).length ≤ a.length := by
  refine ⟨trim_za fun q hq => ?_, fun i => ?_, ?_⟩
  · obtain ⟨r, hr, rfl⟩ := List.mem_map.mp hq
    exact (ha r hr).mul hc
  · unfold scP
    rw [trim_co, co_map1]
    split
    · rw [val_mul (ha.co i).ok.1 hc.ok.1]
      grind
    · rw [co_ge (qs := a) (by omega), val_zero]
      grind
  · have := Rs.trim_len (a.map fun q => mul q c)
    rw [List.length_map] at this
    exact this
theorem plL_ok {n : Nat} {a b : List F} (ha : Za n a) (hb : Za n b) (hl : b.length ≤ a.length) (hz : val (co a (a.length - 1)) - val (co b (a.length - 1)) ≠ 0) :
    Za (n + 1) (plL a b) ∧ (∀ i, val (co (plL a b) i) = val (co a i) - val (co b i)) ∧ (plL a b).length = a.length := by
  have t : ∀ i, val (co (Rs.byPower sub a b a.length) i) = val (co a i) - val (co b i) := by
    intro i
    unfold Rs.byPower
    rw [co_map]
    split
    · exact val_sub (ha.co i).ok.1 (hb.co i).ok.1
    · rw [co_ge (qs := a) (by omega), co_ge (qs := b) (by omega), val_zero]
      grind
  have e : max a.length b.length = a.length := Nat.max_eq_left hl
  have p : Rs.Pn (Rs.byPower sub a b a.length) := by
    right
    rw [Rs.byPower_len]
    intro z
    have := t (a.length - 1)
    rw [z, val_zero] at this
    exact hz this.symm
  unfold plL
  rw [e, Rs.trim_of p]
  refine ⟨fun q hq => ?_, t, Rs.byPower_len _ _ _ _⟩
  obtain ⟨k, rfl⟩ := Rs.byPower_mem hq
  exact (ha.co k).sub (hb.co k)
theorem pc_top (A B : Nat → Rat) : ∀ k, pc A B k k = 1 := by
  refine up2 ?_ ?_ fun k h1 h2 => ?_
  · show (if 0 = 0 then (1 : Rat) else 0) = 1
    rw [if_pos rfl]
  · show (if 1 = 0 then (0 : Rat) else if 1 = 1 then 1 else 0) - A 0 * (if 1 = 0 then 1 else 0) = 1
    rw [if_neg (by decide), if_pos rfl, if_neg (by decide)]
    grind
  · show (if k + 2 = 0 then (0 : Rat) else pc A B (k + 1) (k + 2 - 1)) - A (k + 1) * pc A B (k + 1) (k + 2) - B k * pc A B k (k + 2) = 1
    rw [if_neg (by omega), show k + 2 - 1 = k + 1 by omega, h2, pc_hi A B (k + 1) _ (by omega), pc_hi A B k _ (by omega)]
    grind
theorem Pf.uniq {ls ss : List F} {k : Nat} {a b : List F} (ha : Pf ls ss k a) (hb : Pf ls ss k b) : a = b :=
  list_eq ha.z hb.z (by rw [ha.l, hb.l]) fun i _ => by rw [ha.v, hb.v]
/-- the polynomial before -/
def bef (ls ss : List F) (k : Nat) : List F := if k = 0 then [] else ruled ls ss (k - 1)
theorem nxt_ruled {ls ss : List F} (hl : Za 1 ls) (hb : Za 1 ss) (k : Nat) : nxt (bef ls ss k) (ruled ls ss k) (co ls k) (co ((0, 1) :: ss) k) = ruled ls ss (k + 1) := by
  have hp := ruled_pf hl hb k
  have hq := ruled_pf hl hb (k + 1)
  obtain ⟨s1, s2⟩ := shift_ok hp.z
  obtain ⟨c1, c2, c3⟩ := scP_ok (hl.co k) hp.z
  have sl : ((0, 1) :: ruled ls ss k).length = k + 2 := by rw [List.length_cons, hp.l]
  obtain ⟨l1, l2, l3⟩ := plL_ok (s1.mono (m := 3 * k + 1) (by omega)) c1 (by rw [sl]; have := hp.l; omega) (by
    rw [sl, s2, c2, if_neg (by omega), show k + 2 - 1 - 1 = k by omega, hp.v, hp.v, pc_top, pc_hi _ _ k _ (by omega)]
    grind)
  have hbz : Za (3 * k) (bef ls ss k) ∧ (bef ls ss k).length ≤ k := by
    unfold bef
    split
    · exact ⟨fun q hq => (by cases hq), Nat.zero_le _⟩
    · have := ruled_pf hl hb (k - 1)
      exact ⟨this.z.mono (by omega), by rw [this.l]; omega⟩
  have hst : Zs 1 (co ((0, 1) :: ss) k) := by
    rw [shift_co]
    split
    · exact Zs.zero
    · exact hb.co _
  obtain ⟨d1, d2, d3⟩ := scP_ok hst hbz.1
  obtain ⟨m1, m2, m3⟩ := plL_ok l1 (d1.mono (by omega)) (by rw [l3, sl]; have := hbz.2; omega) (by
    rw [l3, sl, l2, s2, c2, d2, if_neg (by omega), show k + 2 - 1 - 1 = k by omega, hp.v, hp.v, pc_top, pc_hi _ _ k _ (by omega), co_ge (qs := bef ls ss k) (by have := hbz.2; omega), val_zero]
    grind)
  refine Pf.uniq (ls := ls) (ss := ss) (k := k + 1) ⟨by show (plL _ _).length = _; rw [m3, l3, sl], m1.mono (by omega), fun i => ?_⟩ hq
  show val (co (plL _ _) i) = _
  rw [m2, l2, s2, c2, d2]
  have : val (co (lsr [] []) 0) = 0 := val_zero
  cases k with
  | zero =>
    show _ = (if i = 0 then (0 : Rat) else if i = 1 then 1 else 0) - wA ls 0 * (if i = 0 then 1 else 0)
    rw [hp.v, hp.v, show bef ls ss 0 = [] from rfl, co_ge (qs := ([] : List F)) (Nat.zero_le _), val_zero]
    show (if i = 0 then (0 : Rat) else if i - 1 = 0 then 1 else 0) - val (co ls 0) * (if i = 0 then 1 else 0) - _ = _
    have : (if i = 0 then (0 : Rat) else if i - 1 = 0 then 1 else 0) = (if i = 0 then (0 : Rat) else if i = 1 then 1 else 0) := by
      by_cases c : i = 0
      · rw [if_pos c, if_pos c]
      · rw [if_neg c, if_neg c]
        by_cases d : i = 1
        · rw [if_pos (by omega), if_pos d]
        · rw [if_neg (by omega), if_neg d]
    rw [this]
    show _ - wA ls 0 * _ - _ = _
    grind
  | succ k =>
    have hr := ruled_pf hl hb k
    rw [show bef ls ss (k + 1) = ruled ls ss k from rfl, hp.v, hp.v, hr.v]
    rfl
/-! ### the norms, and what the row says of the rungs -/
def nrm (T : F) (ss : List F) : Nat → F
  | 0 => T
  | k + 1 => mul (nrm T ss k) (co ss k)
theorem nrm_ok {T : F} {ss : List F} (hT : Zs 1 T) (hb : Za 1 ss) : ∀ k, Zs (k + 1) (nrm T ss k) ∧ val (nrm T ss k) = val T * pB (wA ss) k
  | 0 => ⟨hT, by show val T = val T * 1; grind⟩
  | k + 1 => by
    obtain ⟨a, b⟩ := nrm_ok hT hb k
    refine ⟨a.mul (hb.co k), ?_⟩
    show val (mul _ _) = val T * (pB _ k * _)
    rw [val_mul a.ok.1 (hb.co k).ok.1, b]
    show _ * wA ss k = _
    grind
theorem sum_row {n m : Nat} {T : F} {ls ss : List F} (hT : Zs 1 T) (hl : Za 1 ls) (hb : Za 1 ss) {some : List F} (hs : Za m some) (h : some.length ≤ n + 1) :
    Zs (m + (3 * n + 1) + some.length) (sumBy some (rowL T ls ss n)) ∧ val (sumBy some (rowL T ls ss n)) = val T * wt (fun i => Jn (wA ls) (wA ss) i (ek 0) 0) some := by
  obtain ⟨r1, r2⟩ := rowL_ok hT hl hb n
  obtain ⟨a, b⟩ := sumBy_val hs r1 (by rw [rowL_len]; exact h)
  refine ⟨a, ?_⟩
  rw [b]
  unfold wt
  rw [← sm_mul]
  refine sm_congr fun i hi => ?_
  rw [r2 i (by omega)]
  grind
theorem cross {n k j : Nat} {T : F} {ls ss : List F} (hT : Zs 1 T) (hl : Za 1 ls) (hb : Za 1 ss) (h : k + j ≤ n) :
    sumBy (Rs.prodN (k + j + 1) (ruled ls ss k) (ruled ls ss j)) (rowL T ls ss n) = if j = k then nrm T ss k else (0, 1) := by
  have hk := ruled_pf hl hb k
  have hj := ruled_pf hl hb j
  have e : k + j + 1 = (ruled ls ss k).length + (ruled ls ss j).length - 1 := by rw [hk.l, hj.l]; omega
  obtain ⟨p1, p2⟩ := prodN_wt hk.z hj.z (by intro z; have := hk.l; rw [z] at this; cases this) (by intro z; have := hj.l; rw [z] at this; cases this) (fun i => Jn (wA ls) (wA ss) i (ek 0) 0)
  rw [← e] at p1 p2
  obtain ⟨a, b⟩ := sum_row (n := n) hT hl hb p1 (by rw [Rs.prodN_len]; omega)
  rw [p2, hk.l, hj.l] at b
  have g : sm (fun i => val (co (ruled ls ss k) i) * sm (fun l => val (co (ruled ls ss j) l) * Jn (wA ls) (wA ss) (i + l) (ek 0) 0) (j + 1)) (k + 1) = ev (wA ls) (wA ss) (pc (wA ls) (wA ss) k) (k + 1) (ev (wA ls) (wA ss) (pc (wA ls) (wA ss) j) (j + 1) (ek 0)) 0 := by
    refine sm_congr fun i _ => ?_
    rw [hk.v]
    congr 1
    unfold ev
    rw [Jn_sm]
    refine sm_congr fun l _ => ?_
    rw [hj.v, Jn_add]
  rw [g, favard1, favard2] at b
  obtain ⟨n1, n2⟩ := nrm_ok hT hb k
  by_cases c : j = k
  · rw [if_pos c]
    refine val_inj a.ok n1.ok ?_
    rw [b, n2]
    unfold ek
    rw [if_pos c.symm]
    grind
  · rw [if_neg c]
    refine val_inj a.ok ok01 ?_
    rw [b, val_zero]
    unfold ek
    rw [if_neg (fun z => c z.symm)]
    grind
theorem misfit {n m k : Nat} {T : F} {ls ss : List F} (hT : Zs 1 T) (hl : Za 1 ls) (hb : Za 1 ss) (hm : 0 < m) (he : co ss (m - 1) = (0, 1)) (h : k + m ≤ n) :
    sumBy (List.replicate k (0, 1) ++ ruled ls ss m) (rowL T ls ss n) = (0, 1) := by
  have hp := ruled_pf hl hb m
  have z : Za (3 * m) (List.replicate k (0, 1) ++ ruled ls ss m) := fun q hq => by
    rcases List.mem_append.mp hq with hq | hq
    · rw [(List.mem_replicate.mp hq).2]
      exact Zs.zero
    · exact hp.z q hq
  have l : (List.replicate k (0, 1) ++ ruled ls ss m).length = k + (m + 1) := by rw [List.length_append, List.length_replicate, hp.l]
  obtain ⟨a, b⟩ := sum_row (n := n) hT hl hb z (by rw [l]; omega)
  refine val_inj a.ok ok01 ?_
  rw [b, val_zero]
  have lead : ∀ k, wt (fun i => Jn (wA ls) (wA ss) i (ek 0) 0) (List.replicate k (0, 1) ++ ruled ls ss m) = sm (fun i => pc (wA ls) (wA ss) m i * Jn (wA ls) (wA ss) (k + i) (ek 0) 0) (m + 1) := by
    intro k
    have gen : ∀ k (f : Nat → Rat), wt f (List.replicate k (0, 1) ++ ruled ls ss m) = sm (fun i => pc (wA ls) (wA ss) m i * f (k + i)) (m + 1) := by
      intro k
      induction k with
      | zero =>
        intro f
        show sm _ (ruled ls ss m).length = _
        rw [hp.l]
        refine sm_congr fun i _ => ?_
        show val (co (ruled ls ss m) i) * f i = _
        rw [hp.v, Nat.zero_add]
      | succ k ih =>
        intro f
        have := ih (fun i => f (i + 1))
        unfold wt at this ⊢
        rw [List.replicate_succ, List.cons_append, List.length_cons, sm_left]
        have e0 : val (co ((0, 1) :: (List.replicate k (0, 1) ++ ruled ls ss m)) 0) = 0 := val_zero
        rw [e0]
        have e1 : sm (fun i => val (co ((0, 1) :: (List.replicate k (0, 1) ++ ruled ls ss m)) (i + 1)) * f (i + 1)) (List.replicate k (0, 1) ++ ruled ls ss m).length = sm (fun i => pc (wA ls) (wA ss) m i * f (k + 1 + i)) (m + 1) := by
          refine Eq.trans this ?_
          refine sm_congr fun i _ => ?_
          rw [show k + 1 + i = k + i + 1 by omega]
        rw [e1]
        grind
    exact gen k _
  rw [lead]
  have e : sm (fun i => pc (wA ls) (wA ss) m i * Jn (wA ls) (wA ss) (k + i) (ek 0) 0) (m + 1) = Jn (wA ls) (wA ss) k (ev (wA ls) (wA ss) (pc (wA ls) (wA ss) m) (m + 1) (ek 0)) 0 := by
    unfold ev
    rw [Jn_sm]
    refine sm_congr fun i _ => ?_
    rw [Jn_add]
  rw [e, favard1, ended_zero (wA ls) (wA ss) (m := m) (by unfold wA; rw [he, val_zero]) hm k 0 hm]
  grind
end Fq


set_option Elab.async false
set_option linter.all false
set_option maxRecDepth 100000
set_option maxHeartbeats 2000000
namespace Rs
open PySem L2 Bs Fq
def top (i : Nat) : Stmt := PySem.Challenge.pw_rungshare_k03_whole_ladders.main.body.getD i (.Pass ⟨0, 0, 0, 0⟩)
abbrev fr (q : F) : HO := .tup [.int q.1, .int q.2]
/-- a value that is a fraction's tuple -/
def Fr (K : PySem.W.Frag) (H : Hp) (v : V) (q : F) : Prop := ∃ a, v = .ref a ∧ SqT K H a [.int q.1, .int q.2]
theorem Fr.of {K : PySem.W.Frag} {H : Hp} {p : Addr} {q : F} (h : H p = some (fr q)) : Fr K H (.ref p) q := ⟨p, rfl, SqT.of h⟩
theorem Fr.mono {K : PySem.W.Frag} {H H' : Hp} {v : V} {q : F} (h : Fr K H v q) (e : Same H H') : Fr K H' v q := by
  obtain ⟨a, rfl, s⟩ := h
  exact ⟨a, rfl, Same.t e s⟩
def Lt2 (n : Nat) (x : Int) : Prop := x.natAbs < 2 ^ n
theorem Lt2.mono {m n : Nat} {x : Int} (h : Lt2 m x) (k : m ≤ n) : Lt2 n x := Nat.lt_of_lt_of_le h (Nat.pow_le_pow_right (by decide) k)
theorem Lt2.c {m n : Nat} {x y : Int} (h : Lt2 m x) (k : Lt2 n y) (h0 : 0 < m := by decide) (h1 : 0 < n := by decide) (h2 : m + n ≤ 1000000 := by decide) : CMulW x y := wide_mul h k h0 h1 h2
/-- what the program reckons with -/
structure Dm (q : F) : Prop where
  big : Lt2 4000 q.1
  pos : 0 < q.2
  low : Lt2 4000 q.2
theorem Dm.l2 {q : F} (h : Dm q) : Lt2 4000 q.2 := h.low
theorem lt2m {a b : Int} (h : Lt2 4000 a) (g : Lt2 4000 b) : Lt2 8000 (a * b) := by
  show (a * b).natAbs < 2 ^ (4000 + 4000)
  rw [Int.natAbs_mul, Nat.pow_add]
  exact Nat.mul_lt_mul'' h g
structure DefN (K : PySem.W.Frag) (mg : Str → Option Value) (x : Str) (st : Stmt) (ps : List Str) : Prop where
  ex : ∃ (f : Addr) (fd : FuncData), Fun K x x st f fd ∧ mg x = some (.ref f) ∧ Binds K fd ps []
/-- the built-ins keep their names -/
structure Blt (mg : Str → Option Value) : Prop where
  isinstance : mg "isinstance" = none
  len : mg "len" = none
  int : mg "int" = none
  bool : mg "bool" = none
  tuple : mg "tuple" = none
  range : mg "range" = none
  list : mg "list" = none
  abs : mg "abs" = none
  min : mg "min" = none
  repr : mg "repr" = none
  gcd : mg "gcd" = some (.builtin "math.gcd")
section
variable {P : Program} {w : World} {K : PySem.W.Frag} {mg : Str → Option Value} {base : Heap} {k : Nat} {x : Str} {st : Stmt} {ps : List Str} {sp : Sp}
theorem DefN.cal (D : DefN K mg x st ps) (h : ∀ f fd, Fun K x x st f fd → FnOk P w K mg base CX0 k f fd ps sp) : Cal P w K mg base k x sp := by
  obtain ⟨f, fd, F, m, b⟩ := D.ex
  exact ⟨f, fd, ps, h f fd F, m, F.kp, b⟩
theorem DefN.calX (D : DefN K mg x st ps) (h : ∀ f fd, Fun K x x st f fd → FnOk P w K mg base (L2.CX P w) k f fd ps sp) : CalX P w K mg base k x sp := by
  obtain ⟨f, fd, F, m, b⟩ := D.ex
  exact ⟨f, fd, ps, h f fd F, m, F.kp, b⟩
theorem DefN.calG (D : DefN K mg x st ps) (h : ∀ f fd, Fun K x x st f fd → FnG P w K mg base k f fd ps sp) : CalG P w K mg base k x sp := by
  obtain ⟨f, fd, F, m, b⟩ := D.ex
  exact ⟨f, fd, ps, h f fd F, m, F.kp, b⟩
end
/-! ### bare -/
abbrev sReduced : Stmt := top 4
abbrev sAdded : Stmt := top 5
abbrev sLessened : Stmt := top 6
abbrev sTimed : Stmt := top 7
/-- reduced(top, bottom) -/
def spReduced : Sp := fun vs H Q _ => ∃ (a b : Int), vs = [.int a, .int b] ∧ 0 < b ∧ Lt2 8000 b ∧ ∀ p, H p = none → Q (.ref p) (upd H p (fr (red a b)))
/-- two fractions in, one out -/
def spOp (K : PySem.W.Frag) (op : F → F → F) (dom : F → F → Prop) : Sp := fun vs H Q _ => ∃ (x y : V) (q r : F), vs = [x, y] ∧ Fr K H x q ∧ Fr K H y r ∧ dom q r ∧ ∀ p, H p = none → Q (.ref p) (upd H p (fr (op q r)))
def dom2 (q r : F) : Prop := Dm q ∧ Dm r
def domD (q r : F) : Prop := Dm q ∧ Dm r ∧ r.1 ≠ 0 ∧ r.1.natAbs < 32768
def spLt (K : PySem.W.Frag) : Sp := fun vs H Q _ => ∃ (x y : V) (q r : F), vs = [x, y] ∧ Fr K H x q ∧ Fr K H y r ∧ dom2 q r ∧ Q (.bl (lt q r)) H
def spRaised (K : PySem.W.Frag) : Sp := fun vs H Q _ => ∃ (x : V) (q : F) (n : Int), vs = [x, .int n] ∧ Fr K H x q ∧ Lt2 6 q.1 ∧ Lt2 6 q.2 ∧ 0 ≤ n ∧ n ≤ 20 ∧ ∀ p, H p = none → Q (.ref p) (upd H p (fr (pw q n.toNat)))
section
variable {P : Program} {w : World} {K : PySem.W.Frag} {mg : Str → Option Value} {base : Heap} {f : Addr} {fd : FuncData}
theorem scReduced : FnScope ["top", "bottom", "common"] ["top", "bottom"] (defScope sReduced) := ⟨rfl, rfl, rfl, by decide +kernel, rfl, by decide +kernel, by decide +kernel⟩
theorem ok_reduced (F : Fun K "reduced" "reduced" sReduced f fd) (T : Blt mg) : FnOk P w K mg base CX0 1 f fd ["top", "bottom"] spReduced := by
  refine F.ok scReduced (fun vs H Q E h => ?_) (fun cdv A outer s H vs Q E hr h => ?_)
  · obtain ⟨a, b, rfl, _⟩ := h
    rfl
  · obtain ⟨a, b, rfl, hb, hw, k⟩ := h
    refine ⟨_, pss_cons (ps_set (i := 2) scReduced.nd rfl (Or.inl rfl) (pe_callBfun cr_gcd (by rfl) T.gcd (pa_cons (pv 0) (pa_cons (pv 1) pa_nil))))
      (pss_cons (ps_if (pt_cmpR op_lt (pv 1) pe_int (nomark _)) (pss_one (ps_set (i := 2) scReduced.nd rfl (Or.inl rfl) (pe_un un_neg (pv 2)))) pss_nil)
      (pss_one (ps_ret (pe_tup (pa_cons (pe_op op_fdivW (pv 0) (pv 2)) (pa_cons (pe_op op_fdivW (pv 1) (pv 2)) pa_nil)))))), ?_⟩
    refine ⟨_, rfl, _, rfl, a, b, rfl, ?_⟩
    refine ⟨_, rfl, _, _, rfl, rfl, _, rfl, ?_⟩
    have hp := gI_pos (a := a) (b := b) (by omega)
    have hle := gI_le (a := a) (b := b) (by omega)
    have hgw : Lt2 8000 (gI a b) := Nat.lt_of_le_of_lt hle hw
    refine ite2 (fun c => ?_) (fun c => ?_)
    · have := of_decide_eq_true c
      omega
    · exact ⟨_, rfl, _, rfl, _, _, rfl, rfl, wide_div hp hgw (by decide) (by decide), _, rfl, _, rfl, _, _, rfl, rfl, wide_div hp hgw (by decide) (by decide), (by show 2 ≤ sizeLine; decide), fun p hp => k p hp⟩
theorem scOp : ∀ i ∈ [5, 6, 7], FnScope ["one", "other"] ["one", "other"] (defScope (top i)) := by
  intro i hi
  simp only [List.mem_cons, List.not_mem_nil, or_false] at hi
  rcases hi with rfl | rfl | rfl <;> exact ⟨rfl, rfl, rfl, by decide +kernel, rfl, by decide +kernel, by decide +kernel⟩

/-- one[0] * other[1] and its like: two places, the rest -/
theorem ok_added (F : Fun K "added" "added" sAdded f fd) (C : Cal P w K mg base 1 "reduced" spReduced) : FnOk P w K mg base CX0 2 f fd ["one", "other"] (spOp K add dom2) := by
  refine F.ok (scOp 5 (by decide)) (fun vs H Q E h => ?_) (fun cdv A outer s H vs Q E hr h => ?_)
  · obtain ⟨x, y, q, r, rfl, _⟩ := h
    rfl
  · obtain ⟨x, y, q, r, rfl, ⟨a, rfl, h1⟩, ⟨b, rfl, h2⟩, ⟨d1, d2⟩, k⟩ := h
    refine ⟨_, pss_one (ps_ret (pe_n C hr (by decide) (by rfl) (pa_cons (pe_op op_add (pe_op op_mulW (pe_ix ix_tup (pv 0) pe_int (fun _ _ => rfl)) (pe_ix ix_tup (pv 1) pe_int (fun _ _ => rfl))) (pe_op op_mulW (pe_ix ix_tup (pv 1) pe_int (fun _ _ => rfl)) (pe_ix ix_tup (pv 0) pe_int (fun _ _ => rfl))))
      (pa_cons (pe_op op_mulW (pe_ix ix_tup (pv 0) pe_int (fun _ _ => rfl)) (pe_ix ix_tup (pv 1) pe_int (fun _ _ => rfl))) pa_nil)))), ?_⟩
    refine ⟨_, rfl, a, _, _, _, rfl, rfl, h1, atI_nat (j := 0) rfl, _, rfl, b, _, _, _, rfl, rfl, h2, atI_nat (j := 1) rfl, _, _, rfl, rfl, d1.big.c d2.l2,
      _, rfl, b, _, _, _, rfl, rfl, h2, atI_nat (j := 0) rfl, _, rfl, a, _, _, _, rfl, rfl, h1, atI_nat (j := 1) rfl, _, _, rfl, rfl, d2.big.c d1.l2, _, _, rfl, rfl,
      _, rfl, a, _, _, _, rfl, rfl, h1, atI_nat (j := 1) rfl, _, rfl, b, _, _, _, rfl, rfl, h2, atI_nat (j := 1) rfl, _, _, rfl, rfl, d1.l2.c d2.l2, ?_⟩
    exact ⟨_, _, rfl, Int.mul_pos d1.pos d2.pos, lt2m d1.low d2.low, fun p hp => k p hp⟩
theorem ok_lessened (F : Fun K "lessened" "lessened" sLessened f fd) (C : Cal P w K mg base 1 "reduced" spReduced) : FnOk P w K mg base CX0 2 f fd ["one", "other"] (spOp K sub dom2) := by
  refine F.ok (scOp 6 (by decide)) (fun vs H Q E h => ?_) (fun cdv A outer s H vs Q E hr h => ?_)
  · obtain ⟨x, y, q, r, rfl, _⟩ := h
    rfl
  · obtain ⟨x, y, q, r, rfl, ⟨a, rfl, h1⟩, ⟨b, rfl, h2⟩, ⟨d1, d2⟩, k⟩ := h
    refine ⟨_, pss_one (ps_ret (pe_n C hr (by decide) (by rfl) (pa_cons (pe_op op_sub (pe_op op_mulW (pe_ix ix_tup (pv 0) pe_int (fun _ _ => rfl)) (pe_ix ix_tup (pv 1) pe_int (fun _ _ => rfl))) (pe_op op_mulW (pe_ix ix_tup (pv 1) pe_int (fun _ _ => rfl)) (pe_ix ix_tup (pv 0) pe_int (fun _ _ => rfl))))
      (pa_cons (pe_op op_mulW (pe_ix ix_tup (pv 0) pe_int (fun _ _ => rfl)) (pe_ix ix_tup (pv 1) pe_int (fun _ _ => rfl))) pa_nil)))), ?_⟩
    refine ⟨_, rfl, a, _, _, _, rfl, rfl, h1, atI_nat (j := 0) rfl, _, rfl, b, _, _, _, rfl, rfl, h2, atI_nat (j := 1) rfl, _, _, rfl, rfl, d1.big.c d2.l2,
      _, rfl, b, _, _, _, rfl, rfl, h2, atI_nat (j := 0) rfl, _, rfl, a, _, _, _, rfl, rfl, h1, atI_nat (j := 1) rfl, _, _, rfl, rfl, d2.big.c d1.l2, _, _, rfl, rfl,
      _, rfl, a, _, _, _, rfl, rfl, h1, atI_nat (j := 1) rfl, _, rfl, b, _, _, _, rfl, rfl, h2, atI_nat (j := 1) rfl, _, _, rfl, rfl, d1.l2.c d2.l2, ?_⟩
    exact ⟨_, _, rfl, Int.mul_pos d1.pos d2.pos, lt2m d1.low d2.low, fun p hp => k p hp⟩
theorem ok_timed (F : Fun K "timed" "timed" sTimed f fd) (C : Cal P w K mg base 1 "reduced" spReduced) : FnOk P w K mg base CX0 2 f fd ["one", "other"] (spOp K mul dom2) := by
  refine F.ok (scOp 7 (by decide)) (fun vs H Q E h => ?_) (fun cdv A outer s H vs Q E hr h => ?_)
  · obtain ⟨x, y, q, r, rfl, _⟩ := h
    rfl
  · obtain ⟨x, y, q, r, rfl, ⟨a, rfl, h1⟩, ⟨b, rfl, h2⟩, ⟨d1, d2⟩, k⟩ := h
    refine ⟨_, pss_one (ps_ret (pe_n C hr (by decide) (by rfl) (pa_cons (pe_op op_mulW (pe_ix ix_tup (pv 0) pe_int (fun _ _ => rfl)) (pe_ix ix_tup (pv 1) pe_int (fun _ _ => rfl)))
      (pa_cons (pe_op op_mulW (pe_ix ix_tup (pv 0) pe_int (fun _ _ => rfl)) (pe_ix ix_tup (pv 1) pe_int (fun _ _ => rfl))) pa_nil)))), ?_⟩
    refine ⟨_, rfl, a, _, _, _, rfl, rfl, h1, atI_nat (j := 0) rfl, _, rfl, b, _, _, _, rfl, rfl, h2, atI_nat (j := 0) rfl, _, _, rfl, rfl, d1.big.c d2.big,
      _, rfl, a, _, _, _, rfl, rfl, h1, atI_nat (j := 1) rfl, _, rfl, b, _, _, _, rfl, rfl, h2, atI_nat (j := 1) rfl, _, _, rfl, rfl, d1.l2.c d2.l2, ?_⟩
    exact ⟨_, _, rfl, Int.mul_pos d1.pos d2.pos, lt2m d1.low d2.low, fun p hp => k p hp⟩
theorem pow_lt2 {x : Int} {n : Nat} (h : Lt2 6 x) (hn : n ≤ 20) : Lt2 121 (x ^ n) := by
  have h' : x.natAbs < 64 := h
  show (x ^ n).natAbs < 2 ^ 121
  rw [Int.natAbs_pow]
  have a := Nat.pow_le_pow_left (show x.natAbs ≤ 64 by omega) n
  have b := Nat.pow_le_pow_right (show 0 < 64 by decide) hn
  have c : (64 : Nat) ^ 20 < 2 ^ 121 := by decide
  omega
end
end Rs


set_option Elab.async false
set_option linter.all false
set_option maxRecDepth 100000
set_option maxHeartbeats 400000
namespace Rs
open PySem L2 Bs Fq
/-! ### data and kinds -/
def dF (q : F) : PyData := .tuple [.int q.1, .int q.2]
theorem Fr.dp {K : PySem.W.Frag} {H : Hp} {v : V} {q : F} (h : Fr K H v q) : Dp K H v (dF q) := by
  obtain ⟨a, rfl, s⟩ := h
  exact .tup s (.cons (.int _) (.cons (.int _) .nil))
def tyD : PyData → String
  | .none => "NoneType" | .bool _ => "bool" | .int _ => "int" | .str _ => "str" | .list _ => "list" | .tuple _ => "tuple" | .dict _ => "dict"
theorem _root_.L2.Dp.ty {K : PySem.W.Frag} {H : Hp} {v : V} {d : PyData} (h : Dp K H v d) : TyX K H v (.type (tyD d)) := by
  cases h with
  | non => exact .base .non
  | bl b => exact .base (.bl b)
  | int i => exact .base (.int i)
  | str x => exact .base (.str x)
  | lst s _ =>
    rcases s with (s | ⟨o, s⟩) | ⟨o, its, n, e, c, _⟩
    · exact .base (.lst s)
    · exact .base (.frz s)
    · exact .kList e c
  | tup s _ =>
    rcases s with (s | ⟨o, s⟩) | ⟨o, its, n, e, c, _⟩
    · exact .base (.tup s)
    · exact .fTuple s
    · exact .kTuple e c
def wholeD : PyData → Bool
  | .int _ => true
  | _ => false
def fracD : PyData → Bool
  | .tuple [.int a, .int b] => decide (1 ≤ b) && decide (gI a b = 1)
  | _ => false
def betwD (lo hi : Int) : PyData → Bool
  | .int i => decide (lo ≤ i) && decide (i ≤ hi)
  | _ => false
theorem fracD_dF {q : F} (h : Ok q) : fracD (dF q) = true := by
  have : gI q.1 q.2 = 1 := by unfold gI; rw [h.2]; rfl
  simp only [fracD, dF, Bool.and_eq_true, decide_eq_true_eq]
  exact ⟨by have := h.1; omega, this⟩
theorem fracD_true {d : PyData} (h : fracD d = true) : ∃ q, d = dF q ∧ Ok q := by
  unfold fracD at h
  split at h
  · rename_i a b
    simp only [Bool.and_eq_true, decide_eq_true_eq] at h
    refine ⟨(a, b), rfl, by show 0 < b; omega, ?_⟩
    have := h.2
    unfold gI at this
    show Nat.gcd a.natAbs b.natAbs = 1
    omega
  · cases h
def isInt : PyData → Bool
  | .int _ => true
  | .bool _ => true
  | _ => false
theorem kitI (K : PySem.W.Frag) (d : PyData) : PySem.W.kitOne K (.type (tyD d)) (.type "int") = some (isInt d) := by
  cases d with
  | none => exact kit_ty (a := "NoneType") (b := "int") (r := false) (by decide +kernel)
  | bool _ => exact kit_ty (a := "bool") (b := "int") (r := true) (by decide +kernel)
  | int _ => exact kit_ty (a := "int") (b := "int") (r := true) (by decide +kernel)
  | str _ => exact kit_ty (a := "str") (b := "int") (r := false) (by decide +kernel)
  | list _ => exact kit_ty (a := "list") (b := "int") (r := false) (by decide +kernel)
  | tuple _ => exact kit_ty (a := "tuple") (b := "int") (r := false) (by decide +kernel)
  | dict _ => exact kit_ty (a := "dict") (b := "int") (r := false) (by decide +kernel)
def isBool : PyData → Bool
  | .bool _ => true
  | _ => false
theorem kitB' (K : PySem.W.Frag) (d : PyData) : PySem.W.kitOne K (.type (tyD d)) (.type "bool") = some (isBool d) := by
  cases d with
  | none => exact kit_ty (a := "NoneType") (b := "bool") (r := false) (by decide +kernel)
  | bool _ => exact kit_ty (a := "bool") (b := "bool") (r := true) (by decide +kernel)
  | int _ => exact kit_ty (a := "int") (b := "bool") (r := false) (by decide +kernel)
  | str _ => exact kit_ty (a := "str") (b := "bool") (r := false) (by decide +kernel)
  | list _ => exact kit_ty (a := "list") (b := "bool") (r := false) (by decide +kernel)
  | tuple _ => exact kit_ty (a := "tuple") (b := "bool") (r := false) (by decide +kernel)
  | dict _ => exact kit_ty (a := "dict") (b := "bool") (r := false) (by decide +kernel)
def isTup : PyData → Bool
  | .tuple _ => true
  | _ => false
theorem kitT (K : PySem.W.Frag) (d : PyData) : PySem.W.kitOne K (.type (tyD d)) (.type "tuple") = some (isTup d) := by
  cases d with
  | none => exact kit_ty (a := "NoneType") (b := "tuple") (r := false) (by decide +kernel)
  | bool _ => exact kit_ty (a := "bool") (b := "tuple") (r := false) (by decide +kernel)
  | int _ => exact kit_ty (a := "int") (b := "tuple") (r := false) (by decide +kernel)
  | str _ => exact kit_ty (a := "str") (b := "tuple") (r := false) (by decide +kernel)
  | list _ => exact kit_ty (a := "list") (b := "tuple") (r := false) (by decide +kernel)
  | tuple _ => exact kit_ty (a := "tuple") (b := "tuple") (r := true) (by decide +kernel)
  | dict _ => exact kit_ty (a := "dict") (b := "tuple") (r := false) (by decide +kernel)
abbrev sWhole : Stmt := top 19
abbrev sBetween : Stmt := top 20
abbrev sFraction : Stmt := top 21
abbrev sNeedB : Stmt := top 24
def spWhole (K : PySem.W.Frag) : Sp := fun vs H Q _ => ∃ (v : V) (d : PyData), vs = [v] ∧ Dp K H v d ∧ Q (.bl (wholeD d)) H
def spBetween (K : PySem.W.Frag) : Sp := fun vs H Q _ => ∃ (v : V) (d : PyData) (lo hi : Int), vs = [v, .int lo, .int hi] ∧ Dp K H v d ∧ Q (.bl (betwD lo hi d)) H
def spFraction (K : PySem.W.Frag) : Sp := fun vs H Q _ => ∃ (v : V) (d : PyData), vs = [v] ∧ Dp K H v d ∧ Q (.bl (fracD d)) H
section
variable {P : Program} {w : World} {K : PySem.W.Frag} {mg : Str → Option Value} {base : Heap} {f : Addr} {fd : FuncData}
theorem sc15 : FnScope ["thing"] ["thing"] (defScope sWhole) := ⟨rfl, rfl, rfl, by decide +kernel, rfl, by decide +kernel, by decide +kernel⟩
theorem ok_whole (F : Fun K "is_whole" "is_whole" sWhole f fd) (T : Blt mg) : FnOk P w K mg base CX0 1 f fd ["thing"] (spWhole K) := by
  refine F.ok sc15 (fun vs H Q E h => ?_) (fun cdv A outer s H vs Q E hr h => ?_)
  · obtain ⟨v, d, rfl, _⟩ := h
    rfl
  · obtain ⟨v, d, rfl, hd, k⟩ := h
    refine ⟨_, pss_one (ps_ret (pe_and (pe_callB call_isi (by rfl) T.isinstance (by decide +kernel) (pa_cons (pv 0) (pa_cons (pe_bltn (v := .ty "int") (by rfl) T.int (by decide +kernel) rfl) pa_nil)))
      (pe_one (pe_not (pe_callB call_isi (by rfl) T.isinstance (by decide +kernel) (pa_cons (pv 0) (pa_cons (pe_bltn (v := .ty "bool") (by rfl) T.bool (by decide +kernel) rfl) pa_nil))))))), ?_⟩
    refine ⟨v, rfl, v, _, _, _, _, rfl, .ty _, hd.ty, kitI K d, _, rfl, ?_⟩
    have second : ∀ b : Bool, wholeD d = (!isBool d) → tNotV (tCB (rIsi K) (tCons (tVar 0) (tCons (tC (.ty "bool")) tNil))) (start ["thing"] [v]) H Q := fun b e => by
      refine ⟨v, rfl, v, _, _, _, _, rfl, .ty _, hd.ty, kitB' K d, _, rfl, ?_⟩
      rw [← e]
      exact k
    cases d with
    | int i => exact iteT (second true rfl)
    | bool b => exact iteT (second true rfl)
    | none => exact iteF k
    | str x => exact iteF k
    | list xs => exact iteF k
    | tuple xs => exact iteF k
    | dict xs => exact iteF k

theorem sc16 : FnScope ["thing", "low", "high"] ["thing", "low", "high"] (defScope sBetween) := ⟨rfl, rfl, rfl, by decide +kernel, rfl, by decide +kernel, by decide +kernel⟩
theorem ok_between (F : Fun K "is_between" "is_between" sBetween f fd) (W : Cal P w K mg base 1 "is_whole" (spWhole K)) : FnOk P w K mg base CX0 2 f fd ["thing", "low", "high"] (spBetween K) := by
  refine F.ok sc16 (fun vs H Q E h => ?_) (fun cdv A outer s H vs Q E hr h => ?_)
  · obtain ⟨v, d, lo, hi, rfl, _⟩ := h
    rfl
  · obtain ⟨v, d, lo, hi, rfl, hd, k⟩ := h
    refine ⟨_, pss_one (ps_ret (pe_and (pe_n W hr (by decide) (by rfl) (pa_cons (pv 0) pa_nil)) (pe_and (pe_cmpR op_le (pv 1) (pv 0) (nomark _)) (pe_one (pe_cmpR op_le (pv 0) (pv 2) (nomark _)))))), ?_⟩
    refine ⟨v, rfl, v, d, rfl, hd, _, rfl, ?_⟩
    cases d with
    | int i =>
      cases hd
      refine iteT ⟨_, rfl, _, rfl, _, _, rfl, rfl, _, rfl, ?_⟩
      have e : betwD lo hi (.int i) = (decide (lo ≤ i) && decide (i ≤ hi)) := rfl
      refine ite2 (fun c => ⟨_, rfl, _, rfl, _, _, rfl, rfl, ?_⟩) (fun c => ?_)
      · rw [e, c, Bool.true_and] at k
        exact k
      · rw [e, Bool.eq_false_iff.mpr c, Bool.false_and] at k
        exact k
    | bool b => exact iteF k
    | none => exact iteF k
    | str x => exact iteF k
    | list xs => exact iteF k
    | tuple xs => exact iteF k
    | dict xs => exact iteF k
theorem sc17 : FnScope ["thing", "top", "bottom"] ["thing"] (defScope sFraction) := ⟨rfl, rfl, rfl, by decide +kernel, rfl, by decide +kernel, by decide +kernel⟩
theorem fracD_not {d : PyData} (h : isTup d = false) : fracD d = false := by
  cases d <;> first | rfl | cases h
theorem fracD_len : ∀ {ds : List PyData}, ds.length ≠ 2 → fracD (.tuple ds) = false
  | [], _ => rfl
  | [d], _ => by cases d <;> rfl
  | [_, _], h => absurd rfl h
  | a :: b :: _ :: _, _ => by cases a <;> cases b <;> rfl
theorem fracD_first {d e : PyData} (h : wholeD d = false) : fracD (.tuple [d, e]) = false := by
  cases d <;> first | rfl | cases h
theorem fracD_second {d e : PyData} (h : wholeD e = false) : fracD (.tuple [d, e]) = false := by
  cases d <;> cases e <;> first | rfl | cases h
theorem wholeD_true {d : PyData} (h : wholeD d = true) : ∃ i, d = .int i := by
  cases d with
  | int i => exact ⟨i, rfl⟩
  | _ => cases h
theorem dpAll_len {K : PySem.W.Frag} {H : Hp} : ∀ {ds : List PyData} {xs : List V}, DpAll K H xs ds → xs.length = ds.length
  | [], _, .nil => rfl
  | _ :: _, _, .cons _ r => congrArg Nat.succ (dpAll_len r)
theorem two_of {K : PySem.W.Frag} {H : Hp} {xs : List V} {ds : List PyData} (h : DpAll K H xs ds) (l : xs.length = 2) : ∃ v1 v2 d1 d2, xs = [v1, v2] ∧ ds = [d1, d2] ∧ Dp K H v1 d1 ∧ Dp K H v2 d2 := by
  cases h with
  | nil => cases l
  | cons h1 h2 =>
    cases h2 with
    | nil => cases l
    | cons h3 h4 =>
      cases h4 with
      | nil => exact ⟨_, _, _, _, rfl, rfl, h1, h3⟩
      | cons h5 h6 => simp at l
theorem ok_fraction (F : Fun K "is_fraction" "is_fraction" sFraction f fd) (T : Blt mg) (W : Cal P w K mg base 1 "is_whole" (spWhole K)) : FnOk P w K mg base CX0 2 f fd ["thing"] (spFraction K) := by
  refine F.ok sc17 (fun vs H Q E h => ?_) (fun cdv A outer s H vs Q E hr h => ?_)
  · obtain ⟨v, d, rfl, _⟩ := h
    rfl
  · obtain ⟨v, d, rfl, hd, k⟩ := h
    refine ⟨_, pss_cons (ps_if (PW.pt (pw_or (pt_not (pt_val (pe_callB call_isi (by rfl) T.isinstance (by decide +kernel) (pa_cons (pv 0) (pa_cons (pe_bltn (v := .ty "tuple") (by rfl) T.tuple (by decide +kernel) rfl) pa_nil)))))
        (pw_or1 (pt_cmpR op_ne (pe_callB call_len_seq (by rfl) T.len PySem.boot_len (pa_cons (pv 0) pa_nil)) pe_int (nomark _))))) (pss_one (ps_ret pe_bl)) pss_nil)
      (pss_cons (ps_asg (pv 0) (pg_tup rfl (pgs_cons (pg_name (i := 1) sc17.nd rfl (.inl rfl)) (pgs_cons (pg_name (i := 2) sc17.nd rfl (.inl rfl)) pgs_nil))))
      (pss_one (ps_ret (pe_and (pe_n W hr (by decide) (by rfl) (pa_cons (pv 1) pa_nil)) (pe_and (pe_n W hr (by decide) (by rfl) (pa_cons (pv 2) pa_nil))
        (pe_and (pe_cmpR op_ge (pv 2) pe_int (nomark _)) (pe_one (pe_cmpR op_eq (pe_callBfun cr_gcd (by rfl) T.gcd (pa_cons (pv 1) (pa_cons (pv 2) pa_nil))) pe_int (nomark _))))))))), ?_⟩
    refine ⟨v, rfl, v, _, _, _, _, rfl, .ty _, hd.ty, kitT K d, _, rfl, ?_⟩
    cases ht : isTup d with
    | false =>
      rw [fracD_not ht] at k
      exact iteT (iteT k)
    | true =>
      refine iteF ?_
      cases hd with
      | tup hS hA =>
        rename_i a xs ds
        refine ⟨_, rfl, a, _, rfl, .inr hS, rfl, _, rfl, ?_⟩
        refine ite2 (fun c => ?_) (fun c => ?_)
        · have l := dpAll_len hA
          rw [fracD_len (fun z => by rw [← l] at z; simp [z] at c)] at k
          exact k
        · have l := dpAll_len hA
          have l2 : xs.length = 2 := by
            have c2 : ((xs.length : Nat) : Int) = 2 := by simpa using c
            omega
          obtain ⟨v1, v2, d1, d2, rfl, rfl, h1, h2⟩ := two_of hA l2
          refine ⟨_, rfl, a, [v1, v2], rfl, hS, rfl, v1, [v2], rfl, v2, [], rfl, rfl, ?_⟩
          refine ⟨_, rfl, v1, d1, rfl, h1, _, rfl, ?_⟩
          cases hw1 : wholeD d1 with
          | false =>
            rw [fracD_first hw1] at k
            exact iteF k
          | true =>
            refine iteT ⟨_, rfl, v2, d2, rfl, h2, _, rfl, ?_⟩
            cases hw2 : wholeD d2 with
            | false =>
              rw [fracD_second hw2] at k
              exact iteF k
            | true =>
              obtain ⟨i1, rfl⟩ := wholeD_true hw1
              obtain ⟨i2, rfl⟩ := wholeD_true hw2
              cases h1
              cases h2
              have e : fracD (.tuple [.int i1, .int i2]) = (decide (1 ≤ i2) && decide (gI i1 i2 = 1)) := rfl
              refine iteT ⟨_, rfl, _, _, rfl, rfl, _, rfl, ?_⟩
              refine ite2 (fun c1 => ⟨_, rfl, _, rfl, i1, i2, rfl, rfl, ?_⟩) (fun c1 => ?_)
              · rw [e, show decide (1 ≤ i2) = true from c1, Bool.true_and] at k
                have e3 : decide (V.int ((Nat.gcd i1.natAbs i2.natAbs : Nat) : Int) = V.int 1) = decide (gI i1 i2 = 1) := by
                  unfold gI
                  simp only [V.int.injEq]
                rw [← e3] at k
                exact k
              · rw [e, show decide (1 ≤ i2) = false from Bool.eq_false_iff.mpr c1, Bool.false_and] at k
                exact k
      | non => cases ht
      | bl b => cases ht
      | int b => cases ht
      | str b => cases ht
      | lst _ _ => cases ht
end
end Rs


set_option Elab.async false
set_option linter.all false
set_option maxRecDepth 100000
set_option maxHeartbeats 400000
namespace Rs
open PySem L2 Bs Fq
/-! ### errors -/
/-- the class x, its __init__: self.given = given -/
structure Err (K : PySem.W.Frag) (mg : Str → Option Value) (x : Str) (qual : Str) (st : Stmt) (C : Addr) : Prop where
  gC : mg x = some (.ref C)
  oex : OexC K C
  xf : XfC K C
  no : PySem.W.findIn K (.ref C) "given" = some none
  ini : ∃ (fI : Addr) (fd : FuncData), PySem.W.findIn K (.ref C) "__init__" = some (some (.ref fI)) ∧ PySem.W.typeIn K (.ref fI) = some (.type "function") ∧ Fun K "__init__" qual st fI fd ∧ Binds K fd ["self", "given"] []
abbrev sInitN : Stmt := inClass (top 17) 0
def spInit (K : PySem.W.Frag) (C : Addr) : Sp := fun vs H Q _ => ∃ (a : Addr) (y : V), vs = [.ref a, y] ∧ H a = some (exo a C none) ∧
  ∀ dx, H dx = none → dx ≠ a → Q .non (upd (upd H dx (exd dx [("given", y)])) a (exo a C (some dx)))
theorem heap_end {H : Hp} {a d : Addr} {o1 o2 o3 o4 : HO} (h : H a = none) (n : d ≠ a) : upd (del (upd (upd (upd H a o1) d o2) a o3) a) d o4 = upd H d o4 := by
  funext b
  by_cases e1 : b = d
  · subst e1
    rw [upd_same, upd_same]
  · rw [upd_ne e1, upd_ne e1]
    by_cases e2 : b = a
    · subst e2
      rw [del_same, h]
    · rw [del_ne e2, upd_ne e2, upd_ne e1, upd_ne e2]
section
variable {P : Program} {w : World} {K : PySem.W.Frag} {mg : Str → Option Value} {base : Heap} {f : Addr} {fd : FuncData}
theorem scInitN : FnScope ["self", "given"] ["self", "given"] (defScope sInitN) := ⟨rfl, rfl, rfl, by decide +kernel, rfl, by decide +kernel, by decide +kernel⟩
theorem ok_initN {C : Addr} {q : Str} (F : Fun K "__init__" q sInitN f fd) (T : OexC K C) (no : PySem.W.findIn K (.ref C) "given" = some none) : FnOk P w K mg base CX0 1 f fd ["self", "given"] (spInit K C) := by
  refine F.ok scInitN (fun vs H Q E h => ?_) (fun cdv A outer s H vs Q E hr h => ?_)
  · obtain ⟨a, y, rfl, _⟩ := h
    rfl
  · obtain ⟨a, y, rfl, ha, k⟩ := h
    exact ⟨_, pss_one (ps_ost (pv 0) (pv 1)), _, rfl, _, rfl, a, C, rfl, T, no, .inl ⟨ha, fun dx n1 n2 => k dx n1 n2⟩⟩
/-- such an error may be made by its name -/
structure ErrOk (P : Program) (w : World) (K : PySem.W.Frag) (mg : Str → Option Value) (base : Heap) (x : Str) (C : Addr) : Prop where
  gC : mg x = some (.ref C)
  oex : OexC K C
  ini : ∃ (fI : Addr) (fd : FuncData), PySem.W.findIn K (.ref C) "__init__" = some (some (.ref fI)) ∧ PySem.W.typeIn K (.ref fI) = some (.type "function") ∧ FnOk P w K mg base CX0 1 fI fd ["self", "given"] (spInit K C) ∧ Binds K fd ["self", "given"] []
theorem Err.okN {x q : Str} {C : Addr} (T : Err K mg x q sInitN C) : ErrOk P w K mg base x C := by
  obtain ⟨fI, fd, a, b, F, bi⟩ := T.ini
  exact ⟨T.gC, T.oex, fI, fd, a, b, ok_initN F T.oex T.no, bi⟩
end
/-- the way out with an error of the class at C that carries v -/
def Out (E : XK) (C : Addr) (v : V) (H : Hp) : Prop := ∀ d : Addr, H d = none → E (.ref C) (some d) (upd H d (.xd [("given", v)]))
theorem pe_weak {X : Cx} {e : Expr} {te : TE} (he : PE X e te) : PE X e (fun σ H Q => ∃ Q0 : VK, te σ H Q0 ∧ ∀ v H1, Q0 v H1 → Q v H1) :=
  ⟨fun pins s σ H Q I ⟨Q0, h, m⟩ => PySem.wpAny_mono (he.run pins s σ H Q0 I h) (fun u s' ⟨v, H1, I1, r, q⟩ => ⟨v, H1, I1, r, m _ _ q⟩) (fun _ _ z => z)⟩
/-- raise x(e) -/
def tRz (C : Addr) (W : WX) (te : TE) : TS := fun _ σ H => te σ H fun v H1 => ∀ d : Addr, H1 d = none → W (.ref C) (some d) σ (upd H1 d (.xd [("given", v)]))
theorem ps_rz {X : Cx} {x : Str} {C : Addr} {j : Nat} {e : Expr} {te : TE} {W : WX} {p pos pos2 : Pos} (hc : X.calm = true) (T : ErrOk X.prog X.w X.K X.mg X.base x C) (hr : Room j X.A) (hj : 2 ≤ j) (tk : Takes X W) (he : PE X e te) (hg : Gl X x)
    (hdb : (x == ("__debug__" : Str)) = false := by decide) (hs : starEach (e :: []) X.env = (false, eval e X.env) :: starEach [] X.env := by rfl) (hpl : (backTo pos (starEach [] X.env)).any (·.1) = false := by rfl) :
    PS X (.Raise (some (.Call (.Name x p) [e] [] pos)) none pos2) (tRz C W te) := by
  obtain ⟨fI, fd, iC, tI, F1, b⟩ := T.ini
  have h := ps_raise (pos := pos2) hc tk (pmk_oex (x := x) (p := p) (pos := pos) T.oex iC tI F1 (hr.mono hj) b .nil pass0 hg T.gC (pa_cons (pe_weak he) pa_nil hs) hdb hs hpl)
  constructor
  intro pins s σ H D I q
  refine h.run pins s σ H D I ?_
  refine ⟨_, q, fun v H1 z => ?_⟩
  refine ⟨(by show 1 ≤ 1000; decide), fun a ha => ⟨a, v, rfl, upd_same, fun dx n1 n2 => ⟨rfl, dx, [("given", v)], upd_same, ?_, ?_, ?_⟩⟩⟩
  · rw [upd_ne n2]
    exact upd_same
  · rw [upd_ne n2] at n1
    exact n1
  · rw [upd_ne n2] at n1
    show W _ _ _ (upd (del _ a) dx _)
    rw [heap_end ha n2]
    exact z dx n1
end Rs


set_option Elab.async false
set_option linter.all false
set_option maxRecDepth 100000
set_option maxHeartbeats 400000
namespace Rs
open PySem L2 Bs Fq
theorem dp_fr {K : PySem.W.Frag} {H : Hp} {v : V} {q : F} (h : Dp K H v (dF q)) : Fr K H v q := by
  cases h with
  | tup s a =>
    cases a with
    | cons h1 h2 =>
      cases h2 with
      | cons h3 h4 =>
        cases h4
        cases h1
        cases h3
        exact ⟨_, rfl, s⟩
def spNeedF (K : PySem.W.Frag) (C : Addr) : Sp := fun vs H Q E => ∃ (v : V) (d : PyData), vs = [v] ∧ Dp K H v d ∧ (fracD d = true → Q v H) ∧ (fracD d = false → Out E C v H)
def spNeedB (K : PySem.W.Frag) (C : Addr) : Sp := fun vs H Q E => ∃ (v : V) (d : PyData) (lo hi : Int), vs = [v, .int lo, .int hi] ∧ Dp K H v d ∧ (betwD lo hi d = true → Q v H) ∧ (betwD lo hi d = false → Out E C v H)
def spRatio (K : PySem.W.Frag) (C : Addr) : Sp := fun vs H Q E => ∃ (x y : V) (dx dy : PyData), vs = [x, y] ∧ Dp K H x dx ∧ Dp K H y dy ∧ (wholeD dx = false → Out E C x H) ∧
  (∀ a, dx = .int a → (∀ b, dy = .int b → b ≠ 0 → b.natAbs < 1073741824 ∧ ∀ p, H p = none → Q (.ref p) (upd H p (fr (redP a b)))) ∧ ((∀ b, dy = .int b → b = 0) → Out E C y H))
/-- two fractions wanted; R: what is made of them -/
def spTwo (K : PySem.W.Frag) (C : Addr) (R : V → V → F → F → Hp → VK → XK → Prop) : Sp := fun vs H Q E => ∃ (x y : V) (dx dy : PyData), vs = [x, y] ∧ Dp K H x dx ∧ Dp K H y dy ∧ (fracD dx = false → Out E C x H) ∧
  (fracD dx = true → fracD dy = false → Out E C y H) ∧ (∀ q r, dx = dF q → Ok q → dy = dF r → Ok r → R x y q r H Q E)
def rOp (op : F → F → F) (dom : F → F → Prop) : V → V → F → F → Hp → VK → XK → Prop := fun _ _ q r H Q _ => dom q r ∧ ∀ p, H p = none → Q (.ref p) (upd H p (fr (op q r)))
def rLt : V → V → F → F → Hp → VK → XK → Prop := fun _ _ q r H Q _ => dom2 q r ∧ Q (.bl (lt q r)) H
def rOver (C : Addr) : V → V → F → F → Hp → VK → XK → Prop := fun _ y q r H Q E => (r.1 = 0 → Out E C y H) ∧ (r.1 ≠ 0 → domD q r ∧ ∀ p, H p = none → Q (.ref p) (upd H p (fr (div q r))))
def spPower (K : PySem.W.Frag) (CF CN : Addr) : Sp := fun vs H Q E => ∃ (x y : V) (dx dy : PyData), vs = [x, y] ∧ Dp K H x dx ∧ Dp K H y dy ∧ (fracD dx = false → Out E CF x H) ∧
  (fracD dx = true → betwD 0 20 dy = false → Out E CN y H) ∧ (∀ q n, dx = dF q → Ok q → dy = .int n → 0 ≤ n → n ≤ 20 → Lt2 6 q.1 ∧ Lt2 6 q.2 ∧ ∀ p, H p = none → Q (.ref p) (upd H p (fr (pw q n.toNat))))
/-- the module's NOUGHT -/
structure Nou (K : PySem.W.Frag) (mg : Str → Option Value) : Prop where
  ex : ∃ a : Addr, mg "NOUGHT" = some (.ref a) ∧ ∀ H : Hp, SqT K H a [.int 0, .int 1]
section
variable {P : Program} {w : World} {K : PySem.W.Frag} {mg : Str → Option Value} {base : Heap} {f : Addr} {fd : FuncData} {CF CN : Addr}
theorem sc19 : FnScope ["thing", "low", "high"] ["thing", "low", "high"] (defScope sNeedB) := ⟨rfl, rfl, rfl, by decide +kernel, rfl, by decide +kernel, by decide +kernel⟩
theorem ok_needB (F : Fun K "need_between" "need_between" sNeedB f fd) (T : ErrOk P w K mg base "BadNumber" CN) (W : Cal P w K mg base 2 "is_between" (spBetween K)) : FnOk P w K mg base (L2.CX P w) 3 f fd ["thing", "low", "high"] (spNeedB K CN) := by
  refine F.okX sc19 (fun vs H Q E h => ?_) (fun cdv A outer s H vs Q E hr h => ?_)
  · obtain ⟨v, d, lo, hi, rfl, _⟩ := h
    rfl
  · obtain ⟨v, d, lo, hi, rfl, hd, k1, k2⟩ := h
    refine ⟨_, pss_cons (ps_if (pt_not (pt_val (pe_n W hr (by decide) (by rfl) (pa_cons (pv 0) (pa_cons (pv 1) (pa_cons (pv 2) pa_nil)))))) (pss_one (ps_rz rfl T hr (by decide) (takes_of rfl rfl rfl rfl) (pv 0) (by rfl))) pss_nil) (pss_one (ps_ret (pv 0))), ?_⟩
    refine ⟨_, rfl, _, rfl, _, rfl, v, d, lo, hi, rfl, hd, _, rfl, ?_⟩
    cases e : betwD lo hi d with
    | true => exact iteF ⟨_, rfl, k1 e⟩
    | false => exact iteT ⟨_, rfl, k2 e⟩
/-- the reading of f(need_fraction(one), need_fraction(other)) -/
theorem two_needs {x y : V} {dx dy : PyData} {H : Hp} {E : XK} {Q2 : F → F → Prop} {sp : Sp} {D : Ends} (h1 : Dp K H x dx) (h2 : Dp K H y dy) (k1 : fracD dx = false → Out E CF x H) (k2 : fracD dx = true → fracD dy = false → Out E CF y H)
    (k3 : ∀ q r, dx = dF q → Ok q → dy = dF r → Ok r → Q2 q r) (fin : ∀ q r, Fr K H x q → Fr K H y r → Q2 q r → sp [x, y] H D.rt E0) :
    tRet (tCall sp [] E0 (tCons (tCall (spNeedF K CF) [] E (tCons (tVar 0) tNil)) (tCons (tCall (spNeedF K CF) [] E (tCons (tVar 1) tNil)) tNil))) D (start ["one", "other"] [x, y]) H := by
  refine ⟨x, rfl, x, dx, rfl, h1, fun e1 => ⟨y, rfl, y, dy, rfl, h2, fun e2 => ?_, fun e2 => k2 e1 e2⟩, k1⟩
  obtain ⟨q, rfl, o1⟩ := fracD_true e1
  obtain ⟨r, rfl, o2⟩ := fracD_true e2
  exact fin q r (dp_fr h1) (dp_fr h2) (k3 q r rfl o1 rfl o2)
end
end Rs


set_option Elab.async false
set_option linter.all false
set_option maxRecDepth 100000
set_option maxHeartbeats 400000
namespace Rs
open PySem L2 Bs Fq
abbrev sMixed : Stmt := top 43
abbrev sLRatio : Stmt := top 46
abbrev sLPlus : Stmt := top 47
abbrev sLLess : Stmt := top 48
abbrev sLTimes : Stmt := top 49
def spMixed : Sp := fun vs H Q _ => ∃ (c k : Int), vs = [.int c, .int k] ∧ 0 ≤ k ∧ k ≤ 100000 ∧ ∀ r : Int, 0 ≤ r → r < 2147483629 → Q (.int r) H
/-- _law_ratio(top, bottom), bottom above nought -/
def spLRatio : Sp := fun vs H Q _ => ∃ (a b : Int), vs = [.int a, .int b] ∧ 0 < b ∧ Lt2 8000 b ∧ ∀ p, H p = none → Q (.ref p) (upd H p (fr (red a b)))
/-- the law's own numbers: any size that a reckoning may have -/
structure Dl (q : F) : Prop where
  big : Lt2 4000 q.1
  pos : 0 < q.2
  low : Lt2 4000 q.2
def domL (q r : F) : Prop := Dl q ∧ Dl r
def domLD (q r : F) : Prop := Dl q ∧ Dl r ∧ 0 < r.1
def spLt' (K : PySem.W.Frag) : Sp := fun vs H Q _ => ∃ (x y : V) (q r : F), vs = [x, y] ∧ Fr K H x q ∧ Fr K H y r ∧ domL q r ∧ Q (.bl (lt q r)) H
/-- the law's quotient, the divisor above nought -/
def divL (q r : F) : F := red (q.1 * r.2) (q.2 * r.1)
section
variable {P : Program} {w : World} {K : PySem.W.Frag} {mg : Str → Option Value} {base : Heap} {f : Addr} {fd : FuncData}
theorem scMixed : FnScope ["cell", "k"] ["cell", "k"] (defScope sMixed) := ⟨rfl, rfl, rfl, by decide +kernel, rfl, by decide +kernel, by decide +kernel⟩
theorem ok_mixed (F : Fun K "_law_mixed" "_law_mixed" sMixed f fd) (T : Blt mg) : FnOk P w K mg base CX0 1 f fd ["cell", "k"] spMixed := by
  refine F.ok scMixed (fun vs H Q E h => ?_) (fun cdv A outer s H vs Q E hr h => ?_)
  · obtain ⟨c, k, rfl, _⟩ := h
    rfl
  · obtain ⟨c, k, rfl, k0, k1, g⟩ := h
    refine ⟨_, pss_cons (ps_set (i := 0) scMixed.nd rfl (Or.inl rfl) (pe_op op_mod (pe_callTy call_int1 (by rfl) T.int (by decide +kernel) (pa_cons (pv 0) pa_nil)) pe_int))
      (pss_one (ps_ret (pe_op op_mod (pe_op op_mul (pe_op op_mod (pe_op op_add (pe_op op_add (pe_op op_mul (pv 0) (pe_op op_add pe_int (pe_op op_mul (pe_op op_mul pe_int (pv 1)) (pv 1)))) (pe_op op_mul pe_int (pv 1))) pe_int) pe_int) pe_int) pe_int))), ?_⟩
    refine ⟨_, rfl, .inl ⟨c, rfl, _, _, rfl, rfl, (by show (0 : Int) < 2147483647; decide), ?_⟩⟩
    have m0 := Int.emod_nonneg c (b := 2147483647) (by decide)
    have m1 := Int.emod_lt_of_pos c (b := 2147483647) (by decide)
    refine ⟨_, rfl, _, rfl, _, _, rfl, rfl, .inl ⟨by decide, by decide⟩, _, rfl, _, _, rfl, rfl, .inr ⟨by omega, by omega⟩, _, _, rfl, rfl, _, _, rfl, rfl, .inl ⟨by omega, by omega⟩, _, rfl, _, _, rfl, rfl, .inl ⟨by decide, by decide⟩, _, _, rfl, rfl, _, _, rfl, rfl,
      _, _, rfl, rfl, (by show (0 : Int) < 2147483647; decide), _, _, rfl, rfl, .inr ⟨by decide, by decide⟩, _, _, rfl, rfl, (by show (0 : Int) < 2147483629; decide), ?_⟩
    exact g _ (Int.emod_nonneg _ (by decide)) (Int.emod_lt_of_pos _ (by decide))
theorem scLRatio : FnScope ["top", "bottom", "one", "other"] ["top", "bottom"] (defScope sLRatio) := ⟨rfl, rfl, rfl, by decide +kernel, rfl, by decide +kernel, by decide +kernel⟩
theorem ok_lratio (F : Fun K "_law_ratio" "_law_ratio" sLRatio f fd) (T : Blt mg) : FnOk P w K mg base CX0 1 f fd ["top", "bottom"] spLRatio := by
  refine F.ok scLRatio (fun vs H Q E h => ?_) (fun cdv A outer s H vs Q E hr h => ?_)
  · obtain ⟨a, b, rfl, _⟩ := h
    rfl
  · obtain ⟨a, b, rfl, hb, hl, k⟩ := h
    refine ⟨_, pss_cons (ps_par (i := 2) (j := 3) (by rfl) scLRatio.nd rfl rfl (by decide) rfl rfl (pa_cons (pe_callB call_abs (by rfl) T.abs (by decide +kernel) (pa_cons (pv 0) pa_nil)) (pa_cons (pv 1) pa_nil)) (by rfl))
      (pss_cons (ps_while PassesOwn.never (pt_cmpR op_ne (pv 3) pe_int (nomark _))
        (pss_one (ps_par (i := 2) (j := 3) (by rfl) scLRatio.nd rfl rfl (by decide) rfl rfl (pa_cons (pv 3) (pa_cons (pe_op op_modN (pe_callTy call_int1 (by rfl) T.int (by decide +kernel) (pa_cons (pv 2) pa_nil)) (pv 3)) pa_nil)) (by rfl))))
      (pss_one (ps_ret (pe_tup (pa_cons (pe_op op_fdivW (pv 0) (pv 2)) (pa_cons (pe_op op_fdivW (pv 1) (pv 2)) pa_nil)))))), ?_⟩
    refine ⟨_, rfl, a, rfl, _, rfl, _, _, rfl, ?_⟩
    have hp := gI_pos (a := a) (b := b) (by omega)
    have hle := gI_le (a := a) (b := b) (by omega)
    refine while_by (fun σ H' => H' = H ∧ ∃ x y : Int, σ = [some (V.int a), some (V.int b), some (V.int x), some (V.int y)] ∧ 0 ≤ x ∧ 0 ≤ y ∧ gI x y = gI a b) (fun σ _ => match σ with | [_, _, _, some (V.int y)] => y.natAbs | _ => 0)
      ⟨rfl, _, b, rfl, by split <;> omega, by omega, ?_⟩ ?_ (fun σ H Q Q' m h => ?_)
    · unfold gI
      split
      · rw [Int.natAbs_neg]
      · rfl
    · rintro σ H' ⟨rfl, x, y, rfl, x0, y0, e⟩
      refine ⟨_, rfl, rfl, _, rfl, ?_⟩
      by_cases hy : y = 0
      · subst hy
        refine iteF ?_
        have ex : x = gI a b := by
          rw [← e]
          unfold gI
          have : Nat.gcd x.natAbs (0 : Int).natAbs = x.natAbs := Nat.gcd_zero_right _
          rw [this]
          omega
        subst ex
        have hgw : Lt2 8000 (gI a b) := Nat.lt_of_le_of_lt hle hl
        exact ⟨_, rfl, _, rfl, _, _, rfl, rfl, wide_div hp hgw (by decide) (by decide), _, rfl, _, rfl, _, _, rfl, rfl, wide_div hp hgw (by decide) (by decide), (by show 2 ≤ sizeLine; decide), fun p hp => k p hp⟩
      · have d : decide (V.int y = V.int 0) = false := decide_eq_false (fun z => hy (V.int.inj z))
        show if (!decide (V.int y = V.int 0)) = true then _ else _
        rw [d]
        refine iteT ?_
        refine ⟨_, rfl, _, rfl, .inl ⟨x, rfl, _, rfl, _, _, rfl, rfl, hy, _, _, rfl, ⟨rfl, y, x.fmod y, rfl, y0, ?_, ?_⟩, ?_⟩⟩
        · exact Int.fmod_nonneg_of_pos x (by omega)
        · rw [← e]
          unfold gI
          rw [Int.fmod_eq_emod_of_nonneg x y0]
          have h1 : (x % y).natAbs = x.natAbs % y.natAbs := by
            have := Int.natAbs_emod_of_nonneg (b := y) x0
            exact this
          rw [h1, Nat.gcd_comm y.natAbs, ← Nat.gcd_rec y.natAbs x.natAbs, Nat.gcd_comm]
        · show (x.fmod y).natAbs < y.natAbs
          rw [Int.fmod_eq_emod_of_nonneg x y0]
          have := Int.emod_lt_of_pos x (show 0 < y by omega)
          have := Int.emod_nonneg x hy
          omega
    · obtain ⟨v, e1, e2, b', e3, q⟩ := h
      exact ⟨v, e1, e2, b', e3, m _ _ q⟩
end
end Rs


set_option Elab.async false
set_option linter.all false
set_option maxRecDepth 100000
set_option maxHeartbeats 400000
namespace Rs
open PySem L2 Bs Fq
section
variable {P : Program} {w : World} {K : PySem.W.Frag} {mg : Str → Option Value} {base : Heap} {f : Addr} {fd : FuncData}
theorem scLOp : ∀ i ∈ [47, 48, 49], FnScope ["one", "other"] ["one", "other"] (defScope (top i)) := by
  intro i hi
  simp only [List.mem_cons, List.not_mem_nil, or_false] at hi
  rcases hi with rfl | rfl | rfl <;> exact ⟨rfl, rfl, rfl, by decide +kernel, rfl, by decide +kernel, by decide +kernel⟩
theorem ok_lplus (F : Fun K "_law_plus" "_law_plus" sLPlus f fd) (C : Cal P w K mg base 1 "_law_ratio" spLRatio) : FnOk P w K mg base CX0 2 f fd ["one", "other"] (spOp K add domL) := by
  refine F.ok (scLOp 47 (by decide)) (fun vs H Q E h => ?_) (fun cdv A outer s H vs Q E hr h => ?_)
  · obtain ⟨x, y, q, r, rfl, _⟩ := h
    rfl
  · obtain ⟨x, y, q, r, rfl, ⟨a, rfl, h1⟩, ⟨b, rfl, h2⟩, ⟨d1, d2⟩, k⟩ := h
    refine ⟨_, pss_one (ps_ret (pe_n C hr (by decide) (by rfl) (pa_cons (pe_op op_add (pe_op op_mulW (pe_ix ix_tup (pv 0) pe_int (fun _ _ => rfl)) (pe_ix ix_tup (pv 1) pe_int (fun _ _ => rfl))) (pe_op op_mulW (pe_ix ix_tup (pv 1) pe_int (fun _ _ => rfl)) (pe_ix ix_tup (pv 0) pe_int (fun _ _ => rfl))))
      (pa_cons (pe_op op_mulW (pe_ix ix_tup (pv 0) pe_int (fun _ _ => rfl)) (pe_ix ix_tup (pv 1) pe_int (fun _ _ => rfl))) pa_nil)))), ?_⟩
    refine ⟨_, rfl, a, _, _, _, rfl, rfl, h1, atI_nat (j := 0) rfl, _, rfl, b, _, _, _, rfl, rfl, h2, atI_nat (j := 1) rfl, _, _, rfl, rfl, d1.big.c d2.low,
      _, rfl, b, _, _, _, rfl, rfl, h2, atI_nat (j := 0) rfl, _, rfl, a, _, _, _, rfl, rfl, h1, atI_nat (j := 1) rfl, _, _, rfl, rfl, d2.big.c d1.low, _, _, rfl, rfl,
      _, rfl, a, _, _, _, rfl, rfl, h1, atI_nat (j := 1) rfl, _, rfl, b, _, _, _, rfl, rfl, h2, atI_nat (j := 1) rfl, _, _, rfl, rfl, d1.low.c d2.low, ?_⟩
    exact ⟨_, _, rfl, Int.mul_pos d1.pos d2.pos, wide_lt d1.low d2.low, fun p hp => k p hp⟩
theorem ok_lless (F : Fun K "_law_less" "_law_less" sLLess f fd) (C : Cal P w K mg base 1 "_law_ratio" spLRatio) : FnOk P w K mg base CX0 2 f fd ["one", "other"] (spOp K sub domL) := by
  refine F.ok (scLOp 48 (by decide)) (fun vs H Q E h => ?_) (fun cdv A outer s H vs Q E hr h => ?_)
  · obtain ⟨x, y, q, r, rfl, _⟩ := h
    rfl
  · obtain ⟨x, y, q, r, rfl, ⟨a, rfl, h1⟩, ⟨b, rfl, h2⟩, ⟨d1, d2⟩, k⟩ := h
    refine ⟨_, pss_one (ps_ret (pe_n C hr (by decide) (by rfl) (pa_cons (pe_op op_sub (pe_op op_mulW (pe_ix ix_tup (pv 0) pe_int (fun _ _ => rfl)) (pe_ix ix_tup (pv 1) pe_int (fun _ _ => rfl))) (pe_op op_mulW (pe_ix ix_tup (pv 1) pe_int (fun _ _ => rfl)) (pe_ix ix_tup (pv 0) pe_int (fun _ _ => rfl))))
      (pa_cons (pe_op op_mulW (pe_ix ix_tup (pv 0) pe_int (fun _ _ => rfl)) (pe_ix ix_tup (pv 1) pe_int (fun _ _ => rfl))) pa_nil)))), ?_⟩
    refine ⟨_, rfl, a, _, _, _, rfl, rfl, h1, atI_nat (j := 0) rfl, _, rfl, b, _, _, _, rfl, rfl, h2, atI_nat (j := 1) rfl, _, _, rfl, rfl, d1.big.c d2.low,
      _, rfl, b, _, _, _, rfl, rfl, h2, atI_nat (j := 0) rfl, _, rfl, a, _, _, _, rfl, rfl, h1, atI_nat (j := 1) rfl, _, _, rfl, rfl, d2.big.c d1.low, _, _, rfl, rfl,
      _, rfl, a, _, _, _, rfl, rfl, h1, atI_nat (j := 1) rfl, _, rfl, b, _, _, _, rfl, rfl, h2, atI_nat (j := 1) rfl, _, _, rfl, rfl, d1.low.c d2.low, ?_⟩
    exact ⟨_, _, rfl, Int.mul_pos d1.pos d2.pos, wide_lt d1.low d2.low, fun p hp => k p hp⟩
theorem ok_ltimes (F : Fun K "_law_times" "_law_times" sLTimes f fd) (C : Cal P w K mg base 1 "_law_ratio" spLRatio) : FnOk P w K mg base CX0 2 f fd ["one", "other"] (spOp K mul domL) := by
  refine F.ok (scLOp 49 (by decide)) (fun vs H Q E h => ?_) (fun cdv A outer s H vs Q E hr h => ?_)
  · obtain ⟨x, y, q, r, rfl, _⟩ := h
    rfl
  · obtain ⟨x, y, q, r, rfl, ⟨a, rfl, h1⟩, ⟨b, rfl, h2⟩, ⟨d1, d2⟩, k⟩ := h
    refine ⟨_, pss_one (ps_ret (pe_n C hr (by decide) (by rfl) (pa_cons (pe_op op_mulW (pe_ix ix_tup (pv 0) pe_int (fun _ _ => rfl)) (pe_ix ix_tup (pv 1) pe_int (fun _ _ => rfl)))
      (pa_cons (pe_op op_mulW (pe_ix ix_tup (pv 0) pe_int (fun _ _ => rfl)) (pe_ix ix_tup (pv 1) pe_int (fun _ _ => rfl))) pa_nil)))), ?_⟩
    refine ⟨_, rfl, a, _, _, _, rfl, rfl, h1, atI_nat (j := 0) rfl, _, rfl, b, _, _, _, rfl, rfl, h2, atI_nat (j := 0) rfl, _, _, rfl, rfl, d1.big.c d2.big,
      _, rfl, a, _, _, _, rfl, rfl, h1, atI_nat (j := 1) rfl, _, rfl, b, _, _, _, rfl, rfl, h2, atI_nat (j := 1) rfl, _, _, rfl, rfl, d1.low.c d2.low, ?_⟩
    exact ⟨_, _, rfl, Int.mul_pos d1.pos d2.pos, wide_lt d1.low d2.low, fun p hp => k p hp⟩
/-- _law_power(one, many): one in least terms -/
def spLPower (K : PySem.W.Frag) : Sp := fun vs H Q _ => ∃ (x : V) (q : F) (n : Int), vs = [x, .int n] ∧ Fr K H x q ∧ Ok q ∧ Lt2 6 q.1 ∧ Lt2 6 q.2 ∧ 0 ≤ n ∧ n ≤ 20 ∧ ∀ H' p, Same H H' → H' p = some (fr (pw q n.toNat)) → Q (.ref p) H'
/-- _law_divided(one, far): the quotient, far not nought -/
def spLDivided (K : PySem.W.Frag) : Sp := fun vs H Q _ => ∃ (x y : V) (q r : F), vs = [x, y] ∧ Fr K H x q ∧ Fr K H y r ∧ domL q r ∧ r.1 ≠ 0 ∧ ∀ H' p, Same H H' → H' p = some (fr (div q r)) → Q (.ref p) H'
theorem lt2_neg {n : Nat} {x : Int} (h : Lt2 n x) : Lt2 n (-x) := by
  unfold Lt2 at h ⊢
  rw [Int.natAbs_neg]
  exact h
end
end Rs


set_option Elab.async false
set_option linter.all false
set_option maxRecDepth 100000
set_option maxHeartbeats 400000
namespace Rs
open PySem L2 Bs Fq
abbrev sBegin : Stmt := top 44
abbrev sDraw : Stmt := top 45
abbrev sSmall : Stmt := top 54
/-! ### the state -/
def dS (c l : Addr) (t : Int) : List (Key × V) := [(Sum.inr "cells", .ref c), (Sum.inr "lefts", .ref l), (Sum.inr "at", .int t), (Sum.inr "room", .int 0)]
theorem val_cells (c l : Addr) (t : Int) : valV (dS c l t) (Sum.inr "cells") = some (.ref c) := by rfl
theorem val_lefts (c l : Addr) (t : Int) : valV (dS c l t) (Sum.inr "lefts") = some (.ref l) := by rfl
theorem val_at (c l : Addr) (t : Int) : valV (dS c l t) (Sum.inr "at") = some (.int t) := by rfl
theorem put_at (c l : Addr) (t u : Int) : putK (dS c l t) (Sum.inr "at") (.int u) = dS c l u := by rfl
structure Sta (H : Hp) (p c l : Addr) (n : Nat) (t : Int) : Prop where
  d : H p = some (.dK (dS c l t))
  cs : ∃ cs : List Int, H c = some (.lst (cs.map V.int)) ∧ cs.length = n
  ls : ∃ ls : List Int, H l = some (.lst (ls.map V.int)) ∧ ls.length = n ∧ ∀ z ∈ ls, 0 ≤ z
  ne : c ≠ l
  n1 : 1 ≤ n
  n2 : n ≤ 63
  t0 : 0 ≤ t
section
variable {H H' : Hp} {p c l : Addr} {n : Nat} {t : Int}
theorem Sta.gCells (S : Sta H p c l n t) : DGet H p (.str "cells") (some (.ref c)) := by
  have := DGet.k (k := (Sum.inr "cells" : Key)) S.d
  rwa [val_cells] at this
theorem Sta.gLefts (S : Sta H p c l n t) : DGet H p (.str "lefts") (some (.ref l)) := by
  have := DGet.k (k := (Sum.inr "lefts" : Key)) S.d
  rwa [val_lefts] at this
theorem Sta.gAt (S : Sta H p c l n t) : DGet H p (.str "at") (some (.int t)) := by
  have := DGet.k (k := (Sum.inr "at" : Key)) S.d
  rwa [val_at] at this
theorem Sta.pc (S : Sta H p c l n t) : p ≠ c := by
  obtain ⟨cs, h, _⟩ := S.cs
  exact ne_of S.d h (by intro z; cases z)
theorem Sta.pl (S : Sta H p c l n t) : p ≠ l := by
  obtain ⟨ls, h, _⟩ := S.ls
  exact ne_of S.d h (by intro z; cases z)
theorem Sta.mono (S : Sta H p c l n t) (e : Same H H') : Sta H' p c l n t := by
  obtain ⟨cs, a1, a2⟩ := S.cs
  obtain ⟨ls, b1, b2⟩ := S.ls
  exact ⟨e _ _ S.d, ⟨cs, e _ _ a1, a2⟩, ⟨ls, e _ _ b1, b2⟩, S.ne, S.n1, S.n2, S.t0⟩
/-- the state alone was changed -/
def Kp (p l : Addr) (H H' : Hp) : Prop := ∀ b o, H b = some o → b ≠ p → b ≠ l → H' b = some o
theorem Kp.trans {H1 H2 H3 : Hp} (a : Kp p l H1 H2) (b : Kp p l H2 H3) : Kp p l H1 H3 := fun x o e n1 n2 => b x o (a x o e n1 n2) n1 n2
theorem Kp.of (e : Same H H') : Kp p l H H' := fun x o h _ _ => e x o h
theorem Kp.fr {K : PySem.W.Frag} {v : V} {q : F} (k : Kp p l H H') (S : Sta H p c l n t) (h : Fr K H v q) : Fr K H' v q := by
  obtain ⟨a, rfl, s⟩ := h
  obtain ⟨ls, b1, _⟩ := S.ls
  refine ⟨a, rfl, ?_⟩
  rcases s with (s | ⟨o, s⟩) | s
  · exact .inl (.inl (k a _ s (ne_of s S.d (by intro z; cases z)) (ne_of s b1 (by intro z; cases z))))
  · exact .inl (.inr ⟨o, k a _ s (ne_of s S.d (by intro z; cases z)) (ne_of s b1 (by intro z; cases z))⟩)
  · exact .inr s
end
/-- _law_draw(state, many) -/
def spDraw : Sp := fun vs H Q _ => ∃ (p c l : Addr) (n : Nat) (t m : Int), vs = [.ref p, .int m] ∧ Sta H p c l n t ∧ t ≤ 10000 ∧ 1 ≤ m ∧ m < 1000000 ∧
  ∀ (H' : Hp) (r : Int), 0 ≤ r → r < m → Sta H' p c l n (t + 1) → Kp p l H H' → Q (.int r) H'
section
variable {P : Program} {w : World} {K : PySem.W.Frag} {mg : Str → Option Value} {base : Heap} {f : Addr} {fd : FuncData}
theorem scDraw : FnScope ["state", "many", "at", "place", "left", "number"] ["state", "many"] (defScope sDraw) := ⟨rfl, rfl, rfl, by decide +kernel, rfl, by decide +kernel, by decide +kernel⟩
theorem int_at {cs : List Int} {i : Nat} (h : i < cs.length) : ∃ z, cs[i]? = some z ∧ (cs.map V.int)[i]? = some (V.int z) := by
  refine ⟨cs[i], List.getElem?_eq_getElem h, ?_⟩
  rw [List.getElem?_map, List.getElem?_eq_getElem h]
  rfl
theorem ok_draw (F : Fun K "_law_draw" "_law_draw" sDraw f fd) (T : Blt mg) (C : Cal P w K mg base 1 "_law_mixed" spMixed) : FnOk P w K mg base CX0 2 f fd ["state", "many"] spDraw := by
  refine F.ok scDraw (fun vs H Q E h => ?_) (fun cdv A outer s H vs Q E hr h => ?_)
  · obtain ⟨p, c, l, n, t, m, rfl, _⟩ := h
    rfl
  · obtain ⟨p, c, l, n, t, m, rfl, S, ht, m1, m2, k⟩ := h
    have hu := hu_of hr
    refine ⟨_, pss_cons (ps_set (i := 2) scDraw.nd rfl (Or.inl rfl) (pe_dget hu (pv 0) pe_str (fun _ _ => rfl)))
      (pss_cons (ps_dput hu (pv 0) pe_str (pe_op op_add (pv 2) pe_int) rfl)
      (pss_cons (ps_set (i := 3) scDraw.nd rfl (Or.inl rfl) (pe_op op_mod (pe_callTy call_int1 (by rfl) T.int (by decide +kernel) (pa_cons (pv 2) pa_nil)) (pe_callB call_len_seq (by rfl) T.len PySem.boot_len (pa_cons (pe_dget hu (pv 0) pe_str (fun _ _ => rfl)) pa_nil))))
      (pss_cons (ps_set (i := 4) scDraw.nd rfl (Or.inl rfl) (pe_ix ix_list (pe_dget hu (pv 0) pe_str (fun _ _ => rfl)) (pv 3) (fun _ _ => rfl)))
      (pss_cons (ps_if (pt_cmpR op_gt (pv 4) pe_int (nomark _))
        (pss_cons (ps_asg (pe_op op_fdivN (pv 4) (pv 1)) (pg_sub (pe_dget hu (pv 0) pe_str (fun _ _ => rfl)) (pv 3) set_list))
          (pss_one (ps_ret (pe_op op_mod (pe_callTy call_int1 (by rfl) T.int (by decide +kernel) (pa_cons (pv 4) pa_nil)) (pv 1))))) pss_nil)
      (pss_cons (ps_set (i := 5) scDraw.nd rfl (Or.inl rfl) (pe_n C hr (by decide) (by rfl) (pa_cons (pe_n C hr (by decide) (by rfl) (pa_cons (pe_ix ix_list (pe_dget hu (pv 0) pe_str (fun _ _ => rfl)) (pv 3) (fun _ _ => rfl)) (pa_cons (pv 2) pa_nil))) (pa_cons (pe_op op_add pe_int (pv 2)) pa_nil))))
      (pss_one (ps_ret (pe_op op_mod (pe_op op_fdiv (pe_callTy call_int1 (by rfl) T.int (by decide +kernel) (pa_cons (pe_op op_add (pe_op op_mul (pv 5) pe_int) (pe_n C hr (by decide) (by rfl) (pa_cons (pv 5) (pa_cons (pe_op op_add pe_int (pv 2)) pa_nil)))) pa_nil)) pe_int) (pv 1))))))))), ?_⟩
    refine ⟨_, rfl, p, _, rfl, S.gAt, ?_⟩
    have S1 : Sta (upd H p (.dK (dS c l (t + 1)))) p c l n (t + 1) := by
      obtain ⟨cs, a1, a2⟩ := S.cs
      obtain ⟨ls, b1, b2, b3⟩ := S.ls
      exact ⟨upd_same, ⟨cs, by rw [upd_ne S.pc.symm]; exact a1, a2⟩, ⟨ls, by rw [upd_ne S.pl.symm]; exact b1, b2, b3⟩, S.ne, S.n1, S.n2, by have := S.t0; omega⟩
    have k1 : Kp p l H (upd H p (.dK (dS c l (t + 1)))) := fun b o e n1 _ => (upd_ne n1).trans e
    refine ⟨_, rfl, _, _, rfl, rfl, _, rfl, p, _, rfl, DPut.k (k := Sum.inr "at") S.d (by show 4 < sizeLine; decide), ?_⟩
    rw [put_at]
    generalize upd H p (.dK (dS c l (t + 1))) = H1 at S1 k1 ⊢
    obtain ⟨cs, a1, a2⟩ := S1.cs
    obtain ⟨ls, b1, b2, b3⟩ := S1.ls
    have n1 := S.n1
    have t0 := S.t0
    have r0 := Int.emod_nonneg t (b := (n : Int)) (by omega)
    have r1 := Int.emod_lt_of_pos t (b := (n : Int)) (by omega)
    obtain ⟨i, hi⟩ : ∃ i : Nat, t % (n : Int) = (i : Int) := ⟨(t % (n : Int)).toNat, by omega⟩
    have hin : i < n := by omega
    obtain ⟨zc, c1, c2⟩ := int_at (cs := cs) (i := i) (by omega)
    obtain ⟨zl, l1, l2⟩ := int_at (cs := ls) (i := i) (by omega)
    have zl0 : 0 ≤ zl := b3 zl (List.mem_of_getElem? l1)
    refine ⟨_, rfl, .inl ⟨t, rfl, _, rfl, p, _, rfl, S1.gCells, c, _, rfl, .inl (SqL.of a1), _, _, rfl, rfl, ?_, ?_⟩⟩
    · show (0 : Int) < ((cs.map V.int).length : Nat)
      rw [List.length_map, a2]
      omega
    · rw [List.length_map, a2]
      have l3 : atI (ls.map V.int) (t % (n : Int)) = some (V.int zl) := by
        rw [hi]
        exact atI_nat l2
      have c3 : atI (cs.map V.int) (t % (n : Int)) = some (V.int zc) := by
        rw [hi]
        exact atI_nat c2
      have hix : ixN (ls.map V.int).length (t % (n : Int)) = some i := by
        rw [hi, List.length_map, b2]
        unfold ixN
        rw [if_pos (by omega), if_pos (by omega)]
        simp
      refine ⟨_, rfl, p, _, rfl, S1.gLefts, _, rfl, l, _, _, _, rfl, rfl, SqL.of b1, l3, ?_⟩
      refine ⟨_, rfl, _, _, rfl, rfl, _, rfl, ?_⟩
      refine ite2 (fun q => ?_) (fun q => ?_)
      · refine ⟨_, rfl, _, rfl, _, _, rfl, rfl, ⟨by omega, by omega⟩, ?_⟩
        refine ⟨_, rfl, p, _, rfl, S1.gLefts, _, rfl, l, _, _, i, rfl, rfl, b1, hix, ?_⟩
        refine ⟨_, rfl, .inl ⟨zl, rfl, _, rfl, _, _, rfl, rfl, (by show (0 : Int) < m; omega), ?_⟩⟩
        refine k _ _ (Int.emod_nonneg _ (by omega)) (Int.emod_lt_of_pos _ (by omega)) ⟨?_, ⟨cs, ?_, a2⟩, ⟨ls.set i (zl.fdiv m), ?_, ?_, ?_⟩, S1.ne, S1.n1, S1.n2, S1.t0⟩ (k1.trans (fun b o e _ n2 => (upd_ne n2).trans e))
        · rw [upd_ne S1.pl]
          exact S1.d
        · rw [upd_ne S1.ne]
          exact a1
        · rw [upd_same, List.map_set]
        · rw [List.length_set, b2]
        · intro z hz
          rcases List.mem_or_eq_of_mem_set hz with h | h
          · exact b3 z h
          · rw [h, Int.fdiv_eq_ediv_of_nonneg _ (by omega)]
            exact Int.ediv_nonneg zl0 (by omega)
      · refine ⟨_, rfl, p, _, rfl, S1.gCells, _, rfl, c, _, _, _, rfl, rfl, SqL.of a1, c3, _, rfl, zc, t, rfl, t0, by omega, fun x x0 x1 => ?_⟩
        refine ⟨_, rfl, _, _, rfl, rfl, x, 40 + t, rfl, by omega, by omega, fun y y0 y1 => ?_⟩
        refine ⟨_, rfl, _, _, rfl, rfl, .inl ⟨by omega, by omega⟩, _, rfl, _, rfl, _, _, rfl, rfl, y, 7 + t, rfl, by omega, by omega, fun z z0 z1 => ?_⟩
        refine ⟨_, _, rfl, rfl, .inl ⟨_, rfl, _, _, rfl, rfl, ⟨by decide, by decide⟩, _, rfl, _, _, rfl, rfl, (by show (0 : Int) < m; omega), ?_⟩⟩
        exact k _ _ (Int.emod_nonneg _ (by omega)) (Int.emod_lt_of_pos _ (by omega)) S1 k1
end
end Rs


set_option Elab.async false
set_option linter.all false
set_option maxRecDepth 100000
set_option maxHeartbeats 400000
namespace Rs
open PySem L2 Bs Fq
/-- _law_begin(script) -/
def spBegin (K : PySem.W.Frag) : Sp := fun vs H Q _ => ∃ (a : Addr) (ns : List Int), vs = [.ref a] ∧ SqL K H a (ns.map V.int) ∧ ns.length ≤ 63 ∧
  ∀ (H' : Hp) (p c l : Addr) (n : Nat), Same H H' → H p = none → H l = none → Sta H' p c l n 0 → Q (.ref p) H'
/-- _law_of(state, some) -/
def spOf (K : PySem.W.Frag) : Sp := fun vs H Q _ => ∃ (p c l b : Addr) (n : Nat) (t : Int) (xs : List V), vs = [.ref p, .ref b] ∧ Sta H p c l n t ∧ t ≤ 10000 ∧ SqL K H b xs ∧ 1 ≤ xs.length ∧ xs.length ≤ 1000 ∧ b ≠ l ∧
  ∀ (H' : Hp) (v : V), v ∈ xs → Sta H' p c l n (t + 1) → Kp p l H H' → Q v H'
/-- _law_small(state) -/
def spSmall : Sp := fun vs H Q _ => ∃ (p c l : Addr) (n : Nat) (t : Int), vs = [.ref p] ∧ Sta H p c l n t ∧ t ≤ 9000 ∧
  ∀ (H' : Hp) (b : Addr) (x y : Int), -6 ≤ x → x ≤ 6 → 1 ≤ y → y ≤ 3 → H' b = some (fr (red x y)) → Sta H' p c l n (t + 2) → Kp p l H H' → Q (.ref b) H'
section
variable {P : Program} {w : World} {K : PySem.W.Frag} {mg : Str → Option Value} {base : Heap} {f : Addr} {fd : FuncData}
theorem scBegin : FnScope ["script", "cells", "cell"] ["script"] (defScope sBegin) := ⟨rfl, rfl, rfl, by decide +kernel, rfl, by decide +kernel, by decide +kernel⟩
theorem dp_ints {K : PySem.W.Frag} {H : Hp} : ∀ ns : List Int, DpAll K H (ns.map V.int) (ns.map PyData.int)
  | [] => .nil
  | n :: ns => .cons (.int n) (dp_ints ns)
def left (z : Int) : Int := if z ≥ 10 ^ 18 then z else 0
theorem left_nonneg (z : Int) : 0 ≤ left z := by
  unfold left
  split
  · have : (0 : Int) ≤ 10 ^ 18 := by decide
    omega
  · omega
theorem can_ints : ∀ ns : List Int, PyData.canLayAll0 (ns.map PyData.int) = true
  | [] => by simp [PyData.canLayAll0]
  | n :: ns => by
    have := can_ints ns
    simp [PyData.canLayAll0, PyData.canLay0, this]
theorem dep_ints : ∀ ns : List Int, PyData.depthAll (ns.map PyData.int) ≤ 1
  | [] => by simp [PyData.depthAll]
  | n :: ns => by
    have := dep_ints ns
    simp only [List.map_cons, PyData.depthAll, PyData.depth]
    omega
theorem shaped_ints (ns : List Int) : SeqAt.shaped (.list (ns.map PyData.int)) = true := by
  unfold SeqAt.shaped
  rw [Bool.and_eq_true_iff]
  refine ⟨?_, decide_eq_true ?_⟩
  · simpa [PyData.canLay0] using can_ints ns
  · have := dep_ints ns
    simp only [PyData.depth]
    omega
theorem some_int {cs : List Int} {i : Nat} {x : V} (h : (cs.map V.int)[i]? = some x) : ∃ z, cs[i]? = some z ∧ x = V.int z := by
  rw [List.getElem?_map] at h
  cases e : cs[i]? with
  | none =>
    rw [e] at h
    cases h
  | some z =>
    rw [e] at h
    exact ⟨z, rfl, (Option.some.inj h).symm⟩
theorem take_one {α : Type} {l : List α} {i : Nat} {x : α} (h : l[i]? = some x) : l.take (i + 1) = l.take i ++ [x] := by
  rw [List.take_add_one, h]
  rfl
theorem ok_begin (F : Fun K "_law_begin" "_law_begin" sBegin f fd) (T : Blt mg) : FnOk P w K mg base CX0 2 f fd ["script"] (spBegin K) := by
  refine F.ok scBegin (fun vs H Q E h => ?_) (fun cdv A outer s H vs Q E hr h => ?_)
  · obtain ⟨a, ns, rfl, _⟩ := h
    rfl
  · obtain ⟨a, ns, rfl, hS, hl, k⟩ := h
    refine ⟨_, C8.pss_cut (ps_set (i := 1) scBegin.nd rfl (Or.inl rfl) (pe_ifExp (pt_cmpR (op_neD hr.units) (pv 0) (pe_lst pa_nil) (nomark _)) (pe_callTy call_list_of (by rfl) T.list (by decide +kernel) (pa_cons (pv 0) pa_nil)) (pe_lst (pa_cons pe_int pa_nil))))
      (pss_one (ps_ret (pe_disp (pps_cons pe_str (pv 1) (pps_cons pe_str (pe_lc (own := [("cell", 2)]) (g := gName 2) (tt := tYes) rfl scBegin.nd (pi_list (pv 1)) (blkOk_by (N := ["script", "cells", "cell"]) (sc := defScope sBegin) (by decide +kernel))
          (fun _ _ _ _ _ => pg_name (i := 2) scBegin.nd rfl (Or.inl rfl)) (fun _ _ _ _ _ => pts_nil) (fun _ _ _ _ _ => pe_ifExp (pt_cmpR op_ge (pv 2) (pe_op op_pow pe_int pe_int) (nomark _)) (pv 2) pe_int))
        (pps_cons pe_str pe_int (pps_cons pe_str pe_int pps_nil)))) (by rfl) (by rfl) (fun z => by cases z) (by decide)))), ?_⟩
    refine ⟨fun σ H1 => ∃ (c : Addr) (cs : List Int), Same H H1 ∧ H1 c = some (.lst (cs.map V.int)) ∧ 1 ≤ cs.length ∧ cs.length ≤ 63 ∧ σ = [some (V.ref a), some (V.ref c), none], ?_, ?_⟩
    · refine ⟨_, rfl, (by show 0 ≤ sizeLine; decide), fun p0 hp0 => ?_⟩
      have s0 : Same H (upd H p0 (.lst [])) := same_new hp0
      refine ⟨.list (ns.map PyData.int), .list [], .lst (s0.seq hS) (dp_ints ns), .lst (SqL.of upd_same) .nil, ?_, rfl, _, rfl, ?_⟩
      · exact shaped_ints ns
      · have e : PyData.eqv (.list (ns.map PyData.int)) (.list []) = ns.isEmpty := by
          cases ns <;> rfl
        show if (!PyData.eqv (.list (ns.map PyData.int)) (.list [])) = true then _ else _
        rw [e]
        cases hn : ns with
        | nil =>
          refine iteF ⟨(by show 1 ≤ sizeLine; decide), fun p1 hp1 => ?_⟩
          exact ⟨p1, [0], s0.trans (same_new hp1), upd_same, Nat.le_refl _, (by show 1 ≤ 63; decide), rfl⟩
        | cons n ns' =>
          refine iteT ⟨_, rfl, a, _, rfl, .inl (s0.seq hS), fun p1 hp1 => ?_⟩
          exact ⟨p1, ns, s0.trans (same_new hp1), upd_same, by rw [hn]; exact Nat.succ_le_succ (Nat.zero_le _), hl, rfl⟩
    · rintro σ H1 ⟨c, cs, s1, hc, l1, l2, rfl⟩
      intro p hp
      have sp : Same H1 (upd H1 p (.dK [])) := same_new hp
      refine ⟨_, rfl, ?_⟩
      have np : H1 p = none := hp
      have hpc : c ≠ p := ne_of_none hc np
      refine ⟨_, rfl, c, rfl, ⟨_, SqL.of (sp _ _ hc)⟩, fun D hD => lc_list (K := K) (a := c) (xs := cs.map V.int)
        (fun i H2 => Same (upd H1 p (.dK [])) H2 ∧ H2 D = some (.lst ((cs.take i).map (fun z => V.int (left z))))) ⟨same_new hD, upd_same⟩ (fun i H2 _ z => SqL.of (z.1 _ _ (sp _ _ hc))) ?_ ?_⟩
      · rintro i x H2 hx ⟨s2, hD2⟩
        obtain ⟨z, hz, rfl⟩ := some_int hx
        have ln : (cs.take i).length ≤ 63 := by rw [List.length_take]; omega
        have fin : ∀ u : Int, u = left z → ∃ acc, H2 D = some (.lst acc) ∧ acc.length < sizeLine ∧ (Same (upd H1 p (.dK [])) (upd H2 D (.lst (acc ++ [V.int u]))) ∧ upd H2 D (.lst (acc ++ [V.int u])) D = some (.lst ((cs.take (i + 1)).map (fun z => V.int (left z))))) := by
          rintro u rfl
          refine ⟨_, hD2, by rw [List.length_map]; exact small1000 (by omega), fun b o e => ?_, ?_⟩
          · have : b ≠ D := ne_of_none e hD
            exact (upd_ne this).trans (s2 b o e)
          · rw [upd_same, take_one hz, List.map_append]
            rfl
        refine ⟨rfl, ?_⟩
        refine iteT (B := Same (upd H1 p (.dK [])) H2 ∧ H2 D = some (.lst ((cs.take (i + 1)).map (fun z => V.int (left z))))) ?_
        refine ⟨_, rfl, _, _, rfl, rfl, ⟨by decide, by decide, by decide⟩, _, _, rfl, rfl, _, rfl, ?_⟩
        refine ite2 (fun q => ⟨_, rfl, ?_⟩) (fun q => ?_)
        · have q' : z ≥ 10 ^ 18 := of_decide_eq_true q
          exact fin z (show z = left z from (if_pos q').symm)
        · have q' : ¬ z ≥ 10 ^ 18 := fun w => q (decide_eq_true w)
          exact fin 0 (show 0 = left z from (if_neg q').symm)
      · rintro H2 ⟨s2, hD2⟩
        have hpD : p ≠ D := by
          intro z
          rw [← z, upd_same] at hD
          cases hD
        rw [List.length_map, List.take_length] at hD2
        refine ⟨s2 _ _ upd_same, dS c D 0, rfl, (by show 4 ≤ 15; decide), ?_⟩
        have hDn : H1 D = none := by
          rw [upd_ne hpD.symm] at hD
          exact hD
        refine k _ p c D cs.length ?_ ?_ ?_ ⟨upd_same, ⟨cs, ?_, rfl⟩, ⟨cs.map left, ?_, by rw [List.length_map], ?_⟩, ne_of_none hc hDn, l1, l2, Int.le_refl _⟩
        · intro b o e
          have nb : b ≠ p := ne_of_none (s1 b o e) np
          rw [upd_ne nb]
          exact s2 b o (sp b o (s1 b o e))
        · exact s1.free np
        · exact s1.free hDn
        · rw [upd_ne hpc]
          exact s2 _ _ (sp _ _ hc)
        · rw [upd_ne hpD.symm, hD2, List.map_map]
          rfl
        · intro z hz
          obtain ⟨y, _, rfl⟩ := List.mem_map.mp hz
          exact left_nonneg y
end
end Rs


set_option Elab.async false
set_option linter.all false
set_option maxRecDepth 100000
set_option maxHeartbeats 400000
namespace Rs
open PySem L2 Bs Fq
theorem Kp.lst {K : PySem.W.Frag} {H H' : Hp} {p c l b : Addr} {n : Nat} {t : Int} {xs : List V} (k : Kp p l H H') (S : Sta H p c l n t) (h : SqL K H b xs) (nb : b ≠ l) : SqL K H' b xs := by
  rcases h with (s | ⟨o, s⟩) | s
  · exact .inl (.inl (k b _ s (ne_of s S.d (by intro z; cases z)) nb))
  · exact .inl (.inr ⟨o, k b _ s (ne_of s S.d (by intro z; cases z)) nb⟩)
  · exact .inr s
section
variable {P : Program} {w : World} {K : PySem.W.Frag} {mg : Str → Option Value} {base : Heap} {f : Addr} {fd : FuncData}
theorem scSmall : FnScope ["state"] ["state"] (defScope sSmall) := ⟨rfl, rfl, rfl, by decide +kernel, rfl, by decide +kernel, by decide +kernel⟩
theorem ok_small (F : Fun K "_law_small" "_law_small" sSmall f fd) (D : Cal P w K mg base 2 "_law_draw" spDraw) (R : Cal P w K mg base 1 "_law_ratio" spLRatio) : FnOk P w K mg base CX0 3 f fd ["state"] spSmall := by
  refine F.ok scSmall (fun vs H Q E h => ?_) (fun cdv A outer s H vs Q E hr h => ?_)
  · obtain ⟨p, c, l, n, t, rfl, _⟩ := h
    rfl
  · obtain ⟨p, c, l, n, t, rfl, S, t1, k⟩ := h
    refine ⟨_, pss_one (ps_ret (pe_n R hr (by decide) (by rfl) (pa_cons (pe_op op_sub (pe_n D hr (by decide) (by rfl) (pa_cons (pv 0) (pa_cons pe_int pa_nil))) pe_int)
      (pa_cons (pe_op op_add pe_int (pe_n D hr (by decide) (by rfl) (pa_cons (pv 0) (pa_cons pe_int pa_nil)))) pa_nil)))), ?_⟩
    refine ⟨_, rfl, p, c, l, n, t, 13, rfl, S, by omega, by decide, by decide, fun H1 x x0 x1 S1 k1 => ?_⟩
    refine ⟨_, _, rfl, rfl, _, rfl, p, c, l, n, t + 1, 3, rfl, S1, by omega, by decide, by decide, fun H2 y y0 y1 S2 k2 => ?_⟩
    refine ⟨_, _, rfl, rfl, _, _, rfl, by omega, ?_, fun b hb => ?_⟩
    · have : (1 + y).natAbs < 2 ^ 2 := by omega
      exact Lt2.mono (m := 2) this (by decide)
    · have e : t + 1 + 1 = t + 2 := by omega
      rw [e] at S2
      refine k _ b (x - 6) (1 + y) (by omega) (by omega) (by omega) (by omega) upd_same (S2.mono (same_new hb)) ((k1.trans k2).trans (Kp.of (same_new hb)))
end
end Rs


set_option Elab.async false
set_option linter.all false
set_option maxRecDepth 100000
set_option maxHeartbeats 2000000
/-! several clauses, each with a name of its own: try: .. except A as e: .. except B as e: .. -/
namespace TA2
open PySem PySem.Spec PyProof.Rows L2
abbrev Suite := Addr → Value → Option Addr → TS
/-- what the suite's ends are where the name in slot i goes behind it -/
def less (D : Ends) (i : Nat) : Ends where
  nx := fun τ G => D.nx (τ.set i none) G
  rt := D.rt
  bk := fun τ G => D.bk (τ.set i none) G
  ct := fun τ G => D.ct (τ.set i none) G
/-- the wishes of the clauses in turn: (class, slot, suite) -/
def wish (K : PySem.W.Frag) (nn : Nat) (Wo : WX) (D : Ends) : List (Value × Nat × Suite) → WX
  | [] => Wo
  | (c, i, ts) :: more => fun cls d τ G => ∃ b, PySem.W.exmOne K cls c = some b ∧
      (b = true → τ.length = nn → ∀ a, G a = none → ts a cls d (less D i) (τ.set i (some (.ref a))) G) ∧ (b = false → wish K nn Wo D more cls d τ G)
inductive Clauses (X : Cx) : List ExceptHandler → List (Value × Nat × Suite) → Prop
  | stop : Clauses X [] []
  | more {x n : Str} {c : Value} {i : Nat} {ts : Suite} {b0 : Stmt} {su : List Stmt} {p1 p2 : Pos} {hs : List ExceptHandler} {l : List (Value × Nat × Suite)}
      (named : Names X x c) (at_ : X.N[i]? = some n) (loc : X.env.kindOf n = some .local)
      (suite : ∀ (a : Addr) (oe : Obj) (cls : Value) (d : Option Addr) (pn : List (Addr × Obj)), Zc cls d oe → (∃ vs, oe.data = .fields vs) → PSs (X.suite a ((a, oe) :: pn)) (b0 :: su) (ts a cls d))
      (rest : Clauses X hs l) : Clauses X (.ExceptHandler (some (.Name x p1)) (some n) (b0 :: su) p2 :: hs) ((c, i, ts) :: l)
section
variable {X : Cx} {body : List Stmt} {hd0 : ExceptHandler} {hds : List ExceptHandler} {l : List (Value × Nat × Suite)} {pos : Pos} {tb : WX → TS} {Wo : WX}
theorem try_as (hs : X.stack = X.env :: X.outer) (hf : X.env.frame = some X.env.locals) (hN : X.N.Nodup) (tk : Takes X Wo)
    (hb : ∀ (W : WX) (pn : List (Addr × Obj)) (xe : Value → Shared → Prop), Takes (X.tr pn xe) W → PassesOwn (model X.prog X.w) X.A X.env xe → PSs (X.tr pn xe) body (tb W))
    (cl : Clauses X (hd0 :: hds) l) : PS X (.Try body (hd0 :: hds) [] [] pos) (fun D τ G => tb (wish X.K X.N.length Wo D l) D τ G) := by
  constructor
  intro pins s τ G D I h
  have okX := I.ok
  have frms : X.A.frames = some (X.env :: X.outer) := okX.frames.trans (congrArg some hs)
  apply wpAny_Try_except
  refine wpAny_mono ((hb (wish X.K X.N.length Wo D l) (X.pn ++ pins)
    (fun e0 s1 => wpAny (model X.prog X.w) X.A (noteFrame e0 X.env)
      (fun _ s2 => wpAny (model X.prog X.w) X.A (setFlight e0 none)
        (fun _ s3 => wpAny (model X.prog X.w) X.A (handleBy e0 X.env (hd0 :: hds)) (SP X pins D) X.xe s3) X.xe s2) X.xe s1)
    (fun u s' caught => ?_) PassesOwn.looking).run [] s τ G D (I.toTry _) h) (fun f s1 hsp => ?_) (fun _ _ he => he)
  · obtain ⟨a, B, sI, pins', τ', G', cls, d, rfl, J0, nb, up, sky0, na, os, ag, w⟩ := caught
    have J : Inv X pins τ' G' sI := J0.ofTry okX
    have sky : Sky B (X.env :: X.outer) a (Zc cls d) X.env.locals s'.heap := hs ▸ sky0
    show wpAny (model X.prog X.w) X.A (noteFrame (.ref a) X.env) _ _ _
    refine Sky.land Zc.steady frms hf sky (fun hp3 fl3 up3 => ?_)
    have J3 : Inv X pins τ' G' { s' with heap := hp3 } := J.landed nb fl3.1 (up.trans up3) os ag
    obtain ⟨ob3, vs3, ho3, hz3, hd3⟩ := fl3.there
    have nfr : a ∉ frs (X.env :: X.outer) := by
      intro hm
      obtain ⟨_, o2, e2, hne⟩ := fl3.2.2.1.mem hm
      have : o2 = ob3 := Option.some.inj (e2.symm.trans ho3)
      exact hne _ (this ▸ hd3)
    have nLoc : a ≠ X.env.locals := by
      intro z
      exact nfr (List.mem_filterMap.mpr ⟨X.env, List.mem_cons_self, hf.trans (congrArg some z.symm)⟩)
    have nOut : a ∉ X.fs := by
      intro hm
      obtain ⟨en, he, q⟩ := List.mem_filterMap.mp hm
      exact nfr (List.mem_filterMap.mpr ⟨en, List.mem_cons_of_mem _ he, q⟩)
    have S3 := J3.suite ho3 hd3 na nLoc nOut
    have go : ∀ {hs' : List ExceptHandler} {l' : List (Value × Nat × Suite)}, Clauses X hs' l' → wish X.K X.N.length Wo D l' cls d τ' G' →
        wpAny (model X.prog X.w) X.A (handleBy (.ref a) X.env hs') (SP X pins D) X.xe { s' with heap := hp3 } := by
      intro hs' l' hk
      induction hk with
      | stop =>
        intro w0
        apply wpAny_handleBy_nil
        obtain ⟨_, _, _, oe, vs, T, oT, ts0, he, hz, hdt, h1, hr⟩ := id fl3
        unfold PySem.passOn
        refine wpAny_bind (wpAny_field he hdt h1 ?_)
        rw [if_neg (by simp : ¬ ((Value.ref T == Value.none) = true))]
        have out : wpAny (model X.prog X.w) X.A (setFlight (.ref a) X.env.frame)
            (fun _ s4 => wpAny (model X.prog X.w) X.A (throw (.ref a) : Sem Flow) (SP X pins D) X.xe s4) X.xe { s' with heap := hp3 } := by
          rw [hf]
          refine HandSPX.setFlight_upZ fl3 (fun hp4 hh4 up4 => wpAny_throw (tk _ _ ?_))
          exact ⟨a, B, sI, pins, τ', G', cls, d, rfl, J, nb, (up.trans up3).trans up4, .inr (.inr (hs ▸ hh4)), na, os, ag, w0⟩
        first
          | exact wpAny_bind out
          | exact wpAny_bind (wpAny_pure (wpAny_bind out))
      | @more x n c i ts b0 su p1 p2 hs2 l2 named at_ loc suite rest ih =>
        intro w0
        obtain ⟨b, hb1, yes, no⟩ := w0
        refine wpAny_handleBy_cons (codeAny_handlers_test ?_) (fun q => nomatch q)
        have LT : PySem.W.Looks (model X.prog X.w) hp3 (typeOf (.ref a)) cls := fun A Q E s k q => wpAny_typeOf_ref (k _ _ ho3) (hz3.1 ▸ q)
        have LM := PySem.W.exm_one (M := model X.prog X.w) J3.kIn LT hb1
        have test : ∀ {Q : Value → Shared → Prop} {E : Value → Shared → Prop}, Q c { s' with heap := hp3 } →
            wpAny (model X.prog X.w) (X.A.mark (some (.ref a))) (eval (.Name x p1) X.env) Q E { s' with heap := hp3 } := by
          intro Q E q
          rcases named with ⟨g1, g2, hm | ⟨hm, hv, hnn⟩⟩
          · exact ld_glob (X := X.suite a ((a, ob3) :: (X.pn ++ pins))) S3 g1 hm q g2
          · exact ld_blt (X := X.suite a ((a, ob3) :: (X.pn ++ pins))) S3 g1 hm hv q hnn g2
        refine test (LM.here ?_)
        cases b with
        | false =>
          show wpAny _ X.A (handleBy (.ref a) X.env hs2) _ _ _
          exact ih (no rfl)
        | true =>
          apply codeAny_handlers_suite_as
          refine HandSPX.lands_againZ fl3 (fun hp4 fl4 up4 => ?_)
          have J4 : Inv X pins τ' G' { s' with heap := hp4 } := J.landed nb fl4.1 ((up.trans up3).trans up4) os ag
          obtain ⟨ob4, vs4, ho4, hz4, hd4⟩ := fl4.there
          have S4 := J4.suite ho4 hd4 na nLoc nOut
          refine store_ok (X := X.suite a ((a, ob4) :: (X.pn ++ pins))) (v := .ref a) S4 hN at_ (.inl loc) rfl (fun s5 S5 => ?_) (.inr loc)
          have ends : ∀ {s6 : Shared} {τ6 : L2.St} {G6 : Hp} {Q : Shared → Prop}, Inv (X.suite a ((a, ob4) :: (X.pn ++ pins))) [] τ6 G6 s6 →
              (∀ s7, Inv X pins (τ6.set i none) G6 s7 → Q s7) →
              wpAny (model X.prog X.w) X.A (do bindName X.env n .none; unbindBehindTheSuite X.env n p2) (fun _ s7 => Q s7) X.xe s6 :=
            fun {s6 τ6 G6 Q} S6 hq => gone_ok (S6.unsuite okX) hN at_ loc hq
          refine wpAny_mono ((suite a ob4 cls d (X.pn ++ pins) hz4 ⟨_, hd4⟩).run [] s5 _ G' _ S5 (yes rfl J.len a na)) (fun f s6 hsp => ?_) (fun _ _ z => z.elim)
          cases f with
          | ret u =>
            obtain ⟨v6, τ6, G6, S6, r6, q6⟩ := hsp
            exact ends S6 (fun s7 J7 => ⟨_, _, _, J7, r6, q6⟩)
          | next =>
            obtain ⟨τ6, G6, S6, q6⟩ := hsp
            exact ends S6 (fun s7 J7 => ⟨_, _, J7, q6⟩)
          | brk =>
            obtain ⟨τ6, G6, S6, q6⟩ := hsp
            exact ends S6 (fun s7 J7 => ⟨_, _, J7, q6⟩)
          | cont =>
            obtain ⟨τ6, G6, S6, q6⟩ := hsp
            exact ends S6 (fun s7 J7 => ⟨_, _, J7, q6⟩)
    exact go cl w
  · cases f with
    | ret u =>
      obtain ⟨v, τ1, G1, J1, r, q⟩ := hsp
      exact ⟨v, τ1, G1, J1.ofTry okX, r, q⟩
    | next =>
      obtain ⟨τ1, G1, J1, q⟩ := hsp
      exact wpAny_execs_nil ⟨τ1, G1, J1.ofTry okX, q⟩
    | brk =>
      obtain ⟨τ1, G1, J1, q⟩ := hsp
      exact ⟨τ1, G1, J1.ofTry okX, q⟩
    | cont =>
      obtain ⟨τ1, G1, J1, q⟩ := hsp
      exact ⟨τ1, G1, J1.ofTry okX, q⟩
end
end TA2


set_option Elab.async false
set_option linter.all false
set_option maxRecDepth 100000
set_option maxHeartbeats 2000000
/-! a lambda with one parameter that has an integer as its default, handed to a def that calls it without arguments -/
namespace LmD
open PySem PySem.Spec PyProof.Rows L2 LamX PySem.W
/-- the function's object: its default's tuple at T -/
abbrev fdD (qual : Str) (params : Arguments) (body : Expr) (scope : Scope) (cl : List (Str × Addr)) (T : Addr) (pm cdv ct : Value) : FuncData :=
  { kla_fn "<lambda>" qual params body scope cl pm cdv ct with defaults := .ref T }
abbrev obD (qual : Str) (params : Arguments) (body : Expr) (scope : Scope) (cl : List (Str × Addr)) (T : Addr) (pm cdv ct : Value) : Obj :=
  { cls := .type "function", data := .func (fdD qual params body scope cl T pm cdv ct) }
section
variable {M : Model} {A : Around} {E : Value → Shared → Prop} {s : Shared} {qual : Str} {params : Arguments} {body : Expr} {scope : Scope} {env : Env} {c P T : Addr} {ps : Array Value} {pos : Pos} {ln : Nat} {mg : Str → Option Value}
  {clos : List (Str × Addr)} {Q : Value → Shared → Prop}
theorem tailNew (hcl : closureFor scope env = pure clos) (g0 : env.globals = mainGlobals) (hg : s.heap.Ns mainGlobals mg) (hcode : env.code = .ref c) (C : CodeHd s.heap c P)
    (hP : s.heap.get? P = some (tabObj ps)) (ht : TriplesOk ps.toList) (hnf : codeAmong pos ps.toList = none) (hgP : mainGlobals ≠ P) (hb : s.heap.BuiltinsAt mg P)
    (h : ∀ c' ctv h' tk, Heap.ExtBut P s.heap h' → s.heap.objs.size ≤ c' → c' < h'.objs.size → h'.CodeRec (.ref c') qual →
      h'.get? P = some (tabObj (ps ++ #[rawInt pos.line, rawInt pos.col, .ref c'])) →
      Q (.ref h'.objs.size) { s with heap := h'.push (obD qual params body scope clos T ((mg "__name__").getD .none) (.ref c') ctv), toks := tk }) :
    wpAny M A (makeTail "<lambda>" qual params (.expr body) scope env (.ref T) .none none pos ln) Q E s := by
  obtain ⟨bm, ob, e1, e2, _, e3, e4, e5, e6, e7⟩ := hb
  unfold makeTail
  rw [hcl, g0]
  refine wpAny_bind (wpAny_pure ?_)
  by_cases hz : clos = []
  · subst hz
    simp only [List.isEmpty_nil, if_true]
    refine wpAny_bind (wpAny_pure (wpAny_bind (wpAny_functionCodeX hcode (C.code hP ht) (C.tab hP) hnf ?_)))
    intro c' h' tk hx hge hlt _ hrec htb _
    refine wpAny_bind (wpAny_builtinsFor (hg.extBut hx hgP) e1 e2 (hx _ _ e3 e4) e5 e6 e7 (wpAny_bind (wpAny_nsGet (hg.extBut hx hgP) ?_)))
    exact wpAny_bind (wpAny_pure (wpAny_newObj_type (h c' .none h' tk hx hge hlt hrec htb.2) (by size_fits)))
  · have hz' : clos.isEmpty = false := by
      cases clos with
      | nil => exact absurd rfl hz
      | cons _ _ => rfl
    simp only [hz', Bool.false_eq_true, if_false]
    have up : ∀ {oT : Obj} b o, s.heap.get? b = some o → (s.heap.push oT).get? b = some o := fun b o e => Heap.get?_push_of_some _ e
    refine wpAny_bind (wpAny_newTextTuple (wpAny_bind (wpAny_functionCodeX hcode ((C.keeps up).code (up _ _ hP) ht) ((C.keeps up).tab (up _ _ hP)) hnf ?_)))
    intro c' h' tk hx hge hlt _ hrec htb _
    have hx' : Heap.ExtBut P s.heap h' := fun b o nb e => hx b o nb (up _ _ e)
    have hgn := (hg.push _).extBut hx hgP
    have big : s.heap.objs.size ≤ c' := Nat.le_trans (by rw [Heap.size_push]; omega) hge
    refine wpAny_bind (wpAny_builtinsFor hgn e1 e2 (hx' _ _ e3 e4) e5 e6 e7 (wpAny_bind (wpAny_nsGet hgn ?_)))
    exact wpAny_bind (wpAny_pure (wpAny_newObj_type (h c' _ h' tk hx' big hlt hrec htb.2) (by size_fits)))
theorem tailOld {cv : Value} (hcl : closureFor scope env = pure clos) (g0 : env.globals = mainGlobals) (hg : s.heap.Ns mainGlobals mg) (hcode : env.code = .ref c) (C : CodeHd s.heap c P)
    (hP : s.heap.get? P = some (tabObj ps)) (ht : TriplesOk ps.toList) (hf : codeAmong pos ps.toList = some cv) (hb : s.heap.BuiltinsAt mg P)
    (h : ∀ (ctv : Value) (h' : Heap) (tk : Tok), (∀ b o, s.heap.get? b = some o → h'.get? b = some o) → s.heap.objs.size ≤ h'.objs.size →
      Q (.ref h'.objs.size) { s with heap := h'.push (obD qual params body scope clos T ((mg "__name__").getD .none) cv ctv), toks := tk }) :
    wpAny M A (makeTail "<lambda>" qual params (.expr body) scope env (.ref T) .none none pos ln) Q E s := by
  obtain ⟨bm, ob, e1, e2, _, e3, e4, e5, e6, e7⟩ := hb
  unfold makeTail
  rw [hcl, g0]
  refine wpAny_bind (wpAny_pure ?_)
  by_cases hz : clos = []
  · subst hz
    simp only [List.isEmpty_nil, if_true]
    refine wpAny_bind (wpAny_pure (wpAny_bind (wpAny_functionCode_hit hcode (C.code hP ht) hf ?_)))
    refine wpAny_bind (wpAny_builtinsFor hg e1 e2 e4 e5 e6 e7 (wpAny_bind (wpAny_nsGet hg ?_)))
    exact wpAny_bind (wpAny_pure (wpAny_newObj_type (h .none s.heap s.toks (fun _ _ e => e) (Nat.le_refl _)) (by size_fits)))
  · have hz' : clos.isEmpty = false := by
      cases clos with
      | nil => exact absurd rfl hz
      | cons _ _ => rfl
    simp only [hz', Bool.false_eq_true, if_false]
    have up : ∀ {oT : Obj} b o, s.heap.get? b = some o → (s.heap.push oT).get? b = some o := fun b o e => Heap.get?_push_of_some _ e
    refine wpAny_bind (wpAny_newTextTuple (wpAny_bind (wpAny_functionCode_hit hcode ((C.keeps up).code (up _ _ hP) ht) hf ?_)))
    refine wpAny_bind (wpAny_builtinsFor (hg.push _) e1 e2 (up _ _ e4) e5 e6 e7 (wpAny_bind (wpAny_nsGet (hg.push _) ?_)))
    exact wpAny_bind (wpAny_pure (wpAny_newObj_type (h _ _ s.toks up (by rw [Heap.size_push]; omega)) (by size_fits)))
end
/-- the parameters: one, x, with the default i -/
def one (x : Str) (i : Int) (p1 p2 : Pos) (j : Nat) : Arguments :=
  { posonlyargs := [], args := [{ arg := x, annotation := none, pos := p1 }], vararg := none, kwonlyargs := [], kw_defaults := [], kwarg := none, defaults := [.Constant (.int i) j p2] }
theorem evalD {M : Model} {A : Around} {E : Value → Shared → Prop} {s : Shared} {x : Str} {i : Int} {p1 p2 pos : Pos} {j : Nat} {body : Expr} {scope : Scope} {env : Env} {Q : Value → Shared → Prop}
    (h : wpAny M A (makeTail "<lambda>" (env.qual ++ "<lambda>") (one x i p1 p2 j) (.expr body) scope env (.ref s.heap.objs.size) .none none pos pos.line) Q E
      { s with heap := s.heap.push { cls := .type "tuple", data := .seq #[.int i s.toks] }, toks := s.toks + 1 }) :
    wpAny M A (eval (.Lambda (one x i p1 p2 j) body scope pos) env) Q E s := by
  rw [arm_eval_Lambda]
  show wpAny M A (do let dv ← evalAll [eval (.Constant (.int i) j p2) env]; let kdv ← holding dv (evalAllOpt []); makeFunction "<lambda>" (env.qual ++ "<lambda>") (one x i p1 p2 j) (.expr body) scope env dv kdv [] pos pos.line) Q E s
  refine wpAny_bind (wpAny_bind (wpAny_Constant_int (wpAny_bind (wpAny_holding (wpAny_pure (wpAny_pure ?_))))))
  refine wpAny_bind (wpAny_holding (wpAny_pure ?_))
  rw [makeFunction_eq]
  show wpAny M A (do let d ← newTextTuple [.int i s.toks]; makeTail "<lambda>" (env.qual ++ "<lambda>") (one x i p1 p2 j) (.expr body) scope env d .none none pos pos.line) Q E _
  exact wpAny_bind (wpAny_newTextTuple h)
/-- the default's tuple -/
abbrev tupD (i : Int) (t : Tok) : Obj := { cls := .type "tuple", data := .seq #[.int i t] }
section
variable {X : Cx} {pins : List (Addr × Obj)} {σ : L2.St} {H : Hp} {s : Shared}
theorem makeD {Ts : List (Addr × Str)} {c P : Addr} {x : Str} {i : Int} {p1 p2 pos : Pos} {j : Nat} {body : Expr} {scope : Scope} {E : Value → Shared → Prop} {Q : Value → Shared → Prop} (I : L2.Inv X pins σ H s) (TB : TabB X.base X.mg c P) (hcode : X.env.code = .ref c)
    (hm : (P, X.env.qual ++ "<lambda>") ∈ Ts) (hu : ∀ p ∈ Ts, p.1 = P → p.2 = X.env.qual ++ "<lambda>") (hT : Tabs Ts H) (hfree : ∀ y ∈ scope.names, y.2 = .free → ∃ c, X.env.cells.lookup y.1 = some c)
    (h : ∀ (f c' Ta : Addr) (pm ctv : Value) (H1 : Hp) (s' : Shared) (t : Tok), L2.Inv X pins σ H1 s' → ExtN H H1 → Tabs Ts H1 →
      s'.heap.get? f = some (obD (X.env.qual ++ "<lambda>") (one x i p1 p2 j) body scope (cloFrom X.env.cells scope.names []) Ta pm (.ref c') ctv) → H1 f = none → f ∉ frs X.stack →
      s'.heap.get? Ta = some (tupD i t) → H1 Ta = none → Ta ∉ frs X.stack → H1 c' = some (CodeO c' (X.env.qual ++ "<lambda>")) → Q (.ref f) s') :
    wpAny (model X.prog X.w) X.A (eval (.Lambda (one x i p1 p2 j) body scope pos) X.env) Q E s := by
  refine evalD ?_
  have I0 : L2.Inv X pins σ H { s with heap := s.heap.push (tupD i s.toks), toks := s.toks + 1 } := I.kept fun b o e => Heap.get?_push_of_some _ e
  have atT : (s.heap.push (tupD i s.toks)).get? s.heap.objs.size = some (tupD i s.toks) := Heap.get?_push_size _ rfl
  have noT : H s.heap.objs.size = none := I.hok.fresh (Nat.le_refl _)
  have outside : ∀ a, s.heap.objs.size ≤ a → a ∉ frs X.stack := fun a ha z => by
    rcases List.mem_cons.mp (I.stkSub _ z) with e | e
    · exact Nat.lt_irrefl _ (Nat.lt_of_lt_of_le (e ▸ I.lt) ha)
    · exact I.nofs ha e
  obtain ⟨ps, hP, ht, ha⟩ := hT _ hm
  have sz0 : s.heap.objs.size < (s.heap.push (tupD i s.toks)).objs.size := by rw [Heap.size_push]; omega
  have bP : (s.heap.push (tupD i s.toks)).BuiltinsAt X.mg P := TB.bm.keeps I0.bk
  have hP' : (s.heap.push (tupD i s.toks)).get? P = some { cls := .none, data := .fields ps } := I0.hok P _ hP
  have PT : s.heap.objs.size ≠ P := fun z => by
    rw [← z, noT] at hP
    cases hP
  cases hc : codeAmong pos ps.toList with
  | none =>
    refine tailNew (mg := X.mg) (c := c) (P := P) (ps := ps) (closure_ok hfree) I0.ok.glob (I0.mod.glob.keeps I0.bk) hcode (TB.code.keeps I0.bk) hP' ht hc TB.gP bP (fun c' ctv h' tk hx hge hlt hrec htb => ?_)
    obtain ⟨c2, oc, vs, t, e2, hoc, hd, hv⟩ := hrec
    cases e2
    have szl : (s.heap.push (tupD i s.toks)).objs.size ≤ h'.objs.size := Nat.le_trans hge (Nat.le_of_lt hlt)
    have nC : H c' = none := I0.hok.fresh hge
    have J := inv_table (t' := tk) (more := #[rawInt pos.line, rawInt pos.col, .ref c'])
      (h' := h'.push (obD (X.env.qual ++ "<lambda>") (one x i p1 p2 j) body scope (cloFrom X.env.cells scope.names []) s.heap.objs.size ((X.mg "__name__").getD .none) (.ref c') ctv)) I0 hP
      (fun b o nb e => Heap.get?_push_of_some _ (hx b o nb e)) (Heap.get?_push_of_some _ htb) hge ⟨oc, vs, t, Heap.get?_push_of_some _ hoc, hd, hv⟩
    have grown : ExtN H (upd (upd H P (.tbl (ps ++ #[rawInt pos.line, rawInt pos.col, .ref c']))) c' (CodeO c' (X.env.qual ++ "<lambda>"))) := by
      intro b o e n
      have nb : b ≠ P := fun z => n ps (Option.some.inj (e.symm.trans (z ▸ hP)))
      rw [upd_ne (ne_of_none e nC), upd_ne nb]
      exact e
    have asList : (ps ++ #[rawInt pos.line, rawInt pos.col, .ref c']).toList = ps.toList ++ [rawInt pos.line, rawInt pos.col, .ref c'] := by simp
    have tabs' : Tabs Ts (upd (upd H P (.tbl (ps ++ #[rawInt pos.line, rawInt pos.col, .ref c']))) c' (CodeO c' (X.env.qual ++ "<lambda>"))) := by
      intro p hp
      by_cases hb : p.1 = P
      · rw [hu p hp hb, hb]
        refine ⟨_, (upd_ne (ne_of_none hP nC)).trans upd_same, by rw [asList]; exact PySem.TriplesOk_snoc _ _ _ _ ht, fun p' cv hcv => ?_⟩
        rw [asList] at hcv
        rcases among_app _ ht hcv with z | z
        · obtain ⟨c0, q1, q2⟩ := ha p' cv z
          exact ⟨c0, q1, grown _ _ q2 codeO_ne⟩
        · exact ⟨c', z, upd_same⟩
      · obtain ⟨ps', a1, a2, a3⟩ := hT p hp
        refine ⟨ps', by rw [upd_ne (ne_of_none a1 nC), upd_ne hb]; exact a1, a2, fun p' cv hcv => ?_⟩
        obtain ⟨c0, q1, q2⟩ := a3 p' cv hcv
        exact ⟨c0, q1, grown _ _ q2 codeO_ne⟩
    have old : ∀ {b : Addr}, b ≠ c' → b ≠ P → H b = none → upd (upd H P (.tbl (ps ++ #[rawInt pos.line, rawInt pos.col, .ref c']))) c' (CodeO c' (X.env.qual ++ "<lambda>")) b = none := fun {b} n1 n2 e => by rw [upd_ne n1, upd_ne n2]; exact e
    refine h h'.objs.size c' s.heap.objs.size ((X.mg "__name__").getD .none) ctv _ _ s.toks J grown tabs' (Heap.get?_push_size _ rfl) ?_ (outside _ (Nat.le_trans (Nat.le_of_lt sz0) szl)) (Heap.get?_push_of_some _ (hx _ _ PT atT)) ?_ (outside _ (Nat.le_refl _)) upd_same
    · exact old (Nat.ne_of_gt hlt) (Nat.ne_of_gt (Nat.lt_of_lt_of_le (Heap.lt_size hP') szl)) (I0.hok.fresh szl)
    · exact old (Nat.ne_of_lt (Nat.lt_of_lt_of_le sz0 hge)) PT noT
  | some cv =>
    obtain ⟨c', e, hco⟩ := ha pos cv hc
    subst e
    refine tailOld (mg := X.mg) (c := c) (P := P) (ps := ps) (closure_ok hfree) I0.ok.glob (I0.mod.glob.keeps I0.bk) hcode (TB.code.keeps I0.bk) hP' ht hc bP (fun ctv h' tk hx hsz => ?_)
    have J : L2.Inv X pins σ H { s with heap := h'.push (obD (X.env.qual ++ "<lambda>") (one x i p1 p2 j) body scope (cloFrom X.env.cells scope.names []) s.heap.objs.size ((X.mg "__name__").getD .none) (.ref c') ctv), toks := tk } :=
      I.kept fun b o e => Heap.get?_push_of_some _ (hx b o (Heap.get?_push_of_some _ e))
    exact h h'.objs.size c' s.heap.objs.size ((X.mg "__name__").getD .none) ctv H _ s.toks J (ExtN.refl H) hT (Heap.get?_push_size _ rfl) (I0.hok.fresh hsz) (outside _ (Nat.le_trans (Nat.le_of_lt sz0) hsz)) (Heap.get?_push_of_some _ (hx _ _ atT)) noT (outside _ (Nat.le_refl _)) hco
end
/-! ### the names of such a lambda -/
/-- x its parameter; no cells; the others are captured or global -/
structure ScD (sc scope : Scope) (x : Str) : Prop where
  kind : scope.kind = .function
  co : scope.isCoroutine = false
  gen : scope.isGenerator = false
  own : ∀ y ∈ scope.names, y.2 ≠ .cell ∧ (y.2 = .local → y.1 = x)
  has : scope.names.lookup x = some .local
  free : ∀ y ∈ scope.names, y.2 = .free → sc.names.lookup y.1 = some .cell ∨ sc.names.lookup y.1 = some .free
def scDB (sc scope : Scope) (x : Str) : Bool :=
  decide (scope.kind = .function) && (!scope.isCoroutine) && (!scope.isGenerator) && decide (scope.names.lookup x = some .local) &&
    scope.names.all fun y => (!decide (y.2 = .cell)) && ((!decide (y.2 = .local)) || decide (y.1 = x)) && ((!decide (y.2 = .free)) || decide (sc.names.lookup y.1 = some .cell) || decide (sc.names.lookup y.1 = some .free))
theorem scD_by {sc scope : Scope} {x : Str} (h : scDB sc scope x = true) : ScD sc scope x := by
  unfold scDB at h
  simp only [Bool.and_eq_true, Bool.or_eq_true, Bool.not_eq_true', decide_eq_true_eq, decide_eq_false_iff_not, List.all_eq_true] at h
  obtain ⟨⟨⟨⟨h1, h2⟩, h3⟩, h5⟩, h4⟩ := h
  refine ⟨h1, h2, h3, fun y hy => ⟨(h4 y hy).1.1, fun e => ?_⟩, h5, fun y hy e => ?_⟩
  · rcases (h4 y hy).1.2 with z | z
    · exact absurd e z
    · exact z
  · rcases (h4 y hy).2 with (z | z) | z
    · exact absurd e z
    · exact .inl z
    · exact .inr z
theorem ScD.look {X : Cx} {scope : Scope} {x : Str} (S : ScD X.env.scope scope x) (ok : X.Ok) : ∀ y ∈ scope.names, y.2 = .free → ∃ c, X.env.cells.lookup y.1 = some c := fun y hy e =>
  ok.has _ (S.free y hy e)
section
variable {X : Cx} {pins : List (Addr × Obj)} {σ : L2.St} {H HZ : Hp} {s s1 : Shared}
theorem startD {A : Around} {outer : List Env} {E : XK} {scope : Scope} {x : Str} {v : Value} {f c' : Addr} {h₁ : Heap} {tk : Nat} (I : L2.Inv X pins σ H s) (S : ScD X.env.scope scope x) (nx : ∀ i : Nat, X.N[i]? ≠ some x)
    (e0 : Env0 X.prog X.w X.K X.mg X.base A outer s1 HZ) (hd : A.handled = none) (un : Un (frs X.stack) [] H HZ s.heap s1.heap)
    (hns : h₁.Ns s1.heap.objs.size fun y => ([(x, v)] : List (Str × Value)).reverse.lookup y) (kp : ∀ b o, s1.heap.get? b = some o → h₁.get? b = some o) :
    L2.Inv (lamCx X A outer s1 HZ E scope f c') [] σ HZ { s1 with heap := h₁, toks := tk } := by
  have hfree := S.look I.ok
  have fromCells : ∀ {y c}, (cloFrom X.env.cells scope.names []).lookup y = some c → X.env.cells.lookup y = some c := by
    intro y c e
    rcases cloFrom_mem (PySem.mem_of_lookup e) with hm | ⟨k1, k2⟩
    · cases hm
    · obtain ⟨c1, hc⟩ := hfree _ k1 rfl
      have hc : X.env.cells.lookup y = some c1 := hc
      have : c = c1 := by rw [k2, hc] <;> rfl
      rw [this]
      exact hc
  have toCells : ∀ {y}, scope.names.lookup y = some .free → ∃ c, (cloFrom X.env.cells scope.names []).lookup y = some c := fun {y} hl =>
    mem_lookup (cloFrom_has (cells := X.env.cells) (acc := []) (PySem.mem_of_lookup hl))
  have cellKept : ∀ {c : Addr} {u : Option Value}, H c = none → s.heap.IsCell c u → h₁.IsCell c u := by
    intro c u n ⟨o, ho, hdt⟩
    obtain ⟨sl, q⟩ := un.any ho n (by simp)
    exact ⟨_, kp _ _ q, hdt⟩
  have none_ : ∀ b : Addr, b ∉ (lamCx X A outer s1 HZ E scope f c').ex := fun b z => nomatch (show b ∈ ([] : List Addr) from z)
  refine ⟨⟨e0.mod, S.kind, rfl, rfl, Nat.le_refl _, fun y z c k1 k2 => I.ok.inj y z c (fromCells k1) (fromCells k2), fun y hy => ?_, fun y c z _ => (Bool.false_ne_true z).elim, fun _ => hd,
      Around.frames_deeper e0.frames, .inr ⟨rfl, rfl⟩, fun b z => absurd z (none_ b), e0.bs, e0.bsz, fun b _ _ => none_ b, fun b z => absurd z (none_ b), e0.funs, e0.frf⟩,
    rfl, e0.bare, Un.kept kp, ⟨_, hns, fun i y u k1 k2 k3 => ?_⟩, fun y c e => ?_, e0.hok.fresh (Nat.le_refl _), fun y c e => ?_, fun q hq => (List.not_mem_nil (show q ∈ ([] : List (Addr × Obj)) from hq)).elim, e0.hok.kept kp, I.len⟩
  · have hy : scope.names.lookup y = some .cell ∨ scope.names.lookup y = some .free := hy
    rcases hy with hy | hy
    · exact absurd rfl (S.own _ (PySem.mem_of_lookup hy)).1
    · exact toCells hy
  · have k3 : Vis scope y := k3
    rcases k3 with k | k | k
    · have : y = x := (S.own _ (PySem.mem_of_lookup k)).2 rfl
      exact absurd (this ▸ k1) (nx i)
    · exact absurd rfl (S.own _ (PySem.mem_of_lookup k)).1
    · obtain ⟨m, hn, hl⟩ := I.loc
      have outerK := S.free _ (PySem.mem_of_lookup k) rfl
      obtain ⟨w', r, q⟩ := hl i y u k1 k2 (outerK.elim (fun z => .inr (.inl z)) (fun z => .inr (.inr z)))
      obtain ⟨c2, h2⟩ := toCells k
      refine ⟨w', r, .inr ⟨.inr k, c2, h2, ?_⟩⟩
      have c1 := fromCells h2
      rcases q with ⟨kl, _⟩ | ⟨_, c3, e', z⟩
      · have kl : X.env.scope.names.lookup y = some .local := kl
        rcases outerK with o2 | o2 <;> rw [show X.env.scope.names.lookup y = _ from o2] at kl <;> cases kl
      · rw [c1] at e'
        cases e'
        exact cellKept (I.freeC y _ c1) z
  · obtain ⟨w', z⟩ := I.cell y c (fromCells e)
    exact ⟨w', cellKept (I.freeC y c (fromCells e)) z⟩
  · obtain ⟨u, o, ho, hdt⟩ := I.cell y c (fromCells e)
    exact un.free c o ho (I.freeC y c (fromCells e)) (by simp)
/-- how the call without arguments binds -/
def BindD (x : Str) (i : Int) (params : Arguments) (body : Expr) (scope : Scope) : Prop :=
  ∀ (qual : Str) (cl : List (Str × Addr)) (T : Addr) (pm cv ctv : Value) (t : Tok), ∃ k, bindArgs (fdD qual params body scope cl T pm cv ctv) ⟨[], []⟩ = seqItems? (.ref T) >>= k ∧ k (some #[.int i t]) = pure [(x, .int i t)]
/-- a(), in the def that got the lambda -/
theorem actD {CXg : CXT} {Eg : XK} {Ng : List Str} {qg : Str} {sg : Scope} {g f c' Ta : Addr} {cdg pm ctv : Value} {params : Arguments} {body : Expr} {scope : Scope} {k i : Nat} {a x : Str} {n : Int} {t : Tok} {pn : List (Addr × Obj)} {xe : Value → Shared → Prop} {W : WX} {E : XK} {tb : TE} {p1 p2 : Pos}
    (I : L2.Inv X pins σ H s) (S : ScD X.env.scope scope x) (nx : ∀ i : Nat, X.N[i]? ≠ some x)
    (hf : s.heap.get? f = some (obD (X.env.qual ++ "<lambda>") params body scope (cloFrom X.env.cells scope.names []) Ta pm (.ref c') ctv)) (hfn : H f = none) (hfr : f ∉ frs X.stack)
    (hT : s.heap.get? Ta = some (tupD n t)) (hTn : H Ta = none) (hTr : Ta ∉ frs X.stack) (hb : BindD x n params body scope)
    (tk : Takes ((cxOf CXg X.prog X.w X.K X.mg X.base Ng qg sg g cdg X.A X.stack s H Eg).tr pn xe) W) (hW : ∀ cls d σ' H', E cls d H' → W cls d σ' H') (hr : Room (k + 1) (X.A.deeper (envOfC qg sg s.heap.objs.size g cdg)))
    (hbody : ∀ (A : Around) (outer : List Env) (s : Shared) (H : Hp), Room k (A.deeper (lamEnv X scope s.heap.objs.size f c')) → PE (lamCx X A outer s H E scope f c') body tb)
    (hN : Ng[i]? = some a) (hv : Vis sg a) (hd : (a == ("__debug__" : Str)) = false := by decide) (hcd : (a == ("__classdict__" : Str)) = false := by decide) :
    PE ((cxOf CXg X.prog X.w X.K X.mg X.base Ng qg sg g cdg X.A X.stack s H Eg).tr pn xe) (.Call (.Name a p1) [] [] p2)
      (fun σZ HZ Q => σZ[i]? = some (some (.ref f)) ∧ HZ c' = some (CodeO c' (X.env.qual ++ "<lambda>")) ∧ tb σ HZ Q) := by
  constructor
  intro pinsZ sZ σZ HZ Q IZ ⟨hs, hc, ht⟩
  refine wpAny_Call_Name_kw (thn ((pe_var (pos := p1) (i := i) hN hv hd hcd).run pinsZ sZ σZ HZ (fun v H1 => v = .ref f ∧ H1 = HZ) IZ ⟨.ref f, hs, rfl, rfl⟩) (fun u s1 ⟨v, H1, I1, r1, ev, eH⟩ => ?_))
  subst ev
  subst eH
  obtain rfl : u = Value.ref f := r1
  have nil_ : ∀ b : Addr, b ∉ ([] : List Addr) := fun b z => nomatch z
  have of1 := I1.base.keep f _ hf hfn hfr (nil_ f)
  have oT1 : s1.heap.get? Ta = some (tupD n t) := I1.base.keep Ta _ hT hTn hTr (nil_ Ta)
  refine PySem.W.callWith_F0 ⟨_, _, _, _, of1⟩ ?_
  have un : Un (frs X.stack) [] H H1 s.heap s1.heap := I1.base
  obtain ⟨⟨oc, vs, tq, hoc, hdc, hvc⟩, _, _⟩ := I1.hok c' _ hc
  have rc : codeAny (model X.prog X.w) (X.A.deeper (envOfC qg sg s.heap.objs.size g cdg)) (.call (.ref f) ⟨[], []⟩)
      (CR (L2.CX X.prog X.w) (envOfC qg sg s.heap.objs.size g cdg :: X.stack) X.prog X.w H1 s1 Q E) s1 := by
    refine PySem.W.kla_callFunE hr.depth of1 rfl S.co S.gen rfl ⟨c', oc, vs, tq, rfl, hoc, hdc, hvc⟩ ?_
    obtain ⟨kk, b1, b2⟩ := hb (X.env.qual ++ "<lambda>") (cloFrom X.env.cells scope.names []) Ta pm (.ref c') ctv t
    refine BindsTo.of_defaults (T := Ta) (o := tupD n t) rfl oT1 rfl b1 b2 _ _ _ _ ?_
    refine wpAny_newFunctionEnv (fun y hy => (S.own y hy).1) (fun y hy => ?_) (fun h₁ hns hsb => ⟨I1.nolimit.fresh _ hsb, ?_⟩) S.kind
    · obtain rfl : y = (x, Value.int n t) := List.mem_singleton.mp hy
      exact S.has
    show codeAny _ _ (.expr body (lamEnv X scope s1.heap.objs.size f c')) _ _
    have kp : ∀ b o, s1.heap.get? b = some o → h₁.get? b = some o := fun b o e => hsb.extBut b o (Nat.ne_of_lt (Heap.lt_size e)) (Heap.get?_push_of_some _ e)
    have J := startD (tk := s1.toks + ([(x, Value.int n t)] : List (Str × Value)).length) (E := E) (f := f) (c' := c') I S nx I1.env0 hr.hd un hns kp
    refine PySem.W.kla_codeExpr (wpAny_mono ((hbody _ _ s1 H1 (hr.deeper _)).run [] _ _ H1 Q J ht) (fun v s' ⟨w', H', J', rv, q⟩ => ?_) (fun _ _ hq => hq))
    exact ⟨w', H', J'.os, J'.bare, J'.base, J'.hok, rv, q⟩
  have hx : Passes (L2.CX X.prog X.w) ((cxOf CXg X.prog X.w X.K X.mg X.base Ng qg sg g cdg X.A X.stack s H Eg).tr pn xe) E := passes_call tk hW
  refine wpAny_call (codeAny_mono rc (fun r s' hq => ?_))
  rcases r with e | fl
  · exact hx pinsZ σZ H1 s1 e s' I1 hq
  · cases fl with
    | ret u => exact I1.after hq
    | next => exact hq.elim
    | brk => exact hq.elim
    | cont => exact hq.elim
/-- g(lambda x=i: body) -/
theorem pe_lamD {Ts : List (Addr × Str)} {TT : (XK → Hp → VK → Prop) → Hp → VK → Prop} {gn a x : Str} {n : Int} {g c P : Addr} {k j : Nat} {pg : Arguments} {bg : List Stmt} {sg : Scope} {dV kV doc pm cdv ct oc : Value} {an od : Option Addr} {osl : Array (Option Value)} {Ng : List Str}
    {body : Expr} {scope : Scope} {t : XK → TE} {p lpos pos p1 p2 : Pos} (hg : Gl X gn) (hm : X.mg gn = some (.ref g)) (hk : PySem.W.keepIn X.K (.ref g) = true)
    (lk : X.K.lookup g = some ⟨oc, od, .func (PySem.W.fnOf gn gn pg bg sg dV kV doc pm an cdv ct), osl⟩) (hcg : PySem.W.codeIn X.K cdv gn = true) (hb : L2.Binds X.K (PySem.W.fnOf gn gn pg bg sg dV kV doc pm an cdv ct) [a] [])
    (Sg : FnScope Ng [a] sg) (hNg : Ng[0]? = some a) (hva : Vis sg a) (hG : GivesTo X Ng gn sg g cdv bg a (X.env.qual ++ "<lambda>") TT)
    (TB : TabB X.base X.mg c P) (hcode : X.env.code = .ref c) (hmT : (P, X.env.qual ++ "<lambda>") ∈ Ts) (hu : ∀ p ∈ Ts, p.1 = P → p.2 = X.env.qual ++ "<lambda>") (hr : Room (k + 2) X.A)
    (S : ScD X.env.scope scope x) (nx : ∀ i : Nat, X.N[i]? ≠ some x) (hbd : BindD x n (one x n p1 p2 j) body scope)
    (hbody : ∀ (A : Around) (outer : List Env) (s : Shared) (H : Hp) (E : XK) (f c' : Addr), Room k (A.deeper (lamEnv X scope s.heap.objs.size f c')) → PE (lamCx X A outer s H E scope f c') body (t E))
    (hdb : (gn == ("__debug__" : Str)) = false := by decide) (hd : (a == ("__debug__" : Str)) = false := by decide) (hcd : (a == ("__classdict__" : Str)) = false := by decide) :
    PE X (.Call (.Name gn p) [.Lambda (one x n p1 p2 j) body scope lpos] [] pos) (tLam Ts TT t) := by
  constructor
  intro pins s σ H Q I ⟨hT, h⟩
  refine wpAny_Call_Name_kw (ld_glob I hg hm ?_ hdb)
  refine PySem.W.callWith_K (h₀ := X.base) I.ok.mod.kin hk ?_ (by rfl) (by rfl)
  show wpAny _ _ (spliced ((false, eval (.Lambda (one x n p1 p2 j) body scope lpos) X.env) :: backTo pos (starEach [] X.env))) _ _ s
  refine Calls.spliced_cons (makeD I TB hcode hmT hu hT (S.look I.ok) (fun f c' Ta pm' ctv H1 s' tq I1 eN T1 hf hfn hfr hTa hTn hTr hco => ?_))
  refine Calls.spliced_nil ⟨I1.kIn, ?_⟩
  have rc : codeAny (model X.prog X.w) X.A (.call (.ref g) ⟨[.ref f], []⟩) (CR C8.CX0 X.stack X.prog X.w H1 s' Q C8.E0) s' := by
    refine run_ofS (N := Ng) (ps := [a]) (us := [.ref f]) (vs := [.ref f]) lk hcg Sg hr I1.env0 (hb s' [.ref f] I1.kIn rfl) (.cons rfl .nil) rfl (fun hr' => ?_)
    obtain ⟨t', ht', hq'⟩ := hG f c' s' H1 Q (fun E H' Q' => t E σ H' Q')
      (fun W pn xe E p1 p2 tk hW => actD (i := 0) I1 S nx hf hfn hfr hTa hTn hTr hbd tk hW hr' (fun A outer s H hr2 => hbody A outer s H E f c' hr2) hNg hva hd hcd) hco (h H1 eN T1)
    exact ⟨t', ht'.nox, hq'⟩
  refine wpAny_call (codeAny_mono rc (fun r s2 hq => ?_))
  rcases r with e | fl
  · exact (show False from hq).elim
  · cases fl with
    | ret u => exact I1.after hq
    | next => exact hq.elim
    | brk => exact hq.elim
    | cont => exact hq.elim
end
end LmD


set_option Elab.async false
set_option linter.all false
set_option maxRecDepth 100000
set_option maxHeartbeats 2000000
/-! try: return [call()] / except A as e: return (word, e.field) / .. , given a lambda -/
namespace Hd
open PySem PySem.Spec PyProof.Rows L2 LamX TA2
/-- what a clause hands back -/
def word (w f : Str) (C : Addr) (i : Nat) : Suite := fun a cls d => tRet (tTup (tCons (tC (.str w)) (tCons (tXf a cls d C f (tVar i)) tNil)))
/-- word, field, class -/
abbrev Row := Str × Str × Addr
def rowsOf (i : Nat) (l : List Row) : List (Value × Nat × Suite) := l.map fun r => (.ref r.2.2, i, word r.1 r.2.1 r.2.2 i)
theorem one_clause {X : Cx} {w f x n : Str} {i k1 k2 : Nat} {C : Addr} {p1 p2 p3 p4 p5 p6 p7 : Pos} {hs : List ExceptHandler} {l : List Row} (T : XfC X.K C) (no : PySem.W.findIn X.K (.ref C) f = some none)
    (named : Names X x (.ref C)) (at_ : X.N[i]? = some n) (loc : X.env.kindOf n = some .local) (rest : Clauses X hs (rowsOf i l))
    (hd : (n == ("__debug__" : Str)) = false := by decide) (hcd : (n == ("__classdict__" : Str)) = false := by decide)
    (hb : attributeBase (.Name n p4) f X.env (eval (.Name n p4) X.env) = eval (.Name n p4) X.env := by rfl) :
    Clauses X (.ExceptHandler (some (.Name x p1)) (some n) [.Return (some (.Tuple [.Constant (.str w) k1 p3, .Attribute (.Name n p4) f p5] k2 p6)) p7] p2 :: hs) (rowsOf i ((w, f, C) :: l)) :=
  .more named at_ loc (fun a oe cls d pn hz hf => pss_one (ps_ret (pe_tup (pa_cons pe_str (pa_cons (pe_xf T no hz hf (pe_var at_ (.inl loc) hd hcd) hb) pa_nil))))) rest
/-- the wish, free of slots -/
def hE (K : PySem.W.Frag) (Q : VK) : List Row → XK
  | [] => fun _ _ _ => False
  | (w, f, C) :: more => fun cls d H => ∃ b, PySem.W.exmOne K cls (.ref C) = some b ∧
      (b = true → cls = .ref C ∧ ∃ (dd : Addr) (fs : List (Str × V)) (v : V), d = some dd ∧ H dd = some (.xd fs) ∧ fs.lookup f = some v ∧ ∀ p, H p = none → Q (.ref p) (upd H p (.tup [.str w, v]))) ∧
      (b = false → hE K Q more cls d H)
theorem hE_wish {K : PySem.W.Frag} {Q : VK} {nn i : Nat} {D : Ends} (hi : i < nn) (hD : D.rt = Q) : ∀ {l : List Row} {cls : Value} {d : Option Addr} {σ : L2.St} {H : Hp}, hE K Q l cls d H → wish K nn (fun _ _ _ _ => False) D (rowsOf i l) cls d σ H
  | [], _, _, _, _, h => h
  | (w, f, C) :: more, cls, d, σ, H, h => by
    obtain ⟨b, e, yes, no⟩ := h
    refine ⟨b, e, fun hb hl a _ => ?_, fun hb => hE_wish hi hD (no hb)⟩
    obtain ⟨ec, dd, fs, v, ed, eH, ef, q⟩ := yes hb
    have at_ : (σ.set i (some (.ref a)))[i]? = some (some (V.ref a)) := by
      rw [List.getElem?_set_self (by omega)]
    refine ⟨.ref a, at_, rfl, ec, dd, fs, v, ed, eH, ef, (by show 2 ≤ sizeLine; decide), ?_⟩
    show ∀ p, H p = none → D.rt (.ref p) (upd H p (.tup [.str w, v]))
    rw [hD]
    exact q
/-- what such a def makes of the lambda's reading -/
def TTh (K : PySem.W.Frag) (l : List Row) : (XK → Hp → VK → Prop) → Hp → VK → Prop := fun tl H Q =>
  tl (hE K Q l) H (fun v H' => ∀ p, H' p = none → Q (.ref p) (upd H' p (.lst [v])))
theorem heard_gives {X : Cx} {Ng : List Str} {x a q : Str} {sg : Scope} {g : Addr} {cdg : Value} {i : Nat} {l : List Row} {h0 : ExceptHandler} {hs : List ExceptHandler} {p1 p2 p3 p4 p5 : Pos} (hN : Ng.Nodup) (hi : i < Ng.length)
    (cl : ∀ (s : Shared) (H : Hp), Clauses (cxOf C8.CX0 X.prog X.w X.K X.mg X.base Ng x sg g cdg X.A X.stack s H C8.E0).nox (h0 :: hs) (rowsOf i l))
    (h0' : ∀ f : Addr, (L2.start Ng [V.ref f])[0]? = some (some (V.ref f))) :
    GivesTo X Ng x sg g cdg [.Try [.Return (some (.List [.Call (.Name a p1) [] [] p2] p3)) p4] (h0 :: hs) [] [] p5] a q (TTh X.K l) := by
  intro f c' s H Q tl act hc h
  refine ⟨_, pss_one (try_as (X := (cxOf C8.CX0 X.prog X.w X.K X.mg X.base Ng x sg g cdg X.A X.stack s H C8.E0).nox)
      (tb := fun W D σ H => ∃ Ech : XK, (∀ cls d σ' H', Ech cls d H' → W cls d σ' H') ∧ σ[0]? = some (some (.ref f)) ∧ H c' = some (CodeO c' q) ∧ tl Ech H (fun v H' => ∀ p, H' p = none → D.rt (.ref p) (upd H' p (.lst [v]))))
      rfl rfl hN LamX.takes0 (fun W pn xe tk _ => ?_) (cl s H)), ?_⟩
  · constructor
    intro pins s' σ H' D I ⟨Ech, hW, k1, k2, k3⟩
    have hp := act W pn xe Ech p1 p2 tk hW
    have whole := pss_one (ps_ret (pos := p4) (pe_lst (pos := p3) (pa_cons hp pa_nil)))
    exact whole.run pins s' σ H' D I ⟨k1, k2, by
      refine Eq.mp ?_ k3
      congr 1
      funext v H1
      refine propext ⟨fun z => ⟨(by show 1 ≤ sizeLine; decide), z⟩, fun z => z.2⟩⟩
  · exact ⟨hE X.K Q l, fun cls d σ' H' z => hE_wish (D := { nx := fun _ H' => Q .non H', rt := Q }) hi rfl z, h0' f, hc, h⟩
end Hd


set_option Elab.async false
set_option linter.all false
set_option maxRecDepth 100000
set_option maxHeartbeats 400000
namespace Sh
open PySem
/-- data whose text may be made -/
structure Ok (d : PyData) : Prop where
  s : d.showable = true
  n : d.hasDict = false
  dep : d.depth ≤ 60
  l : d.shown.length ≤ sizeLine
theorem of {d : PyData} (h1 : d.showable = true) (h2 : d.hasDict = false) (h3 : d.depth ≤ 60) (h4 : d.leavesShort 2600 = true) (h5 : d.weight ≤ 6000) : Ok d := by
  refine ⟨h1, h2, h3, ?_⟩
  have := PyData.shown_le 2600 (by decide) d h4
  have e : sizeLine = 16777216 := sizeLine_eq
  have : (2600 + 2) * d.weight ≤ 2602 * 6000 := Nat.mul_le_mul (Nat.le_refl _) h5
  omega
theorem int_short {i : Int} (h : i.natAbs < 2 ^ 2500) : (PyData.shown (.int i)).length ≤ 2600 := by
  have l : i.natAbs.log2 < 2500 := PySem.Flt.log2_lt_of (by decide) h
  have := int_text_length_le (a := i) (k := 2500) (by decide) l
  have e : (PyData.shown (.int i)).length = (toString i).length := by
    show (Str.ofString (toString i)).length = _
    exact ofString_length _
  omega
end Sh


set_option Elab.async false
set_option linter.all false
set_option maxRecDepth 100000
set_option maxHeartbeats 400000
namespace Rs
open PySem L2 Bs Fq LamX
/-! ### polynomials -/
inductive FrAll (K : PySem.W.Frag) (H : Hp) : List V → List F → Prop
  | nil : FrAll K H [] []
  | cons {v : V} {vs : List V} {q : F} {qs : List F} : Fr K H v q → FrAll K H vs qs → FrAll K H (v :: vs) (q :: qs)
theorem FrAll.mono {K : PySem.W.Frag} {H H' : Hp} (e : Same H H') : ∀ {vs : List V} {qs : List F}, FrAll K H vs qs → FrAll K H' vs qs
  | _, _, .nil => .nil
  | _, _, .cons a b => .cons (a.mono e) (FrAll.mono e b)
theorem FrAll.len {K : PySem.W.Frag} {H : Hp} : ∀ {vs : List V} {qs : List F}, FrAll K H vs qs → vs.length = qs.length
  | _, _, .nil => rfl
  | _, _, .cons _ b => congrArg (· + 1) (FrAll.len b)
theorem FrAll.get {K : PySem.W.Frag} {H : Hp} : ∀ {vs : List V} {qs : List F} {i : Nat}, FrAll K H vs qs → i < qs.length → ∃ v q, vs[i]? = some v ∧ qs[i]? = some q ∧ Fr K H v q
  | _, _, 0, .cons a _, _ => ⟨_, _, rfl, rfl, a⟩
  | _, _, i + 1, .cons _ b, h => by
    obtain ⟨v, q, h1, h2, h3⟩ := FrAll.get (i := i) b (by simp only [List.length_cons] at h; omega)
    exact ⟨v, q, h1, h2, h3⟩
  | _, _, _, .nil, h => absurd h (by simp)
/-- a tuple of fractions -/
def Po (K : PySem.W.Frag) (H : Hp) (v : V) (qs : List F) : Prop := ∃ a xs, v = .ref a ∧ SqT K H a xs ∧ FrAll K H xs qs
abbrev sAt : Stmt := top 9
def spAt (K : PySem.W.Frag) : Sp := fun vs H Q _ => ∃ (v : V) (qs : List F) (k : Nat), vs = [v, .int k] ∧ Po K H v qs ∧ ∀ u, Fr K H u (co qs k) → Q u H
section
variable {P : Program} {w : World} {K : PySem.W.Frag} {mg : Str → Option Value} {base : Heap} {f : Addr} {fd : FuncData}
theorem scAt : FnScope ["poly", "number"] ["poly", "number"] (defScope sAt) := ⟨rfl, rfl, rfl, by decide +kernel, rfl, by decide +kernel, by decide +kernel⟩
theorem ok_at (F : Fun K "at_power" "at_power" sAt f fd) (T : Blt mg) (Z : Nou K mg) : FnOk P w K mg base CX0 1 f fd ["poly", "number"] (spAt K) := by
  refine F.ok scAt (fun vs H Q E h => ?_) (fun cdv A outer s H vs Q E hr h => ?_)
  · obtain ⟨v, qs, k, rfl, _⟩ := h
    rfl
  · obtain ⟨v, qs, k, rfl, ⟨a, xs, rfl, sx, fx⟩, kk⟩ := h
    obtain ⟨z, mz, sz⟩ := Z.ex
    refine ⟨_, pss_one (ps_ret (pe_ifExp (pt_cmpR op_lt (pv 1) (pe_callB call_len_seq (by rfl) T.len (by decide +kernel) (pa_cons (pv 0) pa_nil)) (nomark _)) (pe_ix ix_tup (pv 0) (pv 1) (fun _ _ => rfl)) (pe_glob (v := .ref z) (by rfl) mz rfl))), ?_⟩
    refine ⟨_, rfl, _, rfl, a, xs, rfl, Or.inr sx, _, _, rfl, rfl, _, rfl, ?_⟩
    refine ite2 (fun c => ?_) (fun c => ?_)
    · have c1 : (k : Int) < (xs.length : Int) := of_decide_eq_true c
      have c2 : k < qs.length := by
        have := fx.len
        omega
      obtain ⟨u, q, h1, h2, h3⟩ := fx.get c2
      have e : co qs k = q := by
        unfold co
        rw [List.getD_eq_getElem?_getD, h2]
        rfl
      exact ⟨_, rfl, _, rfl, a, xs, _, u, rfl, rfl, sx, atI_nat (j := k) h1, kk u (by rw [e]; exact h3)⟩
    · have c1 : ¬ (k : Int) < (xs.length : Int) := fun z => c (decide_eq_true z)
      have e : co qs k = (0, 1) := by
        unfold co
        rw [List.getD_eq_getElem?_getD, List.getElem?_eq_none (by have := fx.len; omega)]
        rfl
      exact kk _ (by rw [e]; exact ⟨z, rfl, sz H⟩)
end
end Rs


set_option Elab.async false
set_option linter.all false
set_option maxRecDepth 100000
set_option maxHeartbeats 400000
namespace Rs
open PySem L2 Bs Fq LamX
theorem FrAll.take {K : PySem.W.Frag} {H : Hp} : ∀ {vs : List V} {qs : List F} (n : Nat), FrAll K H vs qs → FrAll K H (vs.take n) (qs.take n)
  | _, _, 0, _ => .nil
  | _, _, n + 1, .nil => .nil
  | _, _, n + 1, .cons a b => .cons a (FrAll.take n b)
theorem eqv_nought {q : F} : PyData.eqv (dF q) (dF (0, 1)) = decide (q = (0, 1)) := by
  obtain ⟨a, b⟩ := q
  have e : PyData.eqv (dF (a, b)) (dF (0, 1)) = (decide (a = 0) && decide (b = 1)) := by
    simp only [dF, PyData.eqv, PyData.eqvAll, Bool.and_true]
    rfl
  rw [e]
  simp [Prod.ext_iff]
abbrev sTrim : Stmt := top 8
def spTrim (K : PySem.W.Frag) : Sp := fun vs H Q _ => ∃ (a : Addr) (xs : List V) (qs : List F), vs = [.ref a] ∧ (SqL K H a xs ∨ SqT K H a xs) ∧ FrAll K H xs qs ∧ xs.length ≤ 1000 ∧
  ∀ H' p ys, Same H H' → SqT K H' p ys → FrAll K H' ys (trim qs) → Q (.ref p) H'
section
variable {P : Program} {w : World} {K : PySem.W.Frag} {mg : Str → Option Value} {base : Heap} {f : Addr} {fd : FuncData}
theorem scTrim : FnScope ["some", "many"] ["some"] (defScope sTrim) := ⟨rfl, rfl, rfl, by decide +kernel, rfl, by decide +kernel, by decide +kernel⟩
theorem ok_trim (F : Fun K "trimmed" "trimmed" sTrim f fd) (T : Blt mg) (Z : Nou K mg) : FnOk P w K mg base CX0 1 f fd ["some"] (spTrim K) := by
  refine F.ok scTrim (fun vs H Q E h => ?_) (fun cdv A outer s H vs Q E hr h => ?_)
  · obtain ⟨a, xs, qs, rfl, _⟩ := h
    rfl
  · obtain ⟨a, xs, qs, rfl, sx, fx, l1, kk⟩ := h
    obtain ⟨z, mz, sz⟩ := Z.ex
    refine ⟨_, pss_cons (ps_set (i := 1) scTrim.nd rfl (Or.inl rfl) (pe_callB call_len_seq (by rfl) T.len (by decide +kernel) (pa_cons (pv 0) pa_nil)))
      (pss_cons (ps_while PassesOwn.never (PW.pt (pw_and (pt_cmpR op_gt (pv 1) pe_int (nomark _)) (pw_and1 (pt_cmpR (op_eqD hr.units) (pe_ix ix_seq (pv 0) (pe_op op_sub (pv 1) pe_int) (fun _ _ => rfl)) (pe_glob (v := .ref z) (by rfl) mz rfl) (nomark _)))))
        (pss_one (ps_aug (i := 1) scTrim.nd rfl (.inl rfl) pe_int ip_sub)))
      (pss_one (ps_ret (pe_callTy call_tuple_of (by rfl) T.tuple (by decide +kernel) (pa_cons (pe_slice (sl_list.or sl_tupA) (pv 0) po_none (po_some (pv 1))) pa_nil))))), ?_⟩
    have lx := fx.len
    refine ⟨_, rfl, a, xs, rfl, sx, fun m σ H1 => H1 = H ∧ m ≤ qs.length ∧ trim qs = trimN qs m ∧ σ = [some (V.ref a), some (V.int m)], ⟨qs.length, rfl, Nat.le_refl _, rfl, by rw [← lx]; rfl⟩, ?_⟩
    rintro m σ H1 ⟨rfl, hm, e, rfl⟩
    -- the end
    have fin : trim qs = qs.take m → tRet (tCB (fun xs H Q => ∃ p ys, xs = [V.ref p] ∧ ((SqL K H p ys ∧ ∀ l, H l = none → Q (.ref l) (upd H l (.tup ys))) ∨ (SqT K H p ys ∧ Q (.ref p) H))) (tCons (tSl (fun x lo hi H_1 Q => rSlL K x lo hi H_1 Q ∨ rSlA K x lo hi H_1 Q) (tVar 0) tNoPart (tPart (tVar 1))) tNil))
        { nx := fun _ H' => Q .non H', rt := Q } [some (V.ref a), some (V.int m)] H1 := by
      intro et
      have cut : cutV xs none (some (m : Int)) = xs.take m := by
        simp only [cutV, HT.sIx_none, HT.sIx_nat, List.drop_zero, Nat.sub_zero]
        rw [Nat.min_eq_left (by omega)]
      have ft : FrAll K H1 (xs.take m) (trim qs) := by
        rw [et]
        exact fx.take m
      rcases sx with sq | sq
      · refine ⟨_, rfl, _, rfl, _, rfl, Or.inl ⟨a, xs, rfl, sq, fun p hp => ⟨p, _, rfl, Or.inl ⟨SqL.of upd_same, fun l hl => ?_⟩⟩⟩⟩
        rw [cut]
        have s1 := same_new (o := .lst (xs.take m)) hp
        rw [cut] at hl
        have s2 := same_new (o := .tup (xs.take m)) hl
        exact kk _ l _ (s1.trans s2) (SqT.of upd_same) (ft.mono (s1.trans s2))
      · refine ⟨_, rfl, _, rfl, _, rfl, Or.inr ⟨a, xs, rfl, sq, fun hw => ⟨a, xs, rfl, Or.inr ⟨sq, ?_⟩⟩, fun _ p hp => ⟨p, _, rfl, Or.inr ⟨SqT.of upd_same, ?_⟩⟩⟩⟩
        · have h2 := hw.2
          rw [HT.sIx_nat, Nat.min_eq_left (by omega)] at h2
          refine kk _ a xs (fun _ _ z => z) sq ?_
          rw [et, List.take_of_length_le (by omega)]
          exact fx
        · rw [cut]
          have s1 := same_new (o := .tup (xs.take m)) hp
          exact kk _ p _ s1 (SqT.of upd_same) (ft.mono s1)
    cases m with
    | zero =>
      refine ⟨_, rfl, _, _, rfl, rfl, _, rfl, ?_⟩
      refine fin ?_
      rw [e]
      rfl
    | succ n =>
      have ei : ((n + 1 : Nat) : Int) - 1 = (n : Int) := by omega
      obtain ⟨u, q, h1, h2, h3⟩ := fx.get (i := n) (by omega)
      have ec : co qs n = q := by
        unfold co
        rw [List.getD_eq_getElem?_getD, h2]
        rfl
      have ha : atI xs (((n + 1 : Nat) : Int) - 1) = some u := by
        rw [ei]
        exact atI_nat (j := n) h1
      refine ⟨_, rfl, _, _, rfl, rfl, true, congrArg V.bl (decide_eq_true (by omega)), iteT ?_⟩
      have rest : rEqD K u (.ref z) H1 fun x H' => ∃ k, x = .bl k ∧ (if k = true then ∃ N : L2.St → Hp → Prop, (∀ σ' H', N σ' H' → ∃ m', m' < n + 1 ∧ (H' = H1 ∧ m' ≤ qs.length ∧ trim qs = trimN qs m' ∧ σ' = [some (V.ref a), some (V.int m')])) ∧
          N [some (V.ref a), some (V.int (((n + 1 : Nat) : Int) - 1))] H' else
          tRet (tCB (fun xs H Q => ∃ p ys, xs = [V.ref p] ∧ ((SqL K H p ys ∧ ∀ l, H l = none → Q (.ref l) (upd H l (.tup ys))) ∨ (SqT K H p ys ∧ Q (.ref p) H))) (tCons (tSl (fun x lo hi H_1 Q => rSlL K x lo hi H_1 Q ∨ rSlA K x lo hi H_1 Q) (tVar 0) tNoPart (tPart (tVar 1))) tNil))
            { nx := fun _ H' => Q .non H', rt := Q } [some (V.ref a), some (V.int ((n + 1 : Nat) : Int))] H') := by
        refine ⟨dF q, dF (0, 1), h3.dp, .tup (sz H1) (.cons (.int 0) (.cons (.int 1) .nil)), rfl, rfl, _, rfl, ?_⟩
        rw [eqv_nought]
        refine ite2 (fun c => ?_) (fun c => ?_)
        · have c1 : q = (0, 1) := of_decide_eq_true c
          refine ⟨fun σ' H' => H' = H1 ∧ n ≤ qs.length ∧ trim qs = trimN qs n ∧ σ' = [some (V.ref a), some (V.int n)], fun σ' H' h => ⟨n, by omega, h⟩, rfl, by omega, ?_, by rw [ei]⟩
          rw [e, trimN, if_pos (by rw [ec]; exact c1)]
        · have c1 : ¬ q = (0, 1) := fun w => c (decide_eq_true w)
          refine fin ?_
          rw [e, trimN, if_neg (by rw [ec]; exact c1)]
      obtain ⟨d1, d2, g1, g2, g3, g4, k, ek, g5⟩ := rest
      rcases sx with sq | sq
      · refine ⟨_, rfl, _, rfl, _, _, rfl, rfl, Or.inl ⟨a, xs, _, u, rfl, rfl, sq, ha, d1, d2, g1, g2, g3, g4, k, ek, ?_⟩⟩
        cases k with
        | true =>
          obtain ⟨N, n1, n2⟩ := g5
          exact ⟨N, n1, _, rfl, _, _, rfl, rfl, n2⟩
        | false => exact g5
      · refine ⟨_, rfl, _, rfl, _, _, rfl, rfl, Or.inr (Or.inl ⟨a, xs, _, u, rfl, rfl, sq, ha, d1, d2, g1, g2, g3, g4, k, ek, ?_⟩)⟩
        cases k with
        | true =>
          obtain ⟨N, n1, n2⟩ := g5
          exact ⟨N, n1, _, rfl, _, _, rfl, rfl, n2⟩
        | false => exact g5
end
end Rs


set_option Elab.async false
set_option linter.all false
set_option maxRecDepth 100000
set_option maxHeartbeats 400000
namespace Rs
open PySem L2 Bs Fq LamX
theorem Fr.off {K : PySem.W.Frag} {H : Hp} {v : V} {q : F} {D : Addr} {acc : List V} {o : HO} (h : Fr K H v q) (hD : H D = some (.lst acc)) : Fr K (upd H D o) v q := by
  obtain ⟨a, rfl, s⟩ := h
  refine ⟨a, rfl, ?_⟩
  rcases s with (s | ⟨o', s⟩) | s
  · exact .inl (.inl ((upd_ne (ne_of s hD (by intro z; cases z))).trans s))
  · exact .inl (.inr ⟨o', (upd_ne (ne_of s hD (by intro z; cases z))).trans s⟩)
  · exact .inr s
theorem FrAll.off {K : PySem.W.Frag} {H : Hp} {D : Addr} {acc : List V} {o : HO} (hD : H D = some (.lst acc)) : ∀ {vs : List V} {qs : List F}, FrAll K H vs qs → FrAll K (upd H D o) vs qs
  | _, _, .nil => .nil
  | _, _, .cons a b => .cons (a.off hD) (FrAll.off hD b)
theorem FrAll.snoc {K : PySem.W.Frag} {H : Hp} : ∀ {vs : List V} {qs : List F} {v : V} {q : F}, FrAll K H vs qs → Fr K H v q → FrAll K H (vs ++ [v]) (qs ++ [q])
  | _, _, _, _, .nil, h => .cons h .nil
  | _, _, _, _, .cons a b, h => .cons a (FrAll.snoc b h)
theorem Po.mono {K : PySem.W.Frag} {H H' : Hp} {v : V} {qs : List F} (e : Same H H') (h : Po K H v qs) : Po K H' v qs := by
  obtain ⟨a, xs, rfl, s, f⟩ := h
  exact ⟨a, xs, rfl, Bs.Same.t e s, f.mono e⟩
theorem co_dm {qs : List F} (h : ∀ q ∈ qs, Dm q) (k : Nat) : Dm (co qs k) := by
  unfold co
  rw [List.getD_eq_getElem?_getD]
  cases e : qs[k]? with
  | none => exact ⟨Lt2.mono (m := 1) (by show (0 : Int).natAbs < 2; decide) (by decide), by decide, Lt2.mono (m := 1) (by show (1 : Int).natAbs < 2; decide) (by decide)⟩
  | some q => exact h q (List.mem_of_getElem? e)
def spPoly2 (K : PySem.W.Frag) (op : F → F → F) : Sp := fun vs H Q _ => ∃ (x y : V) (qs rs : List F), vs = [x, y] ∧ Po K H x qs ∧ Po K H y rs ∧ (∀ q ∈ qs, Dm q) ∧ (∀ r ∈ rs, Dm r) ∧ qs.length ≤ 500 ∧ rs.length ≤ 500 ∧
  ∀ H' p, Same H H' → Po K H' (.ref p) (trim (byPower op qs rs (max qs.length rs.length))) → Q (.ref p) H'
abbrev sPLess : Stmt := top 10
section
variable {P : Program} {w : World} {K : PySem.W.Frag} {mg : Str → Option Value} {base : Heap} {f : Addr} {fd : FuncData}
theorem scPLess : FnScope ["one", "other", "many", "k"] ["one", "other"] (defScope sPLess) := ⟨rfl, rfl, rfl, by decide +kernel, rfl, by decide +kernel, by decide +kernel⟩
theorem ok_pless (F : Fun K "poly_lessened" "poly_lessened" sPLess f fd) (T : Blt mg) (mx : mg "max" = none) (C : Cal P w K mg base 2 "lessened" (spOp K sub dom2)) (At : Cal P w K mg base 1 "at_power" (spAt K)) (Tr : Cal P w K mg base 1 "trimmed" (spTrim K)) :
    FnOk P w K mg base CX0 3 f fd ["one", "other"] (spPoly2 K sub) := by
  refine F.ok scPLess (fun vs H Q E h => ?_) (fun cdv A outer s H vs Q E hr h => ?_)
  · obtain ⟨x, y, qs, rs, rfl, _⟩ := h
    rfl
  · obtain ⟨x, y, qs, rs, rfl, px, py, dq, dr, lq, lr, kk⟩ := h
    refine ⟨_, pss_cons (ps_set (i := 2) scPLess.nd rfl (Or.inl rfl) (pe_callB (call_max2 rfl) (by rfl) mx (by decide +kernel) (pa_cons (pe_callB call_len_seq (by rfl) T.len (by decide +kernel) (pa_cons (pv 0) pa_nil)) (pa_cons (pe_callB call_len_seq (by rfl) T.len (by decide +kernel) (pa_cons (pv 1) pa_nil)) pa_nil))))
      (pss_one (ps_ret (pe_n Tr hr (by decide) (by rfl) (pa_cons (pe_lc (own := [("k", 3)]) (g := gName 3) (tt := tYes) rfl scPLess.nd (pi_range1 rfl T.range (pa_cons (pv 2) pa_nil)) (blkOk_by (N := ["one", "other", "many", "k"]) (sc := defScope sPLess) (by decide +kernel))
          (fun _ _ _ _ _ => pg_name (i := 3) scPLess.nd rfl (Or.inl rfl)) (fun _ _ _ _ _ => pts_nil)
          (fun _ _ _ _ _ => pe_n C hr (by decide) (by rfl) (pa_cons (pe_n At hr (by decide) (by rfl) (pa_cons (pv 0) (pa_cons (pv 3) pa_nil))) (pa_cons (pe_n At hr (by decide) (by rfl) (pa_cons (pv 1) (pa_cons (pv 3) pa_nil))) pa_nil)))) pa_nil)))), ?_⟩
    obtain ⟨a, xs, rfl, sx, fx⟩ := px
    obtain ⟨b, ys, rfl, sy, fy⟩ := py
    have lx := fx.len
    have ly := fy.len
    have em : (if (ys.length : Int) > (xs.length : Int) then (ys.length : Int) else (xs.length : Int)) = ((max qs.length rs.length : Nat) : Int) := by
      rw [lx, ly]
      split <;> omega
    have mn : max qs.length rs.length ≤ 500 := by omega
    generalize max qs.length rs.length = n at em mn kk
    refine ⟨_, rfl, a, xs, rfl, Or.inr sx, _, rfl, b, ys, rfl, Or.inr sy, _, _, rfl, ?_⟩
    rw [em]
    refine ⟨_, rfl, (n : Int), rfl, by omega, by omega, fun D hD => lc_range (n := (n : Int).toNat) (fun i H2 => ∃ acc, H2 D = some (.lst acc) ∧ FrAll K H2 acc (byPower sub qs rs i) ∧ Same H H2) ⟨[], upd_same, .nil, same_new hD⟩ ?_ ?_⟩
    · rintro i H2 hi ⟨acc, hD2, fa, s2⟩
      have hi2 : i < n := by omega
      have la : acc.length = i := by
        rw [fa.len, byPower, List.length_map, List.length_range]
      refine ⟨rfl, ?_⟩
      refine iteT (B := ∃ acc, H2 D = some (.lst acc) ∧ FrAll K H2 acc (byPower sub qs rs (i + 1)) ∧ Same H H2) ?_
      refine ⟨_, rfl, _, rfl, .ref a, qs, i, (by rw [Int.zero_add]; rfl), ⟨a, xs, rfl, Bs.Same.t s2 sx, fx.mono s2⟩, fun u hu => ⟨_, rfl, _, rfl, .ref b, rs, i, (by rw [Int.zero_add]; rfl), ⟨b, ys, rfl, Bs.Same.t s2 sy, fy.mono s2⟩, fun v hv => ?_⟩⟩
      refine ⟨u, v, _, _, rfl, hu, hv, ⟨co_dm dq i, co_dm dr i⟩, fun p hp => ?_⟩
      have s3 := same_new (o := fr (sub (co qs i) (co rs i))) hp
      refine ⟨acc, s3 _ _ hD2, small1000 (by omega), acc ++ [.ref p], upd_same, ?_, fun c o e => (upd_ne (ne_of_none e hD)).trans (s3 c o (s2 c o e))⟩
      rw [byPower, List.range_succ, List.map_append]
      exact (FrAll.off (s3 _ _ hD2) (fa.mono s3)).snoc ((Fr.of upd_same).off (s3 _ _ hD2))
    · rintro H2 ⟨acc, hD2, fa, s2⟩
      have la : acc.length = n := by
        rw [fa.len, byPower, List.length_map, List.length_range, Int.toNat_natCast]
      exact ⟨D, acc, _, rfl, Or.inl (SqL.of hD2), fa, by omega, fun H' p zs s3 st ft => kk H' p (s2.trans s3) ⟨p, zs, rfl, st, ft⟩⟩
end
end Rs


set_option Elab.async false
set_option linter.all false
set_option maxRecDepth 100000
set_option maxHeartbeats 1000000
/-! for i, x in enumerate(a tuple) -/
namespace EnT
open PySem PySem.Spec PyProof.Rows L2
theorem meets_new {v : Value} {o : Obj} {H : Heap → Prop} (B : Begins v o H) :
    Meets (Builtin.«enumerate.__new__» ⟨[.type "enumerate", v], []⟩) (fun _ R s => H s.heap ∧
      R (.ok (.ret (.ref (s.heap.push o).objs.size))) { s with heap := (s.heap.push o).push { cls := .type "enumerate", data := .fields #[.none, .bool false, .ref s.heap.objs.size, rawInt 0, .none, .none] } }) :=
  .of_wp fun prog w A R s h => by
    obtain ⟨hp, g, d, tk, os⟩ := s; obtain ⟨h1, h⟩ := h
    have hsub := sub_enumerate
    have q1 : ∀ {A' : Around} {E : Value → Shared → Prop} {Q : Value → Shared → Prop}, Q (.ref hp.objs.size) ⟨hp.push o, g, d, tk, os⟩ → wpAny (model prog w) A' (pyIter v) Q E ⟨hp, g, d, tk, os⟩ :=
      fun q => B.iter prog w _ _ ⟨hp, g, d, tk, os⟩ _ h1 q
    wp_walk using q1
    refine wpAny_stack_any fun st => wpAny_pure ?_
    split
    · rename_i c _ _ _ _ _
      cases (c == Value.type "enumerate")
      · wp_walk using q1
        exact ⟨_, rfl, h⟩
      · wp_walk using q1
        exact ⟨_, rfl, h⟩
    · wp_walk using q1
      exact ⟨_, rfl, h⟩
theorem call_enum {prog : Program} {w : World} {A : Around} {E : Value → Shared → Prop} {s : Shared} {v : Value} {o : Obj} {H : Heap → Prop} {Q : Value → Shared → Prop} (B : Begins v o H) (h1 : H s.heap)
    (h : ∀ h', IsEnum h' (s.heap.objs.size + 1) s.heap.objs.size 0 .none → h'.get? s.heap.objs.size = some o → h'.objs.size = s.heap.objs.size + 2 →
      (∀ b o, s.heap.get? b = some o → h'.get? b = some o) → Q (.ref (s.heap.objs.size + 1)) { s with heap := h' }) :
    wpAny (model prog w) A (call (.type "enumerate") [v]) Q E s := by
  refine callType_new F.called_enumerate (by decide) (F.typeCall_enumerate_1 _) (F.newCall_enumerate_1 _) (fun obj => F.args_object_init_2 obj _) F.entry_enumerate_new
    (meets_new B) ⟨h1, ?_⟩
  have hz : (s.heap.push o).objs.size = s.heap.objs.size + 1 := Heap.size_push ..
  show _ ∧ _
  rw [hz]
  have he : IsEnum ((s.heap.push o).push { cls := .type "enumerate", data := .fields #[.none, .bool false, .ref s.heap.objs.size, rawInt 0, .none, .none] }) (s.heap.objs.size + 1) s.heap.objs.size 0 .none := by
    have := Heap.get?_push_size (s.heap.push o) (o := { cls := .type "enumerate", data := .fields #[.none, .bool false, .ref s.heap.objs.size, rawInt 0, .none, .none] }) rfl
    rw [hz] at this; exact this
  refine ⟨⟨_, he, rfl⟩, h _ he (Heap.get?_push_of_some _ (Heap.get?_push_size _ B.free)) (by rw [Heap.size_push, hz]) fun b o x => Heap.get?_push_of_some _ (Heap.get?_push_of_some _ x)⟩
/-- the turns -/
def IteT (K : PySem.W.Frag) (a : Addr) : It :=
  ⟨fun i H => ∃ (xs : List V) (x : V), SqT K H a xs ∧ xs[i]? = some x, fun i H v H' => ∃ T x, v = .ref T ∧ H T = none ∧ H' = upd H T (.tup [.int (i : Nat), x]) ∧ ∀ xs, SqT K H a xs → xs[i]? = some x, fun i H => ∃ xs : List V, SqT K H a xs ∧ xs.length ≤ i⟩
theorem turn_enumT {P : Program} {w : World} {K : PySem.W.Frag} {elts : List Expr} {kk : Nat} {tpos : Pos} (a e it : Addr) (n : Nat) :
    Turn P w K (.Tuple elts kk tpos) (IteT K a) [e, it] e (fun i h => (∃ old, IsEnum h e it ((i : Nat) : Int) old) ∧ h.IsTupleIter it a i ∧ e ≠ it ∧ a ≠ it ∧ a ≠ e) where
  mem := by simp
  obj := fun i h st b hb => by
    obtain ⟨⟨old, he⟩, ⟨o, ho, hc, hd⟩, _⟩ := st
    have e' : b = e ∨ b = it := by simpa using hb
    rcases e' with z | z
    · rw [z]; exact ⟨_, he, fun v q => nomatch q⟩
    · rw [z]; exact ⟨o, ho, fun v q => by rw [hd] at q; cases q⟩
  keep := fun i h h' st k => let ⟨⟨old, he⟩, hi, hne⟩ := st; ⟨⟨old, k e (by simp) _ he⟩, hi.at fun o q => k it (by simp) o q, hne⟩
  item := by
    intro X hP hw hK hc i pins s σ H E I hf st hg
    subst hP hw hK
    obtain ⟨⟨old, he⟩, hit, hne, hai, hae⟩ := st
    obtain ⟨xs, x, hq, hx⟩ := hg
    obtain ⟨its, rv, p, hz⟩ := I.tuple hq
    obtain ⟨u, hu, ru⟩ := rv.get hx
    have hel : e < s.heap.objs.size := Heap.lt_size he
    have hil : it < s.heap.objs.size := by obtain ⟨_, q, _⟩ := hit; exact Heap.lt_size q
    have hlt : i < its.toArray.size := by
      obtain ⟨hlt, _⟩ := List.getElem?_eq_some_iff.mp hu
      simpa using hlt
    have p' : s.heap.IsTuple a its.toArray := p
    refine wpAny_pyNext_enum_itemD (Draws.tuple (A := X.A.in1) (I.ok.hd hc) it a hai its.toArray) he ⟨hit, p'⟩ hlt hne (by simp [hne, Ne.symm hae]) fun x' h' tk hP ho hit' hT hsz hk => ?_
    have ex : x' = u := by
      have : its[i]? = some x' := by simpa using hP
      rw [hu] at this
      exact (Option.some.inj this).symm
    subst ex
    refine ⟨_, rfl, wpAny_letOwnedTupleGo_enum (s := { s with heap := h', toks := tk + 1 }) ho fun h'' he' sb => ?_⟩
    have hT2 : h''.get? s.heap.objs.size = some { cls := .type "tuple", data := .seq #[.int i tk, x'] } := (sb.2 _ (Nat.ne_of_gt hel)).trans hT
    have new : ObjOk X.prog X.w (upd H s.heap.objs.size (.tup [.int (i : Nat), x])) h'' s.heap.objs.size (.tup [.int (i : Nat), x]) :=
      ⟨by show 2 ≤ sizeLine; decide, [.int i tk, x'], .cons ⟨_, rfl⟩ (.cons ru .nil), ⟨_, hT2, rfl, _, rfl⟩⟩
    have I1 : Inv X pins σ (upd H s.heap.objs.size (.tup [.int (i : Nat), x])) { s with heap := h'', toks := tk + 1 } :=
      I.turnedNew (ch := [e, it]) (fun b ob hb q => (sb.2 b (fun z => hb (by simp [z]))).trans (hk b ob (fun z => hb (by simp [z])) (fun z => hb (by simp [z])) q)) hf (Nat.le_refl _) new
    refine ⟨.ref s.heap.objs.size, _, I1, rfl, ⟨_, x, rfl, I.hok.fresh (Nat.le_refl _), rfl, fun ys hy => by rw [I.tuple_inj hy hq]; exact hx⟩, ⟨⟨x', ?_⟩, hit'.1.at fun o q => (sb.2 it (Ne.symm hne)).trans q, hne, hai, hae⟩, fun b hb => ?_⟩
    · have e1 : ((i + 1 : Nat) : Int) = (i : Int) + 1 := by omega
      rw [e1]; exact he'
    · have hb' : b < s.heap.objs.size := by
        have e' : b = e ∨ b = it := by simpa using hb
        rcases e' with z | z
        · rw [z]; exact hel
        · rw [z]; exact hil
      rw [upd_ne (Nat.ne_of_lt hb')]
      exact (hf b hb).1
  done := by
    intro X hP hw hK hc i pins s σ H E I hf st hg
    subst hP hw hK
    obtain ⟨⟨old, he⟩, hit, hne, hai, hae⟩ := st
    obtain ⟨xs, hq, hx⟩ := hg
    obtain ⟨its, rv, p, hz⟩ := I.tuple hq
    obtain ⟨f0, f1, f2, f3, f4, f5⟩ := hf it (by simp)
    have hl := rv.length
    have hT : s.TypeIs (.ref e) "enumerate" := ⟨_, he, rfl⟩
    unfold pyNext
    refine wpAny_bind (wpAny_attempt (wpAny_callSpecial?_slot (name := Str.ofString "__next__") hT F.slot_enumerate_next
      (wpAny_call_entry F.slot_enumerate_next hT F.entry_enumerate_next ?_ (F.args_enumerate_next_1 _))))
    show wpAny _ _ (field (.ref e) 2 >>= _) _ _ _
    refine wpAny_bind (wpAny_field he rfl (x := .ref it) rfl ?_)
    refine wpAny_bind (wpAny_nextOf_tuple_end (A := X.A.in1) (I.ok.hd hc) hit (show s.heap.IsTuple a its.toArray from p) (by simp; omega) fun h' e' eb hx' => ?_)
    obtain ⟨o, ho, hcl⟩ := hx'
    refine wpAny_bind (wpAny_isInstance (T := "StopIteration") (b := true) ⟨o, ho, hcl⟩ isSubtype_stop ?_)
    exact wpAny_pure ⟨rfl, I.turned (t' := s.toks) (fun b o hb q => eb b o hb q) f0 f1 f3 f4 f5⟩
  self := fun A i s Q E st h => let ⟨⟨_, he⟩, _⟩ := st; wpAny_pyIter_enum he h
def iEnumT (K : PySem.W.Frag) (ta : TA) : TI := fun σ H R => ta σ H fun vs H1 => ∃ a xs, vs = [.ref a] ∧ SqT K H1 a xs ∧ R (IteT K a) H1
theorem pi_enumT {X : Cx} {e : Expr} {ta : TA} {p pos tpos : Pos} {elts : List Expr} {kk : Nat} (hg : Gl X "enumerate") (hm : X.mg "enumerate" = none) (ha : PA X [e] ta) (hs : starEach [e] X.env = [(false, eval e X.env)] := by rfl) :
    PI X (.Tuple elts kk tpos) (.Call (.Name "enumerate" p) [e] [] pos) (iEnumT X.K ta) := by
  refine ⟨fun pins s σ H R I h => ?_⟩
  refine Call_ (ld_blt I hg hm boot_enumerate (PyProof.Rows.callWith_type1 (thn (ha.run pos pins s σ H _ I h) fun us s1 ⟨vs, H1, I1, r1, q1⟩ => ?_) hs rfl))
  obtain ⟨a, xs, ex, hq, q⟩ := q1
  subst ex
  cases r1 with
  | cons r rr =>
    cases rr
    cases r
    obtain ⟨its, rv, p', hz⟩ := I1.tuple hq
    have pt : s1.heap.IsTuple a its.toArray := p'
    have hal : a < s1.heap.objs.size := by
      obtain ⟨o, z, _⟩ := id pt
      exact Heap.lt_size z
    refine call_enum (begins_tuple a its.toArray) pt fun h' he hit hsz hk => wpAny_pyIter_enum he ?_
    have I2 : Inv X pins σ H1 { s1 with heap := h' } := I1.kept (t' := s1.toks) hk
    refine ⟨s1.heap.objs.size + 1, [s1.heap.objs.size + 1, s1.heap.objs.size], _, _, H1, rfl, I2, turn_enumT a (s1.heap.objs.size + 1) s1.heap.objs.size 0, ⟨⟨.none, he⟩, ⟨_, hit, rfl, rfl⟩, Nat.succ_ne_self _, Nat.ne_of_lt hal, Nat.ne_of_lt (Nat.lt_succ_of_lt hal)⟩, fun b hb => ?_, q⟩
    have e' : b = s1.heap.objs.size + 1 ∨ b = s1.heap.objs.size := by simpa using hb
    have hle : s1.heap.objs.size ≤ b := by
      rcases e' with z | z
      · rw [z]; exact Nat.le_add_right _ _
      · rw [z]; exact Nat.le_refl _
    exact I1.fpOk hle (I1.hok.fresh hle)
end EnT


set_option Elab.async false
set_option linter.all false
set_option maxRecDepth 100000
set_option maxHeartbeats 400000
namespace Rs
open PySem L2 Bs Fq LamX
theorem FrAll.set {K : PySem.W.Frag} {H : Hp} : ∀ {vs : List V} {qs : List F} {v : V} {q : F} (i : Nat), FrAll K H vs qs → Fr K H v q → FrAll K H (vs.set i v) (qs.set i q)
  | _, _, _, _, _, .nil, h => .nil
  | _, _, _, _, 0, .cons a b, h => .cons h b
  | _, _, _, _, i + 1, .cons a b, h => .cons a (FrAll.set i b h)
theorem FrAll.rep {K : PySem.W.Frag} {H : Hp} {v : V} {q : F} (h : Fr K H v q) : ∀ n : Nat, FrAll K H (List.replicate n v) (List.replicate n q)
  | 0 => .nil
  | n + 1 => .cons h (FrAll.rep h n)
theorem zs_dm {n : Nat} {q : F} (h : Zs n q) (e : n ≤ 400 := by omega) : Dm q := by
  obtain ⟨a, b, c⟩ := h.small e
  exact ⟨a, b, c⟩
theorem Dm.dl {q : F} (h : Dm q) : Dl q := ⟨h.big, h.pos, h.low⟩
theorem zs_dl {n : Nat} {q : F} (h : Zs n q) (e : n ≤ 400 := by omega) : Dl q := (zs_dm h e).dl
theorem walk_enumT {K : PySem.W.Frag} {a : Addr} {xs : List V} : Walk (EnT.IteT K a) xs.length (fun H => SqT K H a xs) (YPair (fun i => some (.int (i : Nat))) (fun i => xs[i]?)) := by
  refine ⟨fun i _ hi q => ⟨xs, xs[i], q, by simp [hi]⟩, fun _ q => ⟨xs, q, Nat.le_refl _⟩, fun i H v H' _ q y => ?_⟩
  obtain ⟨T, x, h1, h2, h3, h4⟩ := y
  exact ⟨T, .int (i : Nat), x, h1, h2, h3, rfl, h4 xs q⟩
end Rs


set_option Elab.async false
set_option linter.all false
set_option maxRecDepth 100000
set_option maxHeartbeats 400000
namespace Rs
open PySem L2 Bs Fq LamX
/-! ### polynomials as data -/
def dP (qs : List F) : PyData := .tuple (qs.map dF)
def fracsD (n : Int) : PyData → Bool
  | .tuple ds => decide ((ds.length : Int) ≤ n) && ds.all fracD
  | _ => false
def lastNz (ds : List PyData) : Bool :=
  match ds.getLast? with
  | none => true
  | some d => !(PyData.eqv d (dF (0, 1)))
def polyD : PyData → Bool
  | .tuple ds => decide ((ds.length : Int) ≤ 12) && ds.all fracD && lastNz ds
  | _ => false
theorem FrAll.dp {K : PySem.W.Frag} {H : Hp} : ∀ {vs : List V} {qs : List F}, FrAll K H vs qs → DpAll K H vs (qs.map dF)
  | _, _, .nil => .nil
  | _, _, .cons a b => .cons a.dp (FrAll.dp b)
theorem Po.dp {K : PySem.W.Frag} {H : Hp} {v : V} {qs : List F} (h : Po K H v qs) : Dp K H v (dP qs) := by
  obtain ⟨a, xs, rfl, s, f⟩ := h
  exact .tup s f.dp
theorem dp_frAll {K : PySem.W.Frag} {H : Hp} : ∀ {vs : List V} {qs : List F}, DpAll K H vs (qs.map dF) → FrAll K H vs qs
  | _, [], h => by
    cases h
    exact .nil
  | _, q :: qs, h => by
    cases h with
    | cons h1 h2 => exact .cons (dp_fr h1) (dp_frAll h2)
theorem dp_po {K : PySem.W.Frag} {H : Hp} {v : V} {qs : List F} (h : Dp K H v (dP qs)) : Po K H v qs := by
  cases h with
  | tup s f => exact ⟨_, _, rfl, s, dp_frAll f⟩
theorem all_frac : ∀ {ds : List PyData}, ds.all fracD = true → ∃ qs : List F, ds = qs.map dF ∧ ∀ q ∈ qs, Fq.Ok q
  | [], _ => ⟨[], rfl, fun q h => by simp at h⟩
  | d :: ds, h => by
    rw [List.all_cons, Bool.and_eq_true] at h
    obtain ⟨q, rfl, o⟩ := fracD_true h.1
    obtain ⟨qs, rfl, os⟩ := all_frac h.2
    refine ⟨q :: qs, rfl, fun r hr => ?_⟩
    rcases List.mem_cons.mp hr with rfl | h
    · exact o
    · exact os r h
theorem all_frac_of : ∀ {qs : List F}, (∀ q ∈ qs, Fq.Ok q) → (qs.map dF).all fracD = true
  | [], _ => rfl
  | q :: qs, h => by
    rw [List.map_cons, List.all_cons, fracD_dF (h q List.mem_cons_self), Bool.true_and]
    exact all_frac_of fun r hr => h r (List.mem_cons_of_mem _ hr)
instance (qs : List F) : Decidable (Pn qs) := inferInstanceAs (Decidable (qs = [] ∨ co qs (qs.length - 1) ≠ (0, 1)))
theorem lastNz_map (qs : List F) : lastNz (qs.map dF) = decide (Pn qs) := by
  unfold lastNz
  rw [List.getLast?_map]
  cases e : qs.getLast? with
  | none =>
    have : qs = [] := List.getLast?_eq_none_iff.mp e
    exact (decide_eq_true (show Pn qs from Or.inl this)).symm
  | some q =>
    show (!(PyData.eqv (dF q) (dF (0, 1)))) = _
    rw [eqv_nought]
    have hn : qs ≠ [] := fun z => by rw [z] at e; cases e
    have ec : co qs (qs.length - 1) = q := by
      refine co_get ?_
      rw [← List.getLast?_eq_getElem?, e]
    by_cases c : q = (0, 1)
    · rw [decide_eq_true c]
      refine (decide_eq_false ?_).symm
      rintro (z | z)
      · exact hn z
      · exact z (ec.trans c)
    · rw [decide_eq_false c]
      exact (decide_eq_true (show Pn qs from .inr (fun z => c (ec.symm.trans z)))).symm
theorem polyD_true {d : PyData} (h : polyD d = true) : ∃ qs : List F, d = dP qs ∧ (∀ q ∈ qs, Fq.Ok q) ∧ qs.length ≤ 12 ∧ Pn qs := by
  unfold polyD at h
  split at h
  · rename_i ds
    rw [Bool.and_eq_true, Bool.and_eq_true] at h
    obtain ⟨⟨h1, h2⟩, h3⟩ := h
    obtain ⟨qs, rfl, o⟩ := all_frac h2
    rw [lastNz_map] at h3
    have := of_decide_eq_true h1
    rw [List.length_map] at this
    exact ⟨qs, rfl, o, by omega, of_decide_eq_true h3⟩
  · cases h
theorem polyD_of {qs : List F} (o : ∀ q ∈ qs, Fq.Ok q) (l : qs.length ≤ 12) (p : Pn qs) : polyD (dP qs) = true := by
  show (decide (((qs.map dF).length : Int) ≤ 12) && (qs.map dF).all fracD && lastNz (qs.map dF)) = true
  rw [all_frac_of o, lastNz_map, decide_eq_true p, List.length_map, decide_eq_true (by omega)]
  rfl
theorem fracsD_of {qs : List F} (o : ∀ q ∈ qs, Fq.Ok q) (l : qs.length ≤ 12) : fracsD 12 (dP qs) = true := by
  show (decide (((qs.map dF).length : Int) ≤ 12) && (qs.map dF).all fracD) = true
  rw [all_frac_of o, List.length_map, decide_eq_true (by omega)]
  rfl
theorem fracsD_true {n : Int} {d : PyData} (h : fracsD n d = true) : ∃ qs : List F, d = dP qs ∧ (∀ q ∈ qs, Fq.Ok q) ∧ (qs.length : Int) ≤ n := by
  unfold fracsD at h
  split at h
  · rename_i ds
    rw [Bool.and_eq_true] at h
    obtain ⟨h1, h2⟩ := h
    obtain ⟨qs, rfl, o⟩ := all_frac h2
    have := of_decide_eq_true h1
    rw [List.length_map] at this
    exact ⟨qs, rfl, o, this⟩
  · cases h
theorem polyD_eq (d : PyData) : polyD d = (fracsD 12 d && match d with | .tuple ds => lastNz ds | _ => false) := by
  cases d <;> rfl
theorem dF_inj {q r : F} (h : dF q = dF r) : q = r := by
  obtain ⟨a, b⟩ := q
  obtain ⟨c, d⟩ := r
  simp only [dF, PyData.tuple.injEq, List.cons.injEq, PyData.int.injEq, and_true] at h
  rw [h.1, h.2]
theorem map_dF_inj : ∀ {qs rs : List F}, qs.map dF = rs.map dF → qs = rs
  | [], [], _ => rfl
  | [], _ :: _, h => by cases h
  | _ :: _, [], h => by cases h
  | q :: qs, r :: rs, h => by
    rw [List.map_cons, List.map_cons, List.cons.injEq] at h
    rw [dF_inj h.1, map_dF_inj h.2]
theorem dP_inj {qs rs : List F} (h : dP qs = dP rs) : qs = rs := by
  simp only [dP, PyData.tuple.injEq] at h
  exact map_dF_inj h
abbrev sAreF : Stmt := top 23
def spAreF (K : PySem.W.Frag) : Sp := fun vs H Q _ => ∃ (v : V) (d : PyData) (n : Int), vs = [v, .int n] ∧ Dp K H v d ∧ n ≤ 12 ∧ ∀ H', Same H H' → Q (.bl (fracsD n d)) H'
theorem dpAll_at {K : PySem.W.Frag} {H : Hp} : ∀ {ds : List PyData} {xs : List V} {i : Nat} {x : V}, DpAll K H xs ds → xs[i]? = some x → ∃ d, ds[i]? = some d ∧ Dp K H x d
  | _, _, i, x, .nil, h => by simp at h
  | _, _, 0, x, .cons h1 h2, h => by
    simp only [List.getElem?_cons_zero, Option.some.injEq] at h
    rw [← h]
    exact ⟨_, rfl, h1⟩
  | _, _, i + 1, x, .cons h1 h2, h => by
    simp only [List.getElem?_cons_succ] at h
    obtain ⟨d, m, e⟩ := dpAll_at h2 h
    exact ⟨d, m, e⟩
/-- data kept where all is kept -/
theorem sqL_same {K : PySem.W.Frag} {H H' : Hp} (e : Same H H') {a : Addr} {xs : List V} (h : SqL K H a xs) : SqL K H' a xs := e.seq h
mutual
theorem dp_same' {K : PySem.W.Frag} {H H' : Hp} (e : Same H H') : ∀ (d : PyData) (v : V), Dp K H v d → Dp K H' v d
  | .none, _, h => by
    cases h
    exact .non
  | .bool b, _, h => by
    cases h
    exact .bl _
  | .int i, _, h => by
    cases h
    exact .int _
  | .str x, _, h => by
    cases h
    exact .str _
  | .list ds, _, h => by
    cases h with
    | lst hs ha => exact .lst (sqL_same e hs) (dpAll_same' e ds _ ha)
  | .tuple ds, _, h => by
    cases h with
    | tup hs ha => exact .tup (Bs.Same.t e hs) (dpAll_same' e ds _ ha)
  | .dict _, _, h => by cases h
theorem dpAll_same' {K : PySem.W.Frag} {H H' : Hp} (e : Same H H') : ∀ (ds : List PyData) (vs : List V), DpAll K H vs ds → DpAll K H' vs ds
  | [], _, h => by
    cases h
    exact .nil
  | d :: ds, _, h => by
    cases h with
    | cons h1 h2 => exact .cons (dp_same' e d _ h1) (dpAll_same' e ds _ h2)
end
theorem dps {K : PySem.W.Frag} {H H' : Hp} (e : Same H H') {d : PyData} {v : V} (h : Dp K H v d) : Dp K H' v d := dp_same' e d v h
section
variable {P : Program} {w : World} {K : PySem.W.Frag} {mg : Str → Option Value} {base : Heap} {f : Addr} {fd : FuncData}
theorem scAreF : FnScope ["thing", "most", "part"] ["thing", "most"] (defScope sAreF) := ⟨rfl, rfl, rfl, by decide +kernel, rfl, by decide +kernel, by decide +kernel⟩
theorem ok_areF (F : Fun K "are_fractions" "are_fractions" sAreF f fd) (T : Blt mg) (al : mg "all" = none) (W : Cal P w K mg base 2 "is_fraction" (spFraction K)) : FnOk P w K mg base CX0 3 f fd ["thing", "most"] (spAreF K) := by
  refine F.ok scAreF (fun vs H Q E h => ?_) (fun cdv A outer s H vs Q E hr h => ?_)
  · obtain ⟨v, d, n, rfl, _⟩ := h
    rfl
  · obtain ⟨v, d, n, rfl, hd, hn, kk⟩ := h
    refine ⟨_, pss_one (ps_ret (pe_and (pe_callB call_isi (by rfl) T.isinstance (by decide +kernel) (pa_cons (pv 0) (pa_cons (pe_bltn (v := .ty "tuple") (by rfl) T.tuple (by decide +kernel) rfl) pa_nil)))
      (pe_and (pe_cmpR op_le (pe_callB call_len_seq (by rfl) T.len (by decide +kernel) (pa_cons (pv 0) pa_nil)) (pv 1) (nomark _))
        (pe_one (pe_callB (cr_all rfl) (by rfl) al (by decide +kernel) (pa_cons (pe_lc (own := [("part", 2)]) (g := gName 2) (tt := tYes) rfl scAreF.nd (pi_tup (pv 0)) (blkOk_by (N := ["thing", "most", "part"]) (sc := defScope sAreF) (by decide +kernel))
          (fun _ _ _ _ _ => pg_name (i := 2) scAreF.nd rfl (Or.inl rfl)) (fun _ _ _ _ _ => pts_nil)
          (fun _ _ _ _ _ => pe_n W hr (by decide) (by rfl) (pa_cons (pv 2) pa_nil))) pa_nil)))))), ?_⟩
    refine ⟨v, rfl, v, _, _, _, _, rfl, .ty _, hd.ty, kitT K d, _, rfl, ?_⟩
    have no : fracsD n d = false → isTup d = false → Q (.bl false) H := fun e _ => by
      have := kk H (fun _ _ z => z)
      rwa [e] at this
    cases d with
    | tuple ds =>
      refine iteT ?_
      cases hd with
      | tup sq all =>
        rename_i a xs
        have l := dpAll_len all
        refine ⟨_, rfl, a, xs, rfl, Or.inr sq, _, rfl, _, _, rfl, rfl, _, rfl, ?_⟩
        have e : fracsD n (.tuple ds) = (decide ((xs.length : Int) ≤ n) && ds.all fracD) := by rw [l]; rfl
        refine ite2 (fun c => ?_) (fun c => ?_)
        · have cl : (xs.length : Int) ≤ n := of_decide_eq_true c
          rw [decide_eq_true cl, Bool.true_and] at e
          refine ⟨_, rfl, a, rfl, ⟨_, sq⟩, fun D hD => lc_tup (K := K) (a := a) (xs := xs) (fun i H2 => Same H H2 ∧ H2 D = some (.lst (((ds.take i).map fracD).map V.bl))) ⟨same_new hD, upd_same⟩ (fun i H2 _ z => Bs.Same.t z.1 sq) ?_ ?_⟩
          · rintro i x H2 hx ⟨s2, hD2⟩
            obtain ⟨d', hd', dd⟩ := dpAll_at all hx
            refine ⟨rfl, ?_⟩
            refine iteT (B := Same H H2 ∧ H2 D = some (.lst (((ds.take (i + 1)).map fracD).map V.bl))) ?_
            refine ⟨_, rfl, x, d', rfl, dps s2 dd, ?_⟩
            refine ⟨_, hD2, ?_, fun b o e => (upd_ne (ne_of_none e hD)).trans (s2 b o e), ?_⟩
            · rw [List.length_map, List.length_map, List.length_take]
              exact small1000 (by omega)
            · rw [upd_same, take_one hd', List.map_append, List.map_append]
              rfl
          · rintro H2 ⟨s2, hD2⟩
            rw [l, List.take_length] at hD2
            refine ⟨D, _, rfl, SqL.of hD2, ?_⟩
            have := kk H2 s2
            rw [e] at this
            rw [List.all_map]
            exact this
        · have := kk H (fun _ _ z => z)
          rw [e, Bool.eq_false_iff.mpr c, Bool.false_and] at this
          exact this
    | none => exact iteF (no rfl rfl)
    | bool b => exact iteF (no rfl rfl)
    | int i => exact iteF (no rfl rfl)
    | str x => exact iteF (no rfl rfl)
    | list xs => exact iteF (no rfl rfl)
    | dict xs => exact iteF (no rfl rfl)
end
end Rs


set_option Elab.async false
set_option linter.all false
set_option maxRecDepth 100000
set_option maxHeartbeats 4000000
/-! an own class of errors over a built-in one of any family, with an __init__ of its own -/
namespace OxF
open PySem PySem.W PySem.Calls PyProof.Rows PySem.HandSPX L2 Builtin Builtin.ObjectAttr
/-- what a family of built-in errors gives -/
structure Fam (B nw it : String) (tl : List Value) : Prop where
  base : ExcBaseFacts B nw it tl
  pass : ∀ self : Value, refuseLoop self "__setattr__" tl = pure ()
  obj : tl.contains (.type "object") = true
theorem famO : Fam "OverflowError" "OverflowError.__new__" "OverflowError.__init__" [.type "OverflowError", .type "ArithmeticError", .type "Exception", .type "BaseException", .type "object"] := ⟨F.excBase_OverflowError, fun self => by kernel_rfl, by decide +kernel⟩
structure OexF (K : W.Frag) (nw : String) (tl : List Value) (C : Addr) : Prop where
  cls : ∃ nm q N bs sn sub ab col dd k0 k1 k2 k3 k5, K.lookup C = some (excClassObj nm q C N bs tl true sn sub ab col dd k0 k1 k2 k3 k5 nw)
  sa : W.findIn K (.ref C) "__setattr__" = some (some (.builtin "object.__setattr__"))
  ex : W.subIn K (.ref C) (.type "BaseException") = some true
  ty : W.typeIn K (.ref C) = some (.type "type")
  kp : W.keepIn K (.ref C) = true
section
variable {prog : Program} {w : World} {A : Around} {B nw it : String} {tl : List Value} {K : W.Frag} {hp : Heap} {fl : Str} {tk : Tok} {y : Value} {a C : Addr} {fv : Array Value} {cd : ClassData} {g : Array GenState} {dr : Drawn} {t : Nat} {os : OsState} {R : Result → Shared → Prop}
/-- the first field of such an error -/
theorem first_field (fam : Fam B nw it tl) (inK : K.In hp) (at_ : hp.get? a = some { cls := .ref C, data := .fields fv }) (cl : W.clsIn K C = some cd) (mro : cd.mro = .ref C :: tl) (dct : cd.hasDict = true) (none_ : W.findIn K (.ref C) fl = some none)
    (wish : ∀ h2 tk2 dx, (∀ b o, b ≠ a → hp.get? b = some o → h2.get? b = some o) → hp.objs.size ≤ dx → dx ≠ a → h2.get? a = some { cls := .ref C, dict := some dx, data := .fields fv } → h2.Ns1 dx (fun z => if z = fl then some y else none) → R (.ok (.ret .none)) ⟨h2, g, dr, tk2, os⟩) :
    codeAny (model prog w) A (.call (.builtin "object.__setattr__") ⟨[.ref a, .str fl tk, y], []⟩) R ⟨hp, g, dr, t, os⟩ := by
  have inst : W.InstAt hp a { cls := .ref C, data := .fields fv } C none := ⟨at_, rfl, rfl, trivial⟩
  have far : a ≠ hp.objs.size := Nat.ne_of_lt (Heap.lt_size at_)
  have whole : W.Looks (model prog w) hp (mroOf (.ref C)) cd.mro := W.Looks.andThen (W.looks_clsIn inK cl) W.Looks.now
  have isObj : W.Looks (model prog w) hp (isInstance (.ref a) (.type "object")) true := inst.type.andThen (W.looks_mroIn inK (by
    unfold W.mroIn
    rw [cl, Option.bind_some, mro]
    simp only [List.isEmpty_cons, List.contains_cons, fam.obj]
    rfl))
  have so := F.store_object
  refine codeAny_call_builtin so.slot.plain so.entry (@W.check_slot (model prog w) _ _ ⟨hp, g, dr, t, os⟩ "object.__setattr__" "object" "__setattr__" (.ref a) [.str fl tk, y] [] _ so.kind so.split isObj (so.args _ _ _) ?_)
  have told : W.Looks (model prog w) hp (classData C) cd := W.looks_clsIn inK cl
  have noTaker : W.Looks (model prog w) hp (storeTaker? none) none := W.Looks.now
  rw [W.osa_eq]
  rw [refuse_eq]
  refine wpAny_bind (wpAny_bind (inst.type.at (wpAny_bind (whole.at ?_))))
  rw [mro, refuseLoop_ref, fam.pass]
  refine wpAny_pure (wpAny_bind (inst.type.at (wpAny_bind ((W.looks_findIn inK none_).at (wpAny_bind (noTaker.at ?_))))))
  show wpAny _ _ (storeInOwnDict (.ref a) (.ref C) (.str fl tk) fl y false) _ _ _
  obtain ⟨c1, c2, c3, c4, c5, c6, c7, c8, c9, c10, c11⟩ := cd
  dsimp only at dct
  subst dct
  unfold storeInOwnDict
  unfold ownDictForStores
  repeat (first
    | with_reducible refine store_in_new ?_ ?_
    | with_reducible refine wpAny_loadPart_at at_ ?_
    | with_reducible refine told.at ?_
    | wp_step)
  · refine ⟨_, #[], _, (Heap.get?_update_ne _ _ _ _ far.symm).trans (Heap.get?_push_at rfl rfl), rfl, ?_, fun _ => rfl⟩
    intro en he
    exact absurd he (by simp)
  · intro h2 tk2 ns2 same
    have at2 : (hp.push { cls := .type "dict", data := .dict #[] }).get? a = some { cls := .ref C, data := .fields fv } := Heap.get?_push_of_some _ at_
    refine wish h2 tk2 hp.objs.size (fun b o nb hb => ?_) (Nat.le_refl _) far.symm ((same.2 a far).trans (Heap.get?_update_self _ at2 rfl)) ns2
    have nb2 : b ≠ hp.objs.size := Nat.ne_of_lt (Heap.lt_size hb)
    exact ((same.2 b nb2).trans (Heap.get?_update_ne _ _ _ _ nb)).trans (Heap.get?_push_of_some _ hb)
end
section
variable {X : Cx} {pins : List (Addr × Obj)} {σ : L2.St} {H : Hp} {s : Shared} {a C : Addr} {f : Str} {y : V} {u : Value} {B nw it : String} {tl : List Value} {Q : Unit → Shared → Prop} {E : Value → Shared → Prop} {A : Around}
theorem set_first (fam : Fam B nw it tl) (T : OexF X.K nw tl C) (I : L2.Inv X pins σ H s) (e : H a = some (exo a C none)) (no : W.findIn X.K (.ref C) f = some none) (ry : RelV y u)
    (wish : ∀ dx s', H dx = none → dx ≠ a → L2.Inv X pins σ (upd (upd H dx (exd dx [(f, y)])) a (exo a C (some dx))) s' → Q () s') : wpAny (model X.prog X.w) A (setAttr (.ref a) f u) Q E s := by
  obtain ⟨nm, qn, N, bs, sn, sub, ab, col, dd, k0, k1, k2, k3, k5, hC⟩ := T.cls
  have cl : W.clsIn X.K C = some ⟨nm, bs, .ref C :: tl, N, qn, true, sn, sub, ab, col, false⟩ := by
    unfold W.clsIn
    rw [hC] <;> rfl
  obtain ⟨t1, there⟩ := exo_at I.hok e
  obtain ⟨hp, g, dr, t, os⟩ := s
  refine W.set_plain I.kIn (ox := { cls := .ref C, dict := none, data := .fields #[.ref t1, .none, .none, .none, .bool false, .none] }) (od := none) ⟨there, rfl, rfl, trivial⟩ T.sa ?_
  refine first_field fam I.kIn there cl rfl rfl no fun h2 tk2 dx kept big ne at2 ns2 => ?_
  have fr : H dx = none := I.hok.fresh big
  have isA : ∀ {b : Addr} {o : HO}, H b = some o → o ≠ exo a C none → b ≠ a := fun {b o} z n q => n (by
    rw [q, e] at z
    exact (Option.some.inj z).symm)
  have offA : ∀ {b : Addr}, H b = none → b ≠ a := fun {b} z q => by
    rw [q, e] at z
    cases z
  have offD : ∀ {b : Addr} {o : HO}, H b = some o → b ≠ dx := fun z => ne_of_none z fr
  have low : ∀ {b : Addr} {o : Obj}, hp.get? b = some o → b ≠ dx := fun z => Nat.ne_of_lt (Nat.lt_of_lt_of_le (Heap.lt_size z) big)
  have same : ∀ {b : Addr}, b ≠ a → b ≠ dx → upd (upd H dx (exd dx [(f, y)])) a (exo a C (some dx)) b = H b := fun n1 n2 => (upd_ne n1).trans (upd_ne n2)
  have U : Un X.fs [] H (upd (upd H dx (exd dx [(f, y)])) a (exo a C (some dx))) hp h2 := by
    constructor
    · exact fun b o z n _ _ => kept b o (offA n) z
    · exact fun b o z n _ _ => ⟨o.slots, kept b o (offA n) z⟩
    · exact fun b o z n _ => (same (offA n) (low z)).trans n
    · intro b o z _
      by_cases c : b = a
      · exact ⟨_, (congrArg h2.get? c).trans at2⟩
      · exact ⟨_, kept b o c z⟩
    · exact fun b xs z => (same (isA z (Ne.symm exo_tup)) (offD z)).trans z
    · exact fun b o v z => (same (isA z (Ne.symm exo_frz)) (offD z)).trans z
    · exact fun b ps z => ⟨#[], ((same (isA z (Ne.symm exo_tbl)) (offD z)).trans z).trans (by simp)⟩
  refine wish dx _ fr ne (I.un (t' := tk2) U fun b o z => ?_)
  by_cases c : b = a
  · subst c
    rw [upd_same] at z
    cases z
    exact exo_ok at2
  rw [upd_ne c] at z
  by_cases c2 : b = dx
  · subst c2
    rw [upd_same] at z
    cases z
    exact exd_ok ns2 (relO_put (fs := []) ry fun _ => True.intro)
  rw [upd_ne c2] at z
  refine (I.hok b o z).stay (fun c' v h1 h3 => kept c' v ?_ h3) (fun c' h1 => ?_) (fun c' xs h1 => ?_)
  · rcases h1 with rfl | h1
    · exact c
    · exact isA h1 (Ne.symm exo_own)
  · exact (same (isA h1 (Ne.symm exo_own)) (offD h1)).trans h1
  · exact (same (isA h1 (Ne.symm exo_tup)) (offD h1)).trans h1
/-- self.f = e, the first one -/
def tSetF (K : W.Frag) (nw : String) (tl : List Value) (f : Str) (to te : TE) : TS := fun D σ H => te σ H fun y H1 => to σ H1 fun x H2 => ∃ a C : Addr, x = .ref a ∧ OexF K nw tl C ∧ W.findIn K (.ref C) f = some none ∧
  H2 a = some (exo a C none) ∧ ∀ dx, H2 dx = none → dx ≠ a → D.nx σ (upd (upd H2 dx (exd dx [(f, y)])) a (exo a C (some dx)))
theorem ps_setF {o e : Expr} {to te : TE} {p' pos : Pos} (fam : Fam B nw it tl) (ho : PE X o to) (he : PE X e te) (hs : swapsWith e (some (.Attribute o f p')) pos.line X.env = pure false := by rfl) : PS X (.Assign [.Attribute o f p'] e pos) (tSetF X.K nw tl f to te) := by
  constructor
  intro pins s σ H D I h
  refine plainObj_wpAny_Assign_Attribute (thn (he.run pins s σ H _ I h) ?_) hs
  rintro v s1 ⟨y, H1, I1, ry, h1⟩
  refine thn (ho.run pins s1 σ H1 _ I1 h1) ?_
  rintro v2 s2 ⟨x, H2, I2, rx, a, C, rfl, T, no, at_, k⟩
  cases rx
  exact set_first fam T I2 at_ no ry fun dx s' n ne J => ⟨σ, _, J, k dx n ne⟩
/-- C(e, ..) of such a class -/
theorem pmkF {CX : CXT} {x : Str} {C fI : Addr} {k : Nat} {fd : FuncData} {ps : List Str} {sp : Sp} {e : Expr} {es : List Expr} {ta : TA} {p pos : Pos} (fam : Fam B nw it tl) (T : OexF X.K nw tl C) (hi : W.findIn X.K (.ref C) "__init__" = some (some (.ref fI))) (ti : W.typeIn X.K (.ref fI) = some (.type "function"))
    (F1 : FnOk X.prog X.w X.K X.mg X.base CX k fI fd ps sp) (hr : Room (k + 1) X.A) (bi : Binds X.K fd ps []) (hx : Passes CX X (fun _ _ _ => False)) (hg : Gl X x) (hm : X.mg x = some (.ref C)) (ha : PA X (e :: es) ta)
    (hdb : (x == ("__debug__" : Str)) = false := by decide) (he : starEach (e :: es) X.env = (false, eval e X.env) :: starEach es X.env := by rfl) (hpl : (backTo pos (starEach es X.env)).any (·.1) = false := by rfl) :
    PMk X (.Call (.Name x p) (e :: es) [] pos) (tMkO C sp [] ta) := by
  intro pins s σ H Q I h
  obtain ⟨nm, qn, N, bs, sn, sub, ab, col, dd, k0, k1, k2, k3, k5, hC⟩ := T.cls
  refine wpAny_Call_Name_kw (ld_glob I hg hm (W.callWith_K (h₀ := X.base) I.ok.mod.kin T.kp (thn (ha.run pos pins s σ H _ I h) ?_) he hpl) hdb)
  rintro us ⟨hp, g, dr, tk, os⟩ ⟨vs, H1, I1, rv, short, q1⟩
  refine ⟨I1.kIn, ?_⟩
  generalize hn : hp.objs.size + 1 = n
  have big : hp.objs.size ≤ n := by omega
  have wish := q1 n (I1.hok.fresh big)
  generalize hh : (hp.push (W.kdv_tup us)).push (excO C hp.objs.size) = h2
  have kept : ∀ b o, hp.get? b = some o → h2.get? b = some o := fun b o z => by
    rw [← hh]
    exact Heap.get?_push_of_some _ (Heap.get?_push_of_some _ z)
  have atn : h2.get? n = some (excO C hp.objs.size) := by
    rw [← hh, ← hn]
    heap_get
  have J : L2.Inv X pins σ (upd H1 n (exo n C none)) ⟨h2, g, dr, tk, os⟩ := I1.laid (t' := tk) kept big (exo_ok atn)
  have rv2 : Vals (V.ref n :: (vs ++ [])) (Value.ref n :: us) := by
    rw [List.append_nil]
    exact .cons rfl rv
  have len : (Value.ref n :: us).length = ps.length := rv2.length.symm.trans (F1.len _ _ _ _ wish)
  have lus : us.length ≤ sizeLine := by
    have := rv.length
    have := sizeLine_eq
    omega
  have b0 := bi ⟨h2, g, dr, tk, os⟩ (Value.ref n :: us) J.kIn (by rw [List.append_nil]; exact len)
  rw [List.append_nil] at b0
  show wpAny _ _ (call (.ref C) us) (MkP X pins σ Q) X.xe ⟨hp, g, dr, tk, os⟩
  refine wpAny_call (call_own fam.base (fun _ => rfl) (I1.kIn _ _ hC) (W.looks_findIn I1.kIn hi) (fun self => W.bind_fn I1.kIn self ti) lus ?_)
  rw [hh, hn]
  refine codeAny_mono (F1.run _ X.stack _ _ ⟨Value.ref n :: us, []⟩ (Value.ref n :: us) _ _ (fun _ _ _ => False) (hr.make C us []) (J.env0.make C us []) b0 rv2 wish) ?_
  rintro (er | fl) s' z
  · exact hx pins σ _ _ er s' J z
  · cases fl with
    | next => exact z.elim
    | brk => exact z.elim
    | cont => exact z.elim
    | ret w1 =>
      obtain ⟨v, H2, os2, bare2, un2, ok2, r2, rfl, d, fs, ea, ed, d1, q2⟩ := z
      obtain ⟨h3, g3, d3, t3, os3⟩ := s'
      refine ⟨r2, ?_⟩
      exact mk_end (raises_own T.ex T.ty) I1 big kept un2 ok2 os2 bare2 ea ed d1 q2
end
end OxF


set_option Elab.async false
set_option linter.all false
set_option maxRecDepth 100000
set_option maxHeartbeats 400000
namespace Rs
open PySem L2 Bs Fq LamX
/-! ### errors with a field of any name -/
structure ErrW (K : PySem.W.Frag) (mg : Str → Option Value) (x qual fld : Str) (st : Stmt) (C : Addr) : Prop where
  gC : mg x = some (.ref C)
  oex : OexC K C
  xf : XfC K C
  no : PySem.W.findIn K (.ref C) fld = some none
  ini : ∃ (fI : Addr) (fd : FuncData), PySem.W.findIn K (.ref C) "__init__" = some (some (.ref fI)) ∧ PySem.W.typeIn K (.ref fI) = some (.type "function") ∧ Fun K "__init__" qual st fI fd ∧ Binds K fd ["self", fld] []
/-- the family of TooMany -/
abbrev ovT : List Value := [.type "OverflowError", .type "ArithmeticError", .type "Exception", .type "BaseException", .type "object"]
abbrev OexO (K : PySem.W.Frag) (C : Addr) : Prop := OxF.OexF K "OverflowError.__new__" ovT C
structure ErrO (K : PySem.W.Frag) (mg : Str → Option Value) (x qual fld : Str) (st : Stmt) (C : Addr) : Prop where
  gC : mg x = some (.ref C)
  oex : OexO K C
  xf : XfC K C
  no : PySem.W.findIn K (.ref C) fld = some none
  ini : ∃ (fI : Addr) (fd : FuncData), PySem.W.findIn K (.ref C) "__init__" = some (some (.ref fI)) ∧ PySem.W.typeIn K (.ref fI) = some (.type "function") ∧ Fun K "__init__" qual st fI fd ∧ Binds K fd ["self", fld] []
def spInitW (K : PySem.W.Frag) (C : Addr) (fld : Str) : Sp := fun vs H Q _ => ∃ (a : Addr) (y : V), vs = [.ref a, y] ∧ H a = some (exo a C none) ∧
  ∀ dx, H dx = none → dx ≠ a → Q .non (upd (upd H dx (exd dx [(fld, y)])) a (exo a C (some dx)))
structure ErrOkW (P : Program) (w : World) (K : PySem.W.Frag) (mg : Str → Option Value) (base : Heap) (x fld : Str) (C : Addr) : Prop where
  gC : mg x = some (.ref C)
  oex : OexC K C
  ini : ∃ (fI : Addr) (fd : FuncData), PySem.W.findIn K (.ref C) "__init__" = some (some (.ref fI)) ∧ PySem.W.typeIn K (.ref fI) = some (.type "function") ∧ FnOk P w K mg base CX0 1 fI fd ["self", fld] (spInitW K C fld) ∧ Binds K fd ["self", fld] []
structure ErrOkO (P : Program) (w : World) (K : PySem.W.Frag) (mg : Str → Option Value) (base : Heap) (x fld : Str) (C : Addr) : Prop where
  gC : mg x = some (.ref C)
  oex : OexO K C
  ini : ∃ (fI : Addr) (fd : FuncData), PySem.W.findIn K (.ref C) "__init__" = some (some (.ref fI)) ∧ PySem.W.typeIn K (.ref fI) = some (.type "function") ∧ FnOk P w K mg base CX0 1 fI fd ["self", fld] (spInitW K C fld) ∧ Binds K fd ["self", fld] []
/-- the way out with an error of the class at C that carries v -/
def OutW (E : XK) (C : Addr) (fld : Str) (v : V) (H : Hp) : Prop := ∀ d : Addr, H d = none → E (.ref C) (some d) (upd H d (.xd [(fld, v)]))
def tRzW (C : Addr) (fld : Str) (W : WX) (te : TE) : TS := fun _ σ H => te σ H fun v H1 => ∀ d : Addr, H1 d = none → W (.ref C) (some d) σ (upd H1 d (.xd [(fld, v)]))
theorem ps_rzW {X : Cx} {x fld : Str} {C : Addr} {j : Nat} {e : Expr} {te : TE} {W : WX} {p pos pos2 : Pos} (hc : X.calm = true) (T : ErrOkW X.prog X.w X.K X.mg X.base x fld C) (hr : Room j X.A) (hj : 2 ≤ j) (tk : Takes X W) (he : PE X e te) (hg : Gl X x)
    (hdb : (x == ("__debug__" : Str)) = false := by decide) (hs : starEach (e :: []) X.env = (false, eval e X.env) :: starEach [] X.env := by rfl) (hpl : (backTo pos (starEach [] X.env)).any (·.1) = false := by rfl) :
    PS X (.Raise (some (.Call (.Name x p) [e] [] pos)) none pos2) (tRzW C fld W te) := by
  obtain ⟨fI, fd, iC, tI, F1, b⟩ := T.ini
  have h := ps_raise (pos := pos2) hc tk (pmk_oex (x := x) (p := p) (pos := pos) T.oex iC tI F1 (hr.mono hj) b .nil pass0 hg T.gC (pa_cons (pe_weak he) pa_nil hs) hdb hs hpl)
  constructor
  intro pins s σ H D I q
  refine h.run pins s σ H D I ?_
  refine ⟨_, q, fun v H1 z => ?_⟩
  refine ⟨(by show 1 ≤ 1000; decide), fun a ha => ⟨a, v, rfl, upd_same, fun dx n1 n2 => ⟨rfl, dx, [(fld, v)], upd_same, ?_, ?_, ?_⟩⟩⟩
  · rw [upd_ne n2]
    exact upd_same
  · rw [upd_ne n2] at n1
    exact n1
  · rw [upd_ne n2] at n1
    show W _ _ _ (upd (del _ a) dx _)
    rw [heap_end ha n2]
    exact z dx n1
theorem ps_rzO {X : Cx} {x fld : Str} {C : Addr} {j : Nat} {e : Expr} {te : TE} {W : WX} {p pos pos2 : Pos} (hc : X.calm = true) (T : ErrOkO X.prog X.w X.K X.mg X.base x fld C) (hr : Room j X.A) (hj : 2 ≤ j) (tk : Takes X W) (he : PE X e te) (hg : Gl X x)
    (hdb : (x == ("__debug__" : Str)) = false := by decide) (hs : starEach (e :: []) X.env = (false, eval e X.env) :: starEach [] X.env := by rfl) (hpl : (backTo pos (starEach [] X.env)).any (·.1) = false := by rfl) :
    PS X (.Raise (some (.Call (.Name x p) [e] [] pos)) none pos2) (tRzW C fld W te) := by
  obtain ⟨fI, fd, iC, tI, F1, b⟩ := T.ini
  have h := ps_raise (pos := pos2) hc tk (OxF.pmkF (x := x) (p := p) (pos := pos) OxF.famO T.oex iC tI F1 (hr.mono hj) b pass0 hg T.gC (pa_cons (pe_weak he) pa_nil hs) hdb hs hpl)
  constructor
  intro pins s σ H D I q
  refine h.run pins s σ H D I ?_
  refine ⟨_, q, fun v H1 z => ?_⟩
  refine ⟨(by show 1 ≤ 1000; decide), fun a ha => ⟨a, v, rfl, upd_same, fun dx n1 n2 => ⟨rfl, dx, [(fld, v)], upd_same, ?_, ?_, ?_⟩⟩⟩
  · rw [upd_ne n2]
    exact upd_same
  · rw [upd_ne n2] at n1
    exact n1
  · rw [upd_ne n2] at n1
    show W _ _ _ (upd (del _ a) dx _)
    rw [heap_end ha n2]
    exact z dx n1
end Rs


set_option Elab.async false
set_option linter.all false
set_option maxRecDepth 100000
set_option maxHeartbeats 400000
namespace Rs
open PySem L2 Bs Fq LamX
theorem can_dFs : ∀ qs : List F, PyData.canLayAll0 (qs.map dF) = true
  | [] => by simp [PyData.canLayAll0]
  | q :: qs => by
    have := can_dFs qs
    simp [PyData.canLayAll0, PyData.canLay0, dF, this]
theorem dep_dFs : ∀ qs : List F, PyData.depthAll (qs.map dF) ≤ 2
  | [] => by simp [PyData.depthAll]
  | q :: qs => by
    have := dep_dFs qs
    simp only [List.map_cons, PyData.depthAll, PyData.depth, dF]
    omega
theorem shaped_dFs (qs : List F) : SeqAt.shaped (.list (qs.map dF)) = true := by
  unfold SeqAt.shaped
  rw [Bool.and_eq_true_iff]
  refine ⟨?_, decide_eq_true ?_⟩
  · simpa [PyData.canLay0] using can_dFs qs
  · have := dep_dFs qs
    simp only [PyData.depth]
    omega
theorem eqv_nil (qs : List F) : PyData.eqv (.list (qs.map dF)) (.list []) = qs.isEmpty := by
  cases qs <;> rfl
abbrev sLProd : Stmt := top 52
/-- a list of fractions -/
def Ls (K : PySem.W.Frag) (H : Hp) (v : V) (qs : List F) : Prop := ∃ a xs, v = .ref a ∧ SqL K H a xs ∧ FrAll K H xs qs
theorem Ls.mono {K : PySem.W.Frag} {H H' : Hp} {v : V} {qs : List F} (e : Same H H') (h : Ls K H v qs) : Ls K H' v qs := by
  obtain ⟨a, xs, rfl, s, f⟩ := h
  exact ⟨a, xs, rfl, e.seq s, f.mono e⟩
def spLProd (K : PySem.W.Frag) : Sp := fun vs H Q _ => ∃ (x y : V) (qs rs : List F) (n m : Nat), vs = [x, y] ∧ Ls K H x qs ∧ Ls K H y rs ∧ Za n qs ∧ Za m rs ∧ n + m ≤ 200 ∧ qs.length ≤ 12 ∧ rs.length ≤ 12 ∧ qs ≠ [] ∧ rs ≠ [] ∧
  ∀ H' v, Same H H' → Ls K H' v (prodN (qs.length + rs.length - 1) qs rs) → Q v H'
end Rs


set_option Elab.async false
set_option linter.all false
set_option maxRecDepth 100000
set_option maxHeartbeats 400000
namespace Rs
open PySem L2 Bs Fq LamX
section
variable {P : Program} {w : World} {K : PySem.W.Frag} {mg : Str → Option Value} {base : Heap} {f : Addr} {fd : FuncData}
theorem scLProd : FnScope ["one", "far", "found_so", "k", "top", "j", "late"] ["one", "far"] (defScope sLProd) := ⟨rfl, rfl, rfl, by decide +kernel, rfl, by decide +kernel, by decide +kernel⟩
theorem ok_lprod (F : Fun K "_law_product" "_law_product" sLProd f fd) (T : Blt mg) (en : mg "enumerate" = none) (Ad : Cal P w K mg base 2 "_law_plus" (spOp K add domL)) (Ti : Cal P w K mg base 2 "_law_times" (spOp K mul domL)) :
    FnOk P w K mg base CX0 3 f fd ["one", "far"] (spLProd K) := by
  refine F.ok scLProd (fun vs H Q E h => ?_) (fun cdv A outer s H vs Q E hr h => ?_)
  · obtain ⟨x, y, qs, rs, _, _, rfl, _⟩ := h
    rfl
  · obtain ⟨x, y, qs, rs, za, zb, rfl, ⟨a, xs, rfl, sx, fx⟩, ⟨b, ys, rfl, sy, fy⟩, hq, hrs, hab, lq, lr, n1', n2', kk⟩ := h
    refine ⟨_, pss_cons (ps_if (PW.pt (pw_or (pt_cmpR (op_eqD hr.units) (pv 0) (pe_lst pa_nil) (nomark _)) (pw_or1 (pt_cmpR (op_eqD hr.units) (pv 1) (pe_lst pa_nil) (nomark _))))) (pss_one (ps_ret (pe_lst pa_nil))) pss_nil)
      (pss_cons (ps_set (i := 2) scLProd.nd rfl (Or.inl rfl) (pe_op op_rep (pe_lst (pa_cons (pe_tup (pa_cons pe_int (pa_cons pe_int pa_nil))) pa_nil)) (pe_op op_sub (pe_op op_add (pe_callB call_len_seq (by rfl) T.len (by decide +kernel) (pa_cons (pv 0) pa_nil)) (pe_callB call_len_seq (by rfl) T.len (by decide +kernel) (pa_cons (pv 1) pa_nil))) pe_int)))
      (pss_cons (ps_for PassesOwn.never rfl (pi_enum (by rfl) en (pa_cons (pv 0) pa_nil)) (pg_tup rfl (pgs_cons (pg_name (i := 3) scLProd.nd rfl (.inl rfl)) (pgs_cons (pg_name (i := 4) scLProd.nd rfl (.inl rfl)) pgs_nil)))
        (pss_one (ps_for PassesOwn.never rfl (pi_enum (by rfl) en (pa_cons (pv 1) pa_nil)) (pg_tup rfl (pgs_cons (pg_name (i := 5) scLProd.nd rfl (.inl rfl)) (pgs_cons (pg_name (i := 6) scLProd.nd rfl (.inl rfl)) pgs_nil)))
          (pss_one (ps_asg (pe_n Ad hr (by decide) (by rfl) (pa_cons (pe_ix ix_list (pv 2) (pe_op op_add (pv 3) (pv 5)) (fun _ _ => rfl)) (pa_cons (pe_n Ti hr (by decide) (by rfl) (pa_cons (pv 4) (pa_cons (pv 6) pa_nil))) pa_nil))) (pg_sub (pv 2) (pe_op op_add (pv 3) (pv 5)) set_list))))))
      (pss_one (ps_ret (pv 2))))), ?_⟩
    have lx := fx.len
    have ly := fy.len
    refine ⟨_, rfl, (by show 0 ≤ sizeLine; decide), fun n0 hn0 => ?_⟩
    have t0 := same_new (o := .lst []) hn0
    refine ⟨.list (qs.map dF), .list [], .lst (t0.seq sx) (fx.mono t0).dp, .lst (SqL.of upd_same) .nil, shaped_dFs _, rfl, _, rfl, ?_⟩
    rw [eqv_nil]
    cases eq1 : qs.isEmpty with
    | true => exact absurd (List.isEmpty_iff.mp eq1) n1'
    | false =>
      refine iteF ?_
      refine ⟨_, rfl, (by show 0 ≤ sizeLine; decide), fun n1 hn1 => ?_⟩
      have t1 := same_new (o := .lst []) hn1
      have t01 := t0.trans t1
      refine ⟨.list (rs.map dF), .list [], .lst (t01.seq sy) (fy.mono t01).dp, .lst (SqL.of upd_same) .nil, shaped_dFs _, rfl, _, rfl, ?_⟩
      rw [eqv_nil]
      cases eq2 : rs.isEmpty with
      | true => exact absurd (List.isEmpty_iff.mp eq2) n2'
      | false =>
        refine iteF ?_
        have p1' := List.length_pos_iff.mpr n1'
        have p2' := List.length_pos_iff.mpr n2'
        generalize upd (upd H n0 (.lst [])) n1 (.lst []) = H0 at t01
        clear t1 hn1 hn0 t0
        refine ⟨(by show 2 ≤ sizeLine; decide), fun z hz => ⟨(by show 1 ≤ sizeLine; decide), fun p0 hp0 => ?_⟩⟩
        have sz := same_new (o := .tup [.int 0, .int 1]) hz
        have s0' := same_new (o := .lst [V.ref z]) hp0
        have s0 : Same H _ := (t01.trans sz).trans s0'
        have fz : Fr K (upd (upd H0 z (.tup [.int 0, .int 1])) p0 (.lst [V.ref z])) (.ref z) (0, 1) := (Fr.of upd_same).mono s0'
        have up0 : upd (upd H0 z (.tup [.int 0, .int 1])) p0 (.lst [V.ref z]) p0 = some (.lst [V.ref z]) := upd_same
        generalize upd (upd H0 z (.tup [.int 0, .int 1])) p0 (.lst [V.ref z]) = H00 at s0 fz up0 ⊢
        have hn : ((([V.ref z] : List V).length) * ((xs.length : Int) + (ys.length : Int) - 1).toNat) ≤ sizeLine := by
          rw [List.length_singleton, Nat.one_mul]
          exact Nat.le_of_lt (small1000 (by omega))
        refine ⟨_, rfl, a, xs, rfl, Or.inl (s0.seq sx), _, rfl, b, ys, rfl, Or.inl (s0.seq sy), _, _, rfl, rfl, _, _, rfl, rfl, ?_⟩
        refine ⟨p0, _, _, rfl, rfl, up0, by omega, by omega, hn, fun W hW => ?_⟩
        have eW : (List.replicate ((xs.length : Int) + (ys.length : Int) - 1).toNat [V.ref z]).flatten = List.replicate (qs.length + rs.length - 1) (V.ref z) := by
          rw [List.flatten_replicate_singleton]
          congr 1
          omega
        rw [eW]
        have s1 : Same H (upd H00 W (.lst (List.replicate (qs.length + rs.length - 1) (V.ref z)))) := s0.trans (same_new hW)
        have fz1 := fz.mono (same_new (o := .lst (List.replicate (qs.length + rs.length - 1) (V.ref z))) hW)
        have wn : H W = none := s0.free hW
        have hW1 : upd H00 W (.lst (List.replicate (qs.length + rs.length - 1) (V.ref z))) W = some (.lst (List.replicate (qs.length + rs.length - 1) (V.ref z))) := upd_same
        generalize upd H00 W (.lst (List.replicate (qs.length + rs.length - 1) (V.ref z))) = H1 at s1 hW1 fz1
        clear hn hW eW
        let St : List Fq.F → Hp → Prop := fun ws H2 => Same H H2 ∧ ∃ vs, H2 W = some (.lst vs) ∧ FrAll K H2 vs ws
        refine ⟨_, rfl, a, xs, rfl, s1.seq sx, ?_⟩
        refine for_it walk_enum (fun i σ H2 => St (stepI (List.replicate (qs.length + rs.length - 1) (0, 1)) qs rs i) H2 ∧ ∃ v3 v4 v5 v6, σ = [some (V.ref a), some (V.ref b), some (V.ref W), v3, v4, v5, v6])
          ⟨⟨s1, _, hW1, FrAll.rep fz1 _⟩, none, none, none, none, rfl⟩ (fun i σ H2 _ p => p.1.1.seq sx) ?_ ?_
        · rintro i x σ H2 H3 hi ⟨⟨s2, vs, hv, fv⟩, v3, v4, v5, v6, rfl⟩ ⟨T, x', y', rfl, hT, rfl, h1, h2⟩
          cases h1
          have s3 := same_new (o := .tup [.int (i : Nat), y']) hT
          obtain ⟨y'', q, g1, g2, g3⟩ := fx.get (i := i) (by omega)
          have h2' : xs[i]? = some y' := h2
          rw [g1] at h2'
          cases h2'
          have eq_ : co qs i = q := co_get g2
          refine ⟨T, _, rfl, SqT.of upd_same, rfl, _, _, rfl, _, _, rfl, rfl, ?_⟩
          refine ⟨_, rfl, b, ys, rfl, (s2.trans s3).seq sy, ?_⟩
          refine for_it walk_enum (fun j σ H2 => St (stepJ (stepI (List.replicate (qs.length + rs.length - 1) (0, 1)) qs rs i) i (co qs i) rs j) H2 ∧ ∃ v5 v6, σ = [some (V.ref a), some (V.ref b), some (V.ref W), some (V.int i), some y', v5, v6])
            ⟨⟨s2.trans s3, vs, s3 _ _ hv, fv.mono s3⟩, v5, v6, rfl⟩ (fun i σ H2 _ p => p.1.1.seq sy) ?_ ?_
          · rintro j x σ H4 H5 hj ⟨⟨s4, us, hu, fu⟩, v5, v6, rfl⟩ ⟨T2, x2, y2, rfl, hT2, rfl, h3, h4⟩
            cases h3
            have s5 := same_new (o := .tup [.int (j : Nat), y2]) hT2
            obtain ⟨y3, r, g4, g5, g6⟩ := fy.get (i := j) (by omega)
            have h4' : ys[j]? = some y2 := h4
            rw [g4] at h4'
            cases h4'
            have er_ : co rs j = r := co_get g5
            refine ⟨T2, _, rfl, SqT.of upd_same, rfl, _, _, rfl, _, _, rfl, rfl, ?_⟩
            have lw : (stepJ (stepI (List.replicate (qs.length + rs.length - 1) (0, 1)) qs rs i) i (co qs i) rs j).length = qs.length + rs.length - 1 := by
              rw [stepJ_len, stepI_len, List.length_replicate]
            have zr : Za (za + zb) (List.replicate (qs.length + rs.length - 1) ((0, 1) : Fq.F)) := fun q hq => by
              rw [(List.mem_replicate.mp hq).2]
              exact Zs.zero
            have pb := (stepJ_wt (i := i) (stepI_wt zr hq hrs (Nat.le_refl _) (fun _ => 0) i (by rw [List.length_replicate]; omega)).1 (hq.co i) hrs (by omega) (fun _ => 0) j (by rw [stepI_len, List.length_replicate]; omega)).1
            have hk : za + zb + i * rs.length + j ≤ 400 := by
              have : i * rs.length ≤ 11 * 12 := Nat.mul_le_mul (by omega) lr
              omega
            have ss := s4.trans s5
            have eij : (i : Int) + (j : Int) = ((i + j : Nat) : Int) := by omega
            obtain ⟨u, p, k1, k2, k3⟩ := fu.get (i := i + j) (by rw [lw]; omega)
            have eu := co_get k2
            have pm : Zs (za + zb + i * rs.length + j) p := pb p (List.mem_of_getElem? k2)
            have hus : us.length = qs.length + rs.length - 1 := by rw [fu.len, lw]
            have ha : atI us ((i : Int) + (j : Int)) = some u := by
              rw [eij]
              exact atI_nat k1
            have hix : ixN us.length ((i : Int) + (j : Int)) = some (i + j) := by
              rw [eij]
              unfold ixN
              rw [if_pos (by omega), if_pos (by omega), Int.toNat_natCast]
            have sq : Zs za q := by rw [← eq_]; exact hq.co i
            have sr : Zs zb r := by rw [← er_]; exact hrs.co j
            refine ⟨_, rfl, _, rfl, _, rfl, _, _, rfl, rfl, W, us, _, u, rfl, rfl, SqL.of (s5 _ _ hu), ha, _, rfl, _, rfl, y', y2, q, r, rfl, g3.mono ss, g6.mono ss, ⟨zs_dl sq, zs_dl sr⟩, fun c1 hc1 => ?_⟩
            have s6 := same_new (o := fr (mul q r)) hc1
            refine ⟨u, .ref c1, p, mul q r, rfl, (k3.mono s5).mono s6, Fr.of upd_same, ⟨zs_dl pm hk, zs_dl (sq.mul sr)⟩, fun c2 hc2 => ?_⟩
            have s7 := same_new (o := fr (add p (mul q r))) hc2
            have hu7 := s7 _ _ (s6 _ _ (s5 _ _ hu))
            refine ⟨_, rfl, _, rfl, _, rfl, _, _, rfl, rfl, W, us, _, i + j, rfl, rfl, hu7, hix, ?_⟩
            refine ⟨⟨fun c o e => (upd_ne (ne_of_none e wn)).trans (s7 c o (s6 c o (s5 c o (s4 c o e)))), _, upd_same, ?_⟩, _, _, rfl⟩
            show FrAll K _ _ (List.set _ _ _)
            rw [eu, er_, eq_]
            rw [eq_] at fu
            exact FrAll.set _ (FrAll.off hu7 (((fu.mono s5).mono s6).mono s7)) ((Fr.of upd_same).off hu7)
          · rintro σ H4 ⟨w4, v5, v6, rfl⟩
            rw [ly] at w4
            exact ⟨w4, _, _, _, _, rfl⟩
        · rintro σ H2 ⟨⟨s2, vs, hv, fv⟩, v3, v4, v5, v6, rfl⟩
          rw [lx] at fv
          exact ⟨_, rfl, kk H2 _ s2 ⟨W, vs, rfl, SqL.of hv, fv⟩⟩
end
end Rs


set_option Elab.async false
set_option linter.all false
set_option maxRecDepth 100000
set_option maxHeartbeats 400000
namespace Rs
open PySem L2 Bs Fq LamX
/-- the list at D alone was changed -/
theorem Sta.off {H : Hp} {p c l D : Addr} {n : Nat} {t : Int} {xs : List V} {o : HO} (S : Sta H p c l n t) (h : H D = some (.lst xs)) (n1 : c ≠ D) (n2 : l ≠ D) : Sta (upd H D o) p c l n t := by
  obtain ⟨cs, a1, a2⟩ := S.cs
  obtain ⟨ls, b1, b2⟩ := S.ls
  have n3 : p ≠ D := ne_of S.d h (by intro z; cases z)
  exact ⟨(upd_ne n3).trans S.d, ⟨cs, (upd_ne n1).trans a1, a2⟩, ⟨ls, (upd_ne n2).trans b1, b2⟩, S.ne, S.n1, S.n2, S.t0⟩
theorem FrAll.kp {K : PySem.W.Frag} {H H' : Hp} {p c l : Addr} {n : Nat} {t : Int} (k : Kp p l H H') (S : Sta H p c l n t) : ∀ {vs : List V} {qs : List F}, FrAll K H vs qs → FrAll K H' vs qs
  | _, _, .nil => .nil
  | _, _, .cons a b => .cons (k.fr S a) (FrAll.kp k S b)
theorem Po.kp {K : PySem.W.Frag} {H H' : Hp} {p c l : Addr} {n : Nat} {t : Int} {v : V} {qs : List F} (k : Kp p l H H') (S : Sta H p c l n t) (h : Po K H v qs) : Po K H' v qs := by
  obtain ⟨a, xs, rfl, s, f⟩ := h
  obtain ⟨ls, b1, _⟩ := S.ls
  refine ⟨a, xs, rfl, ?_, f.kp k S⟩
  rcases s with (s | ⟨o, s⟩) | s
  · exact .inl (.inl (k a _ s (ne_of s S.d (by intro z; cases z)) (ne_of s b1 (by intro z; cases z))))
  · exact .inl (.inr ⟨o, k a _ s (ne_of s S.d (by intro z; cases z)) (ne_of s b1 (by intro z; cases z))⟩)
  · exact .inr s
end Rs


set_option Elab.async false
set_option linter.all false
set_option maxRecDepth 100000
set_option maxHeartbeats 4000000
/-! t * 1, t a tuple that is not empty: t itself -/
namespace RpO
open PySem PySem.Spec PyProof.Rows L2
theorem once (t : Addr) (vs : Array Value) (n : Nat) (dct : Option Addr) (sls : Array (Option Value)) (tk : Tok) :
    Meets (Builtin.«tuple.__mul__» ⟨[.ref t, .int 1 tk], []⟩) (fun _ R s => s.heap.get? t = some { cls := .type "tuple", dict := dct, data := .seq vs n, slots := sls } ∧ R (.ok (.ret (Value.ref t))) s) :=
  .of_wp fun pr wd Ar Re st hh => by
    obtain ⟨q1, q2, q3, q4, q5⟩ := st
    obtain ⟨hl, hr⟩ := hh
    (wp_walk using wpAny_loadPart' hl)
    repeat (first
      | (refine wpAny_ite_false (by decide) ?_; wp_walk using wpAny_loadPart' hl)
      | (refine wpAny_ite_true (by simp) ?_; wp_walk using wpAny_loadPart' hl))
    all_goals first | exact ⟨_, rfl, hr⟩ | skip
def rOnce (K : PySem.W.Frag) : R2 := fun x y H Q => ∃ t xs, x = .ref t ∧ y = .int 1 ∧ SqT K H t xs ∧ Q (.ref t) H
theorem op_once {X : Cx} : OpR X (binaryOp .Mult) (rOnce X.K) := by
  intro pins s σ H x y v u Q I rx ry h
  obtain ⟨t, xs, rfl, rfl, hT, q⟩ := h
  cases rx
  obtain ⟨tk, rfl⟩ := ry
  obtain ⟨its, r, ⟨⟨cls, dct, data, sls⟩, ho, hc, n, hd⟩, hs⟩ := I.tuple hT
  simp only at hc hd
  subst hc hd
  exact wpAny_binaryOp_repeat_ref (T := "tuple") (U := "int") (by decide) ⟨_, ho, rfl⟩ (fun s' => typeIs_int s' 1 tk) noFill_tuple_mul F.fills_int_mul F.slot_int_rmul repeat_tuple F.slot_int_index.lookup
    (call_meets F.slot_int_rmul (typeIs_int s 1 tk) F.entry_int_rmul (F.args_int_rmul_2 _ _) (int_rmul_tuple 1 tk t its.toArray n dct sls)
      ⟨ho, rfl, ⟨_, ho, rfl⟩, call_meets F.slot_tuple_mul ⟨_, ho, rfl⟩ F.entry_tuple_mul (F.args_tuple_mul_2 _ _) (once t its.toArray n dct sls tk) ⟨ho, .ref t, H, I, rfl, q⟩⟩)
end RpO


set_option Elab.async false
set_option linter.all false
set_option maxRecDepth 100000
set_option maxHeartbeats 400000
namespace Rs
open PySem L2 Bs Fq LamX
theorem cat_any {K : PySem.W.Frag} {H : Hp} {Q : VK} {a b : Addr} {xs ys : List V} (ha : SqT K H a xs) (hb : SqT K H b ys) (sz : xs.length + ys.length ≤ sizeLine) (k : ∀ c H', Same H H' → SqT K H' c (xs ++ ys) → Q (.ref c) H') : rCatA K (.ref a) (.ref b) H Q := by
  refine ⟨a, b, xs, ys, rfl, rfl, ha, hb, sz, fun e => ?_, fun _ e => ?_, fun _ _ p hp => k p _ (same_new hp) (SqT.of upd_same)⟩
  · subst e
    exact k b H (fun _ _ z => z) hb
  · subst e
    refine k a H (fun _ _ z => z) ?_
    rw [List.append_nil]
    exact ha
abbrev sScaled : Stmt := top 11
abbrev sShifted : Stmt := top 12
abbrev sNext : Stmt := top 13
def spScaled (K : PySem.W.Frag) : Sp := fun vs H Q _ => ∃ (x y : V) (qs : List F) (r : F), vs = [x, y] ∧ Po K H x qs ∧ Fr K H y r ∧ (∀ q ∈ qs, Dm q) ∧ Dm r ∧ qs.length ≤ 500 ∧
  ∀ H' p, Same H H' → Po K H' (.ref p) (scP qs r) → Q (.ref p) H'
def spShifted (K : PySem.W.Frag) : Sp := fun vs H Q _ => ∃ (x : V) (qs : List F), vs = [x, .int 1] ∧ Po K H x qs ∧ qs ≠ [] ∧ qs.length ≤ 500 ∧
  ∀ H' p, Same H H' → Po K H' (.ref p) ((0, 1) :: qs) → Q (.ref p) H'
def spNext (K : PySem.W.Frag) : Sp := fun vs H Q _ => ∃ (x y u v : V) (bs hs : List F) (l s : F) (n : Nat), vs = [x, y, u, v] ∧ Po K H x bs ∧ Po K H y hs ∧ Fr K H u l ∧ Fr K H v s ∧ Za n bs ∧ Za n hs ∧ Zs 1 l ∧ Zs 1 s ∧ n ≤ 300 ∧ hs ≠ [] ∧ bs.length ≤ 100 ∧ hs.length ≤ 100 ∧
  ∀ H' p, Same H H' → Po K H' (.ref p) (nxt bs hs l s) → Q (.ref p) H'
theorem plL_za {n : Nat} {a b : List F} (ha : Za n a) (hb : Za n b) : Za (n + 1) (plL a b) := trim_za fun q hq => by
  obtain ⟨k, rfl⟩ := byPower_mem hq
  exact (ha.co k).sub (hb.co k)
theorem plL_len (a b : List F) : (plL a b).length ≤ max a.length b.length := by
  have := trim_len (byPower sub a b (max a.length b.length))
  rw [byPower_len] at this
  exact this
section
variable {P : Program} {w : World} {K : PySem.W.Frag} {mg : Str → Option Value} {base : Heap} {f : Addr} {fd : FuncData}
theorem scScaled : FnScope ["poly", "factor", "part"] ["poly", "factor"] (defScope sScaled) := ⟨rfl, rfl, rfl, by decide +kernel, rfl, by decide +kernel, by decide +kernel⟩
theorem ok_scaled (F : Fun K "poly_scaled" "poly_scaled" sScaled f fd) (T : Blt mg) (C : Cal P w K mg base 2 "timed" (spOp K mul dom2)) (Tr : Cal P w K mg base 1 "trimmed" (spTrim K)) :
    FnOk P w K mg base CX0 3 f fd ["poly", "factor"] (spScaled K) := by
  refine F.ok scScaled (fun vs H Q E h => ?_) (fun cdv A outer s H vs Q E hr h => ?_)
  · obtain ⟨x, y, qs, r, rfl, _⟩ := h
    rfl
  · obtain ⟨x, y, qs, r, rfl, ⟨a, xs, rfl, sx, fx⟩, hy, dq, dr, lq, kk⟩ := h
    refine ⟨_, pss_one (ps_ret (pe_n Tr hr (by decide) (by rfl) (pa_cons (pe_lc (own := [("part", 2)]) (g := gName 2) (tt := tYes) rfl scScaled.nd (pi_tup (pv 0)) (blkOk_by (N := ["poly", "factor", "part"]) (sc := defScope sScaled) (by decide +kernel))
          (fun _ _ _ _ _ => pg_name (i := 2) scScaled.nd rfl (Or.inl rfl)) (fun _ _ _ _ _ => pts_nil)
          (fun _ _ _ _ _ => pe_n C hr (by decide) (by rfl) (pa_cons (pv 2) (pa_cons (pv 1) pa_nil)))) pa_nil))), ?_⟩
    have lx := fx.len
    refine ⟨_, rfl, a, rfl, ⟨_, sx⟩, fun D hD => lc_tup (K := K) (a := a) (xs := xs) (fun i H2 => ∃ acc, H2 D = some (.lst acc) ∧ FrAll K H2 acc ((qs.map fun q => mul q r).take i) ∧ Same H H2) ⟨[], upd_same, .nil, same_new hD⟩ (fun i H2 _ z => Bs.Same.t z.choose_spec.2.2 sx) ?_ ?_⟩
    · rintro i v H2 hx ⟨acc, hD2, fa, s2⟩
      have hi : i < qs.length := by
        have := (List.getElem?_eq_some_iff.mp hx).1
        omega
      obtain ⟨v', q, g1, g2, g3⟩ := fx.get hi
      rw [hx] at g1
      cases g1
      refine ⟨rfl, ?_⟩
      refine iteT (B := ∃ acc, H2 D = some (.lst acc) ∧ FrAll K H2 acc ((qs.map fun q => mul q r).take (i + 1)) ∧ Same H H2) ?_
      refine ⟨_, rfl, _, rfl, v, y, q, r, rfl, g3.mono s2, hy.mono s2, ⟨dq q (List.mem_of_getElem? g2), dr⟩, fun p hp => ?_⟩
      have s3 := same_new (o := fr (mul q r)) hp
      refine ⟨acc, s3 _ _ hD2, small1000 (by rw [fa.len, List.length_take, List.length_map]; omega), acc ++ [.ref p], upd_same, ?_, fun c o e => (upd_ne (ne_of_none e hD)).trans (s3 c o (s2 c o e))⟩
      have e : (qs.map fun q => mul q r)[i]? = some (mul q r) := by rw [List.getElem?_map, g2]; rfl
      rw [take_one e]
      exact (FrAll.off (s3 _ _ hD2) (fa.mono s3)).snoc ((Fr.of upd_same).off (s3 _ _ hD2))
    · rintro H2 ⟨acc, hD2, fa, s2⟩
      rw [lx, List.take_of_length_le (by rw [List.length_map]; exact Nat.le_refl _)] at fa
      have la := fa.len
      rw [List.length_map] at la
      exact ⟨D, acc, _, rfl, Or.inl (SqL.of hD2), fa, by omega, fun H' p zs s3 st ft => kk H' p (s2.trans s3) ⟨p, zs, rfl, st, ft⟩⟩
theorem scShifted : FnScope ["poly", "number"] ["poly", "number"] (defScope sShifted) := ⟨rfl, rfl, rfl, by decide +kernel, rfl, by decide +kernel, by decide +kernel⟩
theorem ok_shifted (F : Fun K "poly_shifted" "poly_shifted" sShifted f fd) (Z : Nou K mg) : FnOk P w K mg base CX0 1 f fd ["poly", "number"] (spShifted K) := by
  refine F.ok scShifted (fun vs H Q E h => ?_) (fun cdv A outer s H vs Q E hr h => ?_)
  · obtain ⟨x, qs, rfl, _⟩ := h
    rfl
  · obtain ⟨x, qs, rfl, ⟨a, xs, rfl, sx, fx⟩, nq, lq, kk⟩ := h
    obtain ⟨z, mz, sz⟩ := Z.ex
    have lx := fx.len
    refine ⟨_, pss_one (ps_ret (pe_ifExp (pt_truth (pv 0) (by intro _; rfl)) (pe_op op_catA (pe_op RpO.op_once (pe_tup (pa_cons (pe_glob (v := .ref z) (by rfl) mz rfl) pa_nil)) (pv 1)) (pv 0)) (pe_tup pa_nil))), ?_⟩
    refine ⟨_, rfl, ?_⟩
    have lp : xs ≠ [] := fun z => nq (List.eq_nil_of_length_eq_zero (by rw [← lx, z]; rfl))
    refine ⟨true, ?_, iteT ?_⟩
    · refine .inr (.inl ⟨xs, sx, ?_⟩)
      cases xs with
      | nil => exact absurd rfl lp
      | cons _ _ => rfl
    · refine ⟨(by show 1 ≤ sizeLine; decide), fun p hp => ?_⟩
      have s1 := same_new (o := .tup [V.ref z]) hp
      refine ⟨_, rfl, p, [.ref z], rfl, rfl, SqT.of upd_same, _, rfl, ?_⟩
      refine cat_any (SqT.of upd_same) (Bs.Same.t s1 sx) (by rw [List.length_singleton]; exact Nat.le_of_lt (small1000 (by omega))) fun c H' s2 st => ?_
      exact kk H' c (s1.trans s2) ⟨c, _, rfl, st, .cons ⟨z, rfl, sz H'⟩ (fx.mono (s1.trans s2))⟩
theorem scNext : FnScope ["before", "here", "level", "step", "more"] ["before", "here", "level", "step"] (defScope sNext) := ⟨rfl, rfl, rfl, by decide +kernel, rfl, by decide +kernel, by decide +kernel⟩
theorem ok_next (F : Fun K "next_rung" "next_rung" sNext f fd) (L : Cal P w K mg base 3 "poly_lessened" (spPoly2 K sub)) (C : Cal P w K mg base 3 "poly_scaled" (spScaled K)) (S : Cal P w K mg base 1 "poly_shifted" (spShifted K)) :
    FnOk P w K mg base CX0 4 f fd ["before", "here", "level", "step"] (spNext K) := by
  refine F.ok scNext (fun vs H Q E h => ?_) (fun cdv A outer s H vs Q E hr h => ?_)
  · obtain ⟨x, y, u, v, bs, hs, l, s, n, rfl, _⟩ := h
    rfl
  · obtain ⟨x, y, u, v, bs, hs, l, sp, n, rfl, px, py, pu, pw, zb, zh, zl, zs, hn, nh, lb, lh, kk⟩ := h
    refine ⟨_, pss_cons (ps_set (i := 4) scNext.nd rfl (Or.inl rfl) (pe_n L hr (by decide) (by rfl) (pa_cons (pe_n S hr (by decide) (by rfl) (pa_cons (pv 1) (pa_cons pe_int pa_nil))) (pa_cons (pe_n C hr (by decide) (by rfl) (pa_cons (pv 1) (pa_cons (pv 2) pa_nil))) pa_nil))))
      (pss_one (ps_ret (pe_n L hr (by decide) (by rfl) (pa_cons (pv 4) (pa_cons (pe_n C hr (by decide) (by rfl) (pa_cons (pv 0) (pa_cons (pv 3) pa_nil))) pa_nil))))), ?_⟩
    refine ⟨_, rfl, y, hs, rfl, py, nh, by omega, fun H1 p1 s1 k1 => ?_⟩
    refine ⟨_, rfl, _, rfl, y, u, hs, l, rfl, py.mono s1, pu.mono s1, fun q hq => zs_dm (zh q hq), zs_dm zl, by omega, fun H2 p2 s2 k2 => ?_⟩
    have zsh := (shift_ok zh).1
    obtain ⟨c1, _, c3⟩ := scP_ok zl zh
    have z1 := plL_za (zsh.mono (m := n + 1) (by omega)) c1
    have l1 := plL_len ((0, 1) :: hs) (scP hs l)
    rw [List.length_cons] at l1
    refine ⟨_, _, _, _, rfl, k1.mono s2, k2, fun q hq => zs_dm (zsh q hq), fun q hq => zs_dm (c1 q hq), by rw [List.length_cons]; omega, by omega, fun H3 p3 s3 k3 => ?_⟩
    have s13 := (s1.trans s2).trans s3
    refine ⟨_, rfl, _, rfl, _, rfl, x, v, bs, sp, rfl, px.mono s13, pw.mono s13, fun q hq => zs_dm (zb q hq), zs_dm zs, by omega, fun H4 p4 s4 k4 => ?_⟩
    obtain ⟨d1, _, d3⟩ := scP_ok zs zb
    have k3' : Po K H3 (.ref p3) (plL ((0, 1) :: hs) (scP hs l)) := k3
    refine ⟨_, _, _, _, rfl, k3'.mono s4, k4, fun q hq => zs_dm (z1 q hq), fun q hq => zs_dm (d1 q hq), by omega, by omega, fun H5 p5 s5 k5 => ?_⟩
    exact kk H5 p5 ((s13.trans s4).trans s5) k5
end
end Rs


set_option Elab.async false
set_option linter.all false
set_option maxRecDepth 100000
set_option maxHeartbeats 1000000
namespace Rs
open PySem L2 Bs Fq LamX
/-! ### ladders as data -/
def top0 : PyData → Bool
  | .tuple (.int a :: _) => decide (0 < a)
  | _ => false
def posD (d : PyData) : Bool := fracD d && top0 d
def shapeD : PyData → PyData → Bool
  | .tuple ls, .tuple ss => if lastNz ss then (decide (ls.length ≤ 4) && ((decide (ls.length = ss.length) || decide (ls.length = ss.length + 1)) && ss.all top0)) else (decide (ls.length = ss.length) && ss.dropLast.all top0)
  | _, _ => false
def ladderD : PyData → Bool
  | .tuple [t, ls, ss] => posD t && (fracsD 5 ls && (fracsD 5 ss && shapeD ls ss))
  | _ => false
def above (qs : List F) : Bool := qs.all fun q => decide (0 < q.1)
theorem above_map : ∀ qs : List F, (qs.map dF).all top0 = above qs
  | [] => rfl
  | q :: qs => by
    show (top0 (dF q) && (qs.map dF).all top0) = (decide (0 < q.1) && above qs)
    rw [above_map qs]
    rfl
theorem ladderD_len {ds : List PyData} (h : ds.length ≠ 3) : ladderD (.tuple ds) = false := by
  unfold ladderD
  split
  · rename_i e
    cases e
    exact absurd rfl h
  · rfl
theorem three_of {K : PySem.W.Frag} {H : Hp} {xs : List V} {ds : List PyData} (h : DpAll K H xs ds) (l : xs.length = 3) : ∃ v1 v2 v3 d1 d2 d3, xs = [v1, v2, v3] ∧ ds = [d1, d2, d3] ∧ Dp K H v1 d1 ∧ Dp K H v2 d2 ∧ Dp K H v3 d3 := by
  cases h with
  | nil => cases l
  | cons h1 t1 =>
    cases t1 with
    | nil => cases l
    | cons h2 t2 =>
      cases t2 with
      | nil => cases l
      | cons h3 t3 =>
        cases t3 with
        | nil => exact ⟨_, _, _, _, _, _, rfl, rfl, h1, h2, h3⟩
        | cons _ _ => simp at l
theorem shape_end {qs rs : List F} (n : rs ≠ []) (e : co rs (rs.length - 1) = (0, 1)) : shapeD (dP qs) (dP rs) = (decide (qs.length = rs.length) && above (rs.take (rs.length - 1))) := by
  simp only [shapeD, dP]
  rw [lastNz_map, if_neg (by
    rw [decide_eq_true_eq]
    rintro (z | z)
    · exact n z
    · exact z e), List.length_map, List.length_map, ← List.map_dropLast, above_map, List.dropLast_eq_take]
theorem shape_open {qs rs : List F} (p : Pn rs) : shapeD (dP qs) (dP rs) = (decide (qs.length ≤ 4) && ((decide (qs.length = rs.length) || decide (qs.length = rs.length + 1)) && above rs)) := by
  simp only [shapeD, dP]
  rw [lastNz_map, if_pos (decide_eq_true p), List.length_map, List.length_map, above_map]
theorem if_in {b c : Bool} (h : b = c) {A B : Prop} (ha : c = true → A) (hb : c = false → B) : if b = true then A else B := by
  subst h
  cases b with
  | true => exact ha rfl
  | false => exact hb rfl
theorem atI_neg1 {xs : List V} {u : V} (n : xs ≠ []) (h : xs[xs.length - 1]? = some u) : atI xs (-1) = some u := by
  have hl := List.length_pos_iff.mpr n
  have e : ixN xs.length (-1) = some (xs.length - 1) := by
    unfold ixN
    rw [if_neg (by decide), if_pos (by omega)]
    congr 1
    omega
  unfold atI
  rw [e]
  exact h
theorem cut_init {xs : List V} (n : xs ≠ []) : cutV xs none (some (-1)) = xs.take (xs.length - 1) ∧ ¬ (HT.sIx xs.length 0 none = 0 ∧ HT.sIx xs.length xs.length (some (-1)) = xs.length) := by
  have hl := List.length_pos_iff.mpr n
  have e : HT.sIx xs.length xs.length (some (-1)) = xs.length - 1 := by
    show (if (-1 : Int) < 0 then ((-1 : Int) + (xs.length : Int)).toNat else min (-1 : Int).toNat xs.length) = xs.length - 1
    rw [if_pos (by decide)]
    omega
  refine ⟨?_, fun z => ?_⟩
  · unfold cutV
    rw [e, HT.sIx_none, List.drop_zero, Nat.sub_zero]
  · rw [e] at z
    omega
abbrev sPosi : Stmt := top 22
abbrev sIsLad : Stmt := top 29
abbrev sAbove : Stmt := top 30
abbrev sNeedLad : Stmt := top 31
structure Mosts (mg : Str → Option Value) : Prop where
  m4 : ∃ t, mg "MOST_OPEN" = some (.int 4 t)
  m5 : ∃ t, mg "MOST_ENDED" = some (.int 5 t)
  m8 : ∃ t, mg "LAST_MOMENT" = some (.int 8 t)
def spPosi (K : PySem.W.Frag) : Sp := fun vs H Q _ => ∃ (v : V) (d : PyData), vs = [v] ∧ Dp K H v d ∧ Q (.bl (posD d)) H
def spAbove (K : PySem.W.Frag) : Sp := fun vs H Q _ => ∃ (v : V) (qs : List F), vs = [v] ∧ Po K H v qs ∧ qs.length ≤ 500 ∧ ∀ H', Same H H' → Q (.bl (above qs)) H'
def spIsLad (K : PySem.W.Frag) : Sp := fun vs H Q _ => ∃ (v : V) (d : PyData), vs = [v] ∧ Dp K H v d ∧ ∀ H', Same H H' → Q (.bl (ladderD d)) H'
def spNeedLad (K : PySem.W.Frag) (C : Addr) : Sp := fun vs H Q E => ∃ (v : V) (d : PyData), vs = [v] ∧ Dp K H v d ∧ (ladderD d = true → ∀ H', Same H H' → Q v H') ∧ (ladderD d = false → ∀ H', Same H H' → OutW E C "given" v H')
section
variable {P : Program} {w : World} {K : PySem.W.Frag} {mg : Str → Option Value} {base : Heap} {f : Addr} {fd : FuncData} {CL : Addr}
theorem scPosi : FnScope ["thing"] ["thing"] (defScope sPosi) := ⟨rfl, rfl, rfl, by decide +kernel, rfl, by decide +kernel, by decide +kernel⟩
theorem ok_posi (F : Fun K "is_positive" "is_positive" sPosi f fd) (W : Cal P w K mg base 2 "is_fraction" (spFraction K)) : FnOk P w K mg base CX0 3 f fd ["thing"] (spPosi K) := by
  refine F.ok scPosi (fun vs H Q E h => ?_) (fun cdv A outer s H vs Q E hr h => ?_)
  · obtain ⟨v, d, rfl, _⟩ := h
    rfl
  · obtain ⟨v, d, rfl, hd, kk⟩ := h
    refine ⟨_, pss_one (ps_ret (pe_and (pe_n W hr (by decide) (by rfl) (pa_cons (pv 0) pa_nil)) (pe_one (pe_cmpR op_gt (pe_ix ix_tup (pv 0) pe_int (fun _ _ => rfl)) pe_int (nomark _))))), ?_⟩
    refine ⟨v, rfl, v, d, rfl, hd, _, rfl, ?_⟩
    unfold posD at kk
    cases e : fracD d with
    | false =>
      rw [e] at kk
      exact iteF kk
    | true =>
      rw [e] at kk
      obtain ⟨q, rfl, o⟩ := fracD_true e
      obtain ⟨a, rfl, sq⟩ := dp_fr hd
      exact iteT ⟨_, rfl, a, _, 0, _, rfl, rfl, sq, rfl, _, _, rfl, rfl, kk⟩
theorem scAbove : FnScope ["some", "part"] ["some"] (defScope sAbove) := ⟨rfl, rfl, rfl, by decide +kernel, rfl, by decide +kernel, by decide +kernel⟩
theorem ok_above (F : Fun K "are_above" "are_above" sAbove f fd) (al : mg "all" = none) : FnOk P w K mg base CX0 1 f fd ["some"] (spAbove K) := by
  refine F.ok scAbove (fun vs H Q E h => ?_) (fun cdv A outer s H vs Q E hr h => ?_)
  · obtain ⟨v, qs, rfl, _⟩ := h
    rfl
  · obtain ⟨v, qs, rfl, ⟨a, xs, rfl, sx, fx⟩, lq, kk⟩ := h
    have lx := fx.len
    refine ⟨_, pss_one (ps_ret (pe_callB (cr_all rfl) (by rfl) al (by decide +kernel) (pa_cons (pe_lc (own := [("part", 1)]) (g := gName 1) (tt := tYes) rfl scAbove.nd (pi_tup (pv 0)) (blkOk_by (N := ["some", "part"]) (sc := defScope sAbove) (by decide +kernel))
          (fun _ _ _ _ _ => pg_name (i := 1) scAbove.nd rfl (Or.inl rfl)) (fun _ _ _ _ _ => pts_nil)
          (fun _ _ _ _ _ => pe_cmpR op_gt (pe_ix (r := rIxT K) ix_tup (pv 1) pe_int (fun _ _ => rfl)) pe_int (nomark _))) pa_nil))), ?_⟩
    refine ⟨_, rfl, a, rfl, ⟨_, sx⟩, fun D hD => lc_tup (K := K) (a := a) (xs := xs) (fun i H2 => Same H H2 ∧ H2 D = some (.lst (((qs.take i).map fun q => decide (0 < q.1)).map V.bl))) ⟨same_new hD, upd_same⟩ (fun i H2 _ z => Bs.Same.t z.1 sx) ?_ ?_⟩
    · rintro i x H2 hx ⟨s2, hD2⟩
      have hi : i < qs.length := by
        have := (List.getElem?_eq_some_iff.mp hx).1
        omega
      obtain ⟨v', q, g1, g2, b, rfl, sb⟩ := fx.get hi
      rw [hx] at g1
      cases g1
      refine ⟨rfl, ?_⟩
      refine iteT (B := Same H H2 ∧ H2 D = some (.lst (((qs.take (i + 1)).map fun q => decide (0 < q.1)).map V.bl))) ?_
      refine ⟨_, rfl, b, _, 0, _, rfl, rfl, Bs.Same.t s2 sb, rfl, _, _, rfl, rfl, ?_⟩
      refine ⟨_, hD2, ?_, fun b o e => (upd_ne (ne_of_none e hD)).trans (s2 b o e), ?_⟩
      · rw [List.length_map, List.length_map, List.length_take]
        exact small1000 (by omega)
      · rw [upd_same, take_one g2, List.map_append, List.map_append]
        rfl
    · rintro H2 ⟨s2, hD2⟩
      rw [lx, List.take_length] at hD2
      refine ⟨D, _, rfl, SqL.of hD2, ?_⟩
      have := kk H2 s2
      rw [List.all_map]
      exact this
theorem scIsLad : FnScope ["thing", "levels", "steps"] ["thing"] (defScope sIsLad) := ⟨rfl, rfl, rfl, by decide +kernel, rfl, by decide +kernel, by decide +kernel⟩
theorem ok_isLad (F : Fun K "is_ladder" "is_ladder" sIsLad f fd) (T : Blt mg) (M : Mosts mg) (Z : Nou K mg) (PO : Cal P w K mg base 3 "is_positive" (spPosi K)) (AF : Cal P w K mg base 3 "are_fractions" (spAreF K)) (AB : Cal P w K mg base 1 "are_above" (spAbove K)) :
    FnOk P w K mg base CX0 4 f fd ["thing"] (spIsLad K) := by
  refine F.ok scIsLad (fun vs H Q E h => ?_) (fun cdv A outer s H vs Q E hr h => ?_)
  · obtain ⟨v, d, rfl, _⟩ := h
    rfl
  · obtain ⟨v, d, rfl, hd, kk⟩ := h
    obtain ⟨t4, m4⟩ := M.m4
    obtain ⟨t5, m5⟩ := M.m5
    obtain ⟨z, mz, sz⟩ := Z.ex
    refine ⟨_, pss_cons (ps_if (PW.pt (pw_or (pt_not (pt_val (pe_callB call_isi (by rfl) T.isinstance (by decide +kernel) (pa_cons (pv 0) (pa_cons (pe_bltn (v := .ty "tuple") (by rfl) T.tuple (by decide +kernel) rfl) pa_nil)))))
        (pw_or (pt_cmpR op_ne (pe_callB call_len_seq (by rfl) T.len (by decide +kernel) (pa_cons (pv 0) pa_nil)) pe_int (nomark _))
          (pw_or1 (pt_not (pt_val (pe_n PO hr (by decide) (by rfl) (pa_cons (pe_ix ix_tup (pv 0) pe_int (fun _ _ => rfl)) pa_nil)))))))) (pss_one (ps_ret pe_bl)) pss_nil)
      (pss_cons (ps_if (PW.pt (pw_or (pt_not (pt_val (pe_n AF hr (by decide) (by rfl) (pa_cons (pe_ix ix_tup (pv 0) pe_int (fun _ _ => rfl)) (pa_cons (pe_glob (v := .int 5) (by rfl) m5 ⟨t5, rfl⟩) pa_nil)))))
          (pw_or1 (pt_not (pt_val (pe_n AF hr (by decide) (by rfl) (pa_cons (pe_ix ix_tup (pv 0) pe_int (fun _ _ => rfl)) (pa_cons (pe_glob (v := .int 5) (by rfl) m5 ⟨t5, rfl⟩) pa_nil)))))))) (pss_one (ps_ret pe_bl)) pss_nil)
      (pss_cons (ps_asg (pe_slice sl_tupA (pv 0) (po_some pe_int) po_none) (pg_tup rfl (pgs_cons (pg_name (i := 1) scIsLad.nd rfl (.inl rfl)) (pgs_cons (pg_name (i := 2) scIsLad.nd rfl (.inl rfl)) pgs_nil))))
      (C8.pss_cut (ps_if (PW.pt (pw_and (pt_truth (pv 2) (by intro _; rfl)) (pw_and1 (pt_cmpR (op_eqD hr.units) (pe_ix ix_tup (pv 2) (pe_un un_neg pe_int) (fun _ _ => rfl)) (pe_glob (v := .ref z) (by rfl) mz rfl) (nomark _)))))
          (pss_one (ps_ret (pe_and (pe_cmpR op_eq (pe_callB call_len_seq (by rfl) T.len (by decide +kernel) (pa_cons (pv 1) pa_nil)) (pe_callB call_len_seq (by rfl) T.len (by decide +kernel) (pa_cons (pv 2) pa_nil)) (nomark _))
            (pe_one (pe_n AB hr (by decide) (by rfl) (pa_cons (pe_slice sl_tupA (pv 2) po_none (po_some (pe_un un_neg pe_int))) pa_nil)))))) pss_nil)
      (pss_one (ps_ret (pe_and (pe_cmpR op_le (pe_callB call_len_seq (by rfl) T.len (by decide +kernel) (pa_cons (pv 1) pa_nil)) (pe_glob (v := .int 4) (by rfl) m4 ⟨t4, rfl⟩) (nomark _))
        (pe_and (pe_cmpR op_in_seq (pe_op op_sub (pe_callB call_len_seq (by rfl) T.len (by decide +kernel) (pa_cons (pv 1) pa_nil)) (pe_callB call_len_seq (by rfl) T.len (by decide +kernel) (pa_cons (pv 2) pa_nil))) (pe_tup (pa_cons pe_int (pa_cons pe_int pa_nil))) (by rfl))
          (pe_one (pe_n AB hr (by decide) (by rfl) (pa_cons (pv 2) pa_nil)))))))))), ?_⟩
    have ks := fun (e : ladderD d = false) => by
      have := kk
      rw [e] at this
      exact this
    refine ⟨v, rfl, v, _, _, _, _, rfl, .ty _, hd.ty, kitT K d, _, rfl, ?_⟩
    cases ht : isTup d with
    | false =>
      have e : ladderD d = false := by cases d <;> first | rfl | cases ht
      exact iteT (iteT (ks e H (fun _ _ z => z)))
    | true =>
      refine iteF ?_
      cases hd with
      | tup hS hA =>
        rename_i a xs ds
        have l := dpAll_len hA
        refine ⟨_, rfl, a, _, rfl, .inr hS, rfl, _, rfl, ?_⟩
        refine ite2 (fun c => ?_) (fun c => ?_)
        · refine iteT (ks (ladderD_len fun z => ?_) H (fun _ _ z => z))
          rw [← l] at z
          simp [z] at c
        · have l3 : xs.length = 3 := by
            have c2 : ((xs.length : Nat) : Int) = 3 := by simpa using c
            omega
          obtain ⟨v1, v2, v3, d1, d2, d3, rfl, rfl, h1, h2, h3⟩ := three_of hA l3
          refine ⟨_, rfl, a, _, 0, _, rfl, rfl, hS, rfl, v1, d1, rfl, h1, _, rfl, ?_⟩
          have kk' : ∀ H', Same H H' → Q (.bl (posD d1 && (fracsD 5 d2 && (fracsD 5 d3 && shapeD d2 d3)))) H' := kk
          cases e1 : posD d1 with
          | false =>
            rw [e1] at kk'
            exact iteT (kk' H (fun _ _ z => z))
          | true =>
            rw [e1] at kk'
            refine iteF ?_
            refine ⟨_, rfl, a, _, 1, _, rfl, rfl, hS, rfl, v2, d2, 5, rfl, h2, by decide, fun H1 s1 => ⟨_, rfl, ?_⟩⟩
            cases e2 : fracsD 5 d2 with
            | false =>
              rw [e2] at kk'
              exact iteT (iteT (kk' H1 s1))
            | true =>
              rw [e2] at kk'
              refine iteF ?_
              refine ⟨_, rfl, a, _, 2, _, rfl, rfl, Bs.Same.t s1 hS, rfl, v3, d3, 5, rfl, dps s1 h3, by decide, fun H2 s2 => ⟨_, rfl, ?_⟩⟩
              have s12 := s1.trans s2
              cases e3 : fracsD 5 d3 with
              | false =>
                rw [e3] at kk'
                exact iteT (kk' H2 s12)
              | true =>
                rw [e3] at kk'
                refine iteF ?_
                obtain ⟨qs, rfl, oq, lq⟩ := fracsD_true e2
                obtain ⟨rs, rfl, or_, lr⟩ := fracsD_true e3
                have kk2 : ∀ H', Same H H' → Q (.bl (shapeD (dP qs) (dP rs))) H' := kk'
                refine ⟨_, rfl, 1, rfl, a, _, rfl, Bs.Same.t s12 hS, (fun z => absurd z.1 (show ¬ (1 : Nat) = 0 by decide)), fun _ p hp => ?_⟩
                have s3 := same_new (o := .tup (cutV [v1, v2, v3] (some 1) none)) hp
                have s13 := s12.trans s3
                refine ⟨p, [v2, v3], rfl, SqT.of upd_same, rfl, v2, [v3], rfl, v3, [], rfl, rfl, ?_⟩
                obtain ⟨b2, xs, rfl, sx, fx⟩ := (dp_po h2).mono s13
                obtain ⟨b3, ys, rfl, sy, fy⟩ := (dp_po h3).mono s13
                have lx := fx.len
                have ly := fy.len
                generalize upd H2 p (.tup (cutV [v1, V.ref b2, V.ref b3] (some 1) none)) = H3 at *
                have kk3 : ∀ H', Same H3 H' → Q (.bl (shapeD (dP qs) (dP rs))) H' := fun H' s => kk2 H' (s13.trans s)
                clear kk kk' kk2 ks
                refine ⟨fun σ H' => Pn rs ∧ H' = H3 ∧ σ = [some (V.ref a), some (V.ref b2), some (V.ref b3)], ?_, ?_⟩
                · refine ⟨_, rfl, !ys.isEmpty, .inr (.inl ⟨ys, sy, rfl⟩), ?_⟩
                  by_cases ne : rs = []
                  · subst ne
                    cases fy
                    exact iteF ⟨.inl rfl, rfl, rfl⟩
                  · have yn : ys ≠ [] := fun z => ne (List.eq_nil_of_length_eq_zero (by rw [← ly, z]; rfl))
                    have et : (!ys.isEmpty) = true := by
                      cases ys with
                      | nil => exact absurd rfl yn
                      | cons _ _ => rfl
                    rw [et]
                    refine iteT ?_
                    have rp := List.length_pos_iff.mpr ne
                    obtain ⟨u, q, g1, g2, g3⟩ := fy.get (i := rs.length - 1) (by omega)
                    have eq_ : co rs (rs.length - 1) = q := co_get g2
                    rw [← ly] at g1
                    refine ⟨_, rfl, _, rfl, b3, ys, _, u, rfl, rfl, sy, atI_neg1 yn g1, dF q, dF (0, 1), g3.dp, .tup (sz H3) (.cons (.int 0) (.cons (.int 1) .nil)), rfl, rfl, _, rfl, ?_⟩
                    rw [eqv_nought]
                    refine ite2 (fun c => ?_) (fun c => ?_)
                    · have c1 : q = (0, 1) := of_decide_eq_true c
                      rw [shape_end ne (eq_.trans c1)] at kk3
                      refine ⟨_, rfl, b2, xs, rfl, .inr sx, _, rfl, b3, ys, rfl, .inr sy, rfl, _, rfl, ?_⟩
                      have el : decide (V.int (xs.length : Int) = V.int (ys.length : Int)) = decide (qs.length = rs.length) := by
                        rw [lx, ly]
                        exact decide_eq_decide.mpr ⟨fun h => by have := V.int.inj h; omega, fun h => by rw [h]⟩
                      rw [el]
                      refine ite2 (fun c2 => ?_) (fun c2 => ?_)
                      · obtain ⟨ci1, ci2⟩ := cut_init yn
                        refine ⟨_, rfl, _, rfl, -1, rfl, b3, ys, rfl, sy, (fun z => absurd z ci2), fun _ p2 hp2 => ?_⟩
                        rw [ci1]
                        have s4 := same_new (o := .tup (ys.take (ys.length - 1))) hp2
                        refine ⟨_, rs.take (rs.length - 1), rfl, ⟨p2, _, rfl, SqT.of upd_same, ?_⟩, by rw [List.length_take]; omega, fun H5 s5 => ?_⟩
                        · have := (fy.take (ys.length - 1)).mono s4
                          rw [ly] at this ⊢
                          exact this
                        · have := kk3 H5 (s4.trans s5)
                          rw [c2, Bool.true_and] at this
                          exact this
                      · have := kk3 H3 (fun _ _ z => z)
                        rw [Bool.eq_false_iff.mpr c2, Bool.false_and] at this
                        exact this
                    · have c1 : ¬ q = (0, 1) := fun w => c (decide_eq_true w)
                      exact ⟨.inr (by rw [eq_]; exact c1), rfl, rfl⟩
                · rintro σ H' ⟨pn, rfl, rfl⟩
                  rw [shape_open pn] at kk3
                  refine ⟨_, rfl, b2, xs, rfl, .inr sx, _, _, rfl, rfl, _, rfl, ?_⟩
                  have el : decide ((xs.length : Int) ≤ 4) = decide (qs.length ≤ 4) := by
                    rw [lx]
                    exact decide_eq_decide.mpr (by omega)
                  rw [el]
                  refine ite2 (fun c2 => ?_) (fun c2 => ?_)
                  · rw [c2, Bool.true_and] at kk3
                    refine ⟨_, rfl, b2, xs, rfl, .inr sx, _, rfl, b3, ys, rfl, .inr sy, _, _, rfl, rfl, (by show 2 ≤ sizeLine; decide), fun p2 hp2 => ⟨p2, _, rfl, .inr (SqT.of upd_same), rfl, rfl, _, rfl, ?_⟩⟩
                    have s4 := same_new (o := .tup [V.int 0, V.int 1]) hp2
                    have ei : inV (V.int ((xs.length : Int) - (ys.length : Int))) [V.int 0, V.int 1] = (decide (qs.length = rs.length) || decide (qs.length = rs.length + 1)) := by
                      rw [lx, ly]
                      show ((0 == ((qs.length : Int) - (rs.length : Int))) || ((1 == ((qs.length : Int) - (rs.length : Int))) || false)) = _
                      rw [Bool.or_false]
                      congr 1
                      · rw [Bool.eq_iff_iff, beq_iff_eq, decide_eq_true_eq]
                        omega
                      · rw [Bool.eq_iff_iff, beq_iff_eq, decide_eq_true_eq]
                        omega
                    refine if_in ei (fun c3 => ?_) (fun c3 => ?_)
                    · refine ⟨_, rfl, _, rs, rfl, ⟨b3, ys, rfl, Bs.Same.t s4 sy, fy.mono s4⟩, by omega, fun H5 s5 => ?_⟩
                      have := kk3 H5 (s4.trans s5)
                      rw [c3, Bool.true_and] at this
                      exact this
                    · have := kk3 _ s4
                      rw [c3, Bool.false_and] at this
                      exact this
                  · have := kk3 _ (fun _ _ z => z)
                    rw [Bool.eq_false_iff.mpr c2, Bool.false_and] at this
                    exact this
      | _ => cases ht
end
end Rs


set_option Elab.async false
set_option linter.all false
set_option maxRecDepth 100000
set_option maxHeartbeats 1000000
namespace Rs
open PySem L2 Bs Fq LamX RZ
theorem walk_zipT {K : PySem.W.Frag} {a b : Addr} {xs ys : List V} {n : Nat} (hn : n = min xs.length ys.length) : Walk (ItzT K a b) n (fun H => SqT K H a xs ∧ SqT K H b ys) (YPair (fun i => xs[i]?) (fun i => ys[i]?)) := by
  rw [hn]
  refine ⟨fun i _ hi q => ?_, fun _ q => ⟨xs, ys, q.1, q.2, by omega⟩, fun i H v H' _ q y => ?_⟩
  · have h1 : i < xs.length := by omega
    have h2 : i < ys.length := by omega
    exact ⟨xs, ys, xs[i], ys[i], q.1, q.2, List.getElem?_eq_getElem h1, List.getElem?_eq_getElem h2⟩
  · obtain ⟨T, x, z, e1, e2, e3, e4, e5⟩ := y
    exact ⟨T, x, z, e1, e2, e3, e4 xs q.1, e5 ys q.2⟩
/-! ### ladders in memory -/
def dL (T : F) (ls ss : List F) : PyData := .tuple [dF T, dP ls, dP ss]
def Lad (K : PySem.W.Frag) (H : Hp) (v : V) (T : F) (ls ss : List F) : Prop := ∃ a v1 v2 v3, v = .ref a ∧ SqT K H a [v1, v2, v3] ∧ Fr K H v1 T ∧ Po K H v2 ls ∧ Po K H v3 ss
theorem Lad.mono {K : PySem.W.Frag} {H H' : Hp} {v : V} {T : F} {ls ss : List F} (e : Same H H') (h : Lad K H v T ls ss) : Lad K H' v T ls ss := by
  obtain ⟨a, v1, v2, v3, rfl, s, f, p, q⟩ := h
  exact ⟨a, v1, v2, v3, rfl, Bs.Same.t e s, f.mono e, p.mono e, q.mono e⟩
theorem Lad.dp {K : PySem.W.Frag} {H : Hp} {v : V} {T : F} {ls ss : List F} (h : Lad K H v T ls ss) : Dp K H v (dL T ls ss) := by
  obtain ⟨a, v1, v2, v3, rfl, s, f, p, q⟩ := h
  exact .tup s (.cons f.dp (.cons p.dp (.cons q.dp .nil)))
theorem lad_of {K : PySem.W.Frag} {H : Hp} {v : V} {T : F} {ls ss : List F} (h : Dp K H v (dL T ls ss)) : Lad K H v T ls ss := by
  cases h with
  | tup s a =>
    cases a with
    | cons h1 t1 =>
      cases t1 with
      | cons h2 t2 =>
        cases t2 with
        | cons h3 t3 =>
          cases t3
          exact ⟨_, _, _, _, rfl, s, dp_fr h1, dp_po h2, dp_po h3⟩
theorem ladderD_true {d : PyData} (h : ladderD d = true) : ∃ T ls ss, d = dL T ls ss ∧ ls.length ≤ 5 ∧ ss.length ≤ 5 ∧ ls.length ≤ ss.length + 1 ∧ ss.length ≤ ls.length := by
  unfold ladderD at h
  split at h
  · rename_i t dl ds
    rw [Bool.and_eq_true, Bool.and_eq_true, Bool.and_eq_true, posD, Bool.and_eq_true] at h
    obtain ⟨⟨h1, _⟩, h2, h3, h4⟩ := h
    obtain ⟨T, rfl, _⟩ := fracD_true h1
    obtain ⟨ls, rfl, _, l1⟩ := fracsD_true h2
    obtain ⟨ss, rfl, _, l2⟩ := fracsD_true h3
    refine ⟨T, ls, ss, rfl, by omega, by omega, ?_⟩
    by_cases c : Pn ss
    · rw [shape_open c] at h4
      simp only [Bool.and_eq_true, Bool.or_eq_true, decide_eq_true_eq] at h4
      omega
    · have n : ss ≠ [] := fun z => c (.inl z)
      have e : co ss (ss.length - 1) = (0, 1) := Classical.byContradiction fun z => c (.inr z)
      rw [shape_end n e] at h4
      simp only [Bool.and_eq_true, decide_eq_true_eq] at h4
      omega
  · cases h
/-- it ends: its last step is nought -/
def endB (ss : List F) : Bool := decide (¬ Pn ss)
/-- polynomials in memory -/
inductive PoAll (K : PySem.W.Frag) (H : Hp) : List V → List (List F) → Prop
  | nil : PoAll K H [] []
  | cons {v : V} {vs : List V} {q : List F} {qs : List (List F)} : Po K H v q → PoAll K H vs qs → PoAll K H (v :: vs) (q :: qs)
theorem PoAll.mono {K : PySem.W.Frag} {H H' : Hp} (e : Same H H') : ∀ {vs : List V} {qs : List (List F)}, PoAll K H vs qs → PoAll K H' vs qs
  | _, _, .nil => .nil
  | _, _, .cons a b => .cons (a.mono e) (PoAll.mono e b)
theorem PoAll.len {K : PySem.W.Frag} {H : Hp} : ∀ {vs : List V} {qs : List (List F)}, PoAll K H vs qs → vs.length = qs.length
  | _, _, .nil => rfl
  | _, _, .cons _ b => congrArg (· + 1) (PoAll.len b)
theorem PoAll.snoc {K : PySem.W.Frag} {H : Hp} : ∀ {vs : List V} {qs : List (List F)} {v : V} {q : List F}, PoAll K H vs qs → Po K H v q → PoAll K H (vs ++ [v]) (qs ++ [q])
  | _, _, _, _, .nil, h => .cons h .nil
  | _, _, _, _, .cons a b, h => .cons a (PoAll.snoc b h)
theorem PoAll.dp {K : PySem.W.Frag} {H : Hp} : ∀ {vs : List V} {qs : List (List F)}, PoAll K H vs qs → DpAll K H vs (qs.map dP)
  | _, _, .nil => .nil
  | _, _, .cons a b => .cons a.dp (PoAll.dp b)
theorem sqT_off {K : PySem.W.Frag} {H : Hp} {a D : Addr} {xs acc : List V} {o : HO} (hD : H D = some (.lst acc)) (s : SqT K H a xs) : SqT K (upd H D o) a xs := by
  rcases s with (s | ⟨o', s⟩) | s
  · exact .inl (.inl ((upd_ne (ne_of s hD (by intro z; cases z))).trans s))
  · exact .inl (.inr ⟨o', (upd_ne (ne_of s hD (by intro z; cases z))).trans s⟩)
  · exact .inr s
theorem Po.off {K : PySem.W.Frag} {H : Hp} {v : V} {qs : List F} {D : Addr} {acc : List V} {o : HO} (hD : H D = some (.lst acc)) (h : Po K H v qs) : Po K (upd H D o) v qs := by
  obtain ⟨a, xs, rfl, s, f⟩ := h
  exact ⟨a, xs, rfl, sqT_off hD s, f.off hD⟩
theorem PoAll.off {K : PySem.W.Frag} {H : Hp} {D : Addr} {acc : List V} {o : HO} (hD : H D = some (.lst acc)) : ∀ {vs : List V} {qs : List (List F)}, PoAll K H vs qs → PoAll K (upd H D o) vs qs
  | _, _, .nil => .nil
  | _, _, .cons a b => .cons (a.off hD) (PoAll.off hD b)
/-- a tuple of polynomials -/
def Pt (K : PySem.W.Frag) (H : Hp) (v : V) (qs : List (List F)) : Prop := ∃ a xs, v = .ref a ∧ SqT K H a xs ∧ PoAll K H xs qs
/-- a ladder's rungs -/
def rungs (ls ss : List F) : List (List F) := (List.range (ls.length + 1)).map (ruled ls ss)
structure OneG (K : PySem.W.Frag) (mg : Str → Option Value) : Prop where
  ex : ∃ a : Addr, mg "ONE" = some (.ref a) ∧ ∀ H : Hp, SqT K H a [.int 1, .int 1]
abbrev sHasEnd : Stmt := top 32
abbrev sIsEnded : Stmt := top 33
abbrev sClimb : Stmt := top 34
abbrev sRungsOf : Stmt := top 35
abbrev sRungs : Stmt := top 36
abbrev sNorms : Stmt := top 37
def spHasEnd (K : PySem.W.Frag) : Sp := fun vs H Q _ => ∃ (v : V) (T : F) (ls ss : List F), vs = [v] ∧ Lad K H v T ls ss ∧ Q (.bl (endB ss)) H
/-- a ladder wanted; R: what is made of it -/
def spLad (K : PySem.W.Frag) (C : Addr) (R : V → F → List F → List F → Hp → VK → XK → Prop) : Sp := fun vs H Q E => ∃ (v : V) (d : PyData), vs = [v] ∧ Dp K H v d ∧ (ladderD d = false → ∀ H', Same H H' → OutW E C "given" v H') ∧
  (∀ T ls ss, d = dL T ls ss → ladderD d = true → R v T ls ss H Q E)
def rEnded : V → F → List F → List F → Hp → VK → XK → Prop := fun _ _ _ ss H Q _ => ∀ H', Same H H' → Q (.bl (endB ss)) H'
def spClimb (K : PySem.W.Frag) : Sp := fun vs H Q _ => ∃ (x y u v : V) (ls ss : List F), vs = [x, y, u, v] ∧ Po K H x [] ∧ Po K H y [(1, 1)] ∧ Po K H u ls ∧ Po K H v ((0, 1) :: ss) ∧ Za 1 ls ∧ Za 1 ss ∧ ls.length ≤ 5 ∧ ls.length ≤ ss.length + 1 ∧
  ∀ H' v, Same H H' → Pt K H' v (rungs ls ss) → Q v H'
def spRungsOf (K : PySem.W.Frag) : Sp := fun vs H Q _ => ∃ (v : V) (T : F) (ls ss : List F), vs = [v] ∧ Lad K H v T ls ss ∧ Za 1 ls ∧ Za 1 ss ∧ ls.length ≤ 5 ∧ ss.length ≤ 5 ∧ ls.length ≤ ss.length + 1 ∧
  ∀ H' v, Same H H' → Pt K H' v (rungs ls ss) → Q v H'
def rRungs (K : PySem.W.Frag) : V → F → List F → List F → Hp → VK → XK → Prop := fun _ _ ls ss H Q _ => Za 1 ls ∧ Za 1 ss ∧ ∀ H' v, Same H H' → Pt K H' v (rungs ls ss) → Q v H'
/-- the norms -/
def nrms (T : F) (ss : List F) : List F := (List.range (ss.length + 1)).map (nrm T ss)
def rNorms (K : PySem.W.Frag) : V → F → List F → List F → Hp → VK → XK → Prop := fun _ T _ ss H Q _ => Zs 1 T ∧ Za 1 ss ∧ ∀ H' v, Same H H' → Po K H' v (nrms T ss) → Q v H'
section
variable {P : Program} {w : World} {K : PySem.W.Frag} {mg : Str → Option Value} {base : Heap} {f : Addr} {fd : FuncData} {CL : Addr}
theorem scNeedLad : FnScope ["thing"] ["thing"] (defScope sNeedLad) := ⟨rfl, rfl, rfl, by decide +kernel, rfl, by decide +kernel, by decide +kernel⟩
theorem ok_needLad (F : Fun K "need_ladder" "need_ladder" sNeedLad f fd) (T : ErrOkW P w K mg base "BadLadder" "given" CL) (W : Cal P w K mg base 4 "is_ladder" (spIsLad K)) : FnOk P w K mg base (L2.CX P w) 5 f fd ["thing"] (spNeedLad K CL) := by
  refine F.okX scNeedLad (fun vs H Q E h => ?_) (fun cdv A outer s H vs Q E hr h => ?_)
  · obtain ⟨v, d, rfl, _⟩ := h
    rfl
  · obtain ⟨v, d, rfl, hd, k1, k2⟩ := h
    refine ⟨_, pss_cons (ps_if (pt_not (pt_val (pe_n W hr (by decide) (by rfl) (pa_cons (pv 0) pa_nil)))) (pss_one (ps_rzW rfl T hr (by decide) (takes_of rfl rfl rfl rfl) (pv 0) (by rfl))) pss_nil) (pss_one (ps_ret (pv 0))), ?_⟩
    refine ⟨_, rfl, v, d, rfl, hd, fun H' s => ⟨_, rfl, ?_⟩⟩
    cases e : ladderD d with
    | true => exact iteF ⟨_, rfl, k1 e H' s⟩
    | false => exact iteT ⟨_, rfl, k2 e H' s⟩
theorem scHasEnd : FnScope ["ladder", "steps"] ["ladder"] (defScope sHasEnd) := ⟨rfl, rfl, rfl, by decide +kernel, rfl, by decide +kernel, by decide +kernel⟩
theorem ok_hasEnd (F : Fun K "has_end" "has_end" sHasEnd f fd) (T : Blt mg) (Z : Nou K mg) : FnOk P w K mg base CX0 1 f fd ["ladder"] (spHasEnd K) := by
  refine F.ok scHasEnd (fun vs H Q E h => ?_) (fun cdv A outer s H vs Q E hr h => ?_)
  · obtain ⟨v, T0, ls, ss, rfl, _⟩ := h
    rfl
  · obtain ⟨v, T0, ls, ss, rfl, ⟨a, v1, v2, v3, rfl, sq, _, _, b, ys, rfl, sy, fy⟩, kk⟩ := h
    obtain ⟨z, mz, sz⟩ := Z.ex
    have ly := fy.len
    refine ⟨_, pss_cons (ps_set (i := 1) scHasEnd.nd rfl (Or.inl rfl) (pe_ix ix_tup (pv 0) pe_int (fun _ _ => rfl)))
      (pss_one (ps_ret (pe_and (pe_cmpR op_gt (pe_callB call_len_seq (by rfl) T.len (by decide +kernel) (pa_cons (pv 1) pa_nil)) pe_int (nomark _))
        (pe_one (pe_cmpR (op_eqD hr.units) (pe_ix ix_tup (pv 1) (pe_un un_neg pe_int) (fun _ _ => rfl)) (pe_glob (v := .ref z) (by rfl) mz rfl) (nomark _)))))), ?_⟩
    refine ⟨_, rfl, a, _, 2, _, rfl, rfl, sq, rfl, ?_⟩
    refine ⟨_, rfl, b, ys, rfl, .inr sy, _, _, rfl, rfl, _, rfl, ?_⟩
    by_cases ne : ss = []
    · subst ne
      cases fy
      exact iteF kk
    · have yn : ys ≠ [] := fun z => ne (List.eq_nil_of_length_eq_zero (by rw [← ly, z]; rfl))
      have yp := List.length_pos_iff.mpr yn
      obtain ⟨u, q, g1, g2, g3⟩ := fy.get (i := ss.length - 1) (by omega)
      have eq_ : co ss (ss.length - 1) = q := co_get g2
      rw [← ly] at g1
      refine ite2 (fun c => ?_) (fun c => absurd (decide_eq_true (by omega)) c)
      refine ⟨_, rfl, _, rfl, b, ys, _, u, rfl, rfl, sy, atI_neg1 yn g1, dF q, dF (0, 1), g3.dp, .tup (sz H) (.cons (.int 0) (.cons (.int 1) .nil)), rfl, rfl, ?_⟩
      rw [eqv_nought]
      have e : endB ss = decide (q = (0, 1)) := by
        unfold endB
        refine decide_eq_decide.mpr ⟨fun h => ?_, fun h n => ?_⟩
        · exact Classical.byContradiction fun z => h (.inr (by rw [eq_]; exact z))
        · rcases n with n | n
          · exact ne n
          · exact n (eq_.trans h)
      rw [e] at kk
      exact kk
theorem scIsEnded : FnScope ["ladder"] ["ladder"] (defScope sIsEnded) := ⟨rfl, rfl, rfl, by decide +kernel, rfl, by decide +kernel, by decide +kernel⟩
theorem ok_isEnded (F : Fun K "is_ended" "is_ended" sIsEnded f fd) (HE : Cal P w K mg base 1 "has_end" (spHasEnd K)) (NL : CalX P w K mg base 5 "need_ladder" (spNeedLad K CL)) : FnOk P w K mg base (L2.CX P w) 6 f fd ["ladder"] (spLad K CL rEnded) := by
  refine F.okX scIsEnded (fun vs H Q E h => ?_) (fun cdv A outer s H vs Q E hr h => ?_)
  · obtain ⟨v, d, rfl, _⟩ := h
    rfl
  · obtain ⟨v, d, rfl, hd, k1, k2⟩ := h
    refine ⟨_, pss_one (ps_ret (pe_n HE hr (by decide) (by rfl) (pa_cons (pe_x (E := E) NL hr (by decide) (by rfl) (passes_call (takes_of rfl rfl rfl rfl) (fun _ _ _ _ h => h)) (pa_cons (pv 0) pa_nil)) pa_nil))), ?_⟩
    refine ⟨_, rfl, v, d, rfl, hd, fun e H1 s1 => ?_, fun e H1 s1 => k1 e H1 s1⟩
    obtain ⟨T, ls, ss, rfl, _⟩ := ladderD_true e
    exact ⟨v, T, ls, ss, rfl, (lad_of hd).mono s1, k2 T ls ss rfl e H1 s1⟩
abbrev NCl : List Str := ["before", "here", "levels", "steps", "polys", "level", "step"]
theorem scClimb : FnScope NCl ["before", "here", "levels", "steps"] (defScope sClimb) := ⟨rfl, rfl, rfl, by decide +kernel, rfl, by decide +kernel, by decide +kernel⟩
theorem ok_climb (F : Fun K "climbed" "climbed" sClimb f fd) (T : Blt mg) (zp : mg "zip" = none) (NX : Cal P w K mg base 4 "next_rung" (spNext K)) : FnOk P w K mg base CX0 5 f fd ["before", "here", "levels", "steps"] (spClimb K) := by
  refine F.ok scClimb (fun vs H Q E h => ?_) (fun cdv A outer s H vs Q E hr h => ?_)
  · obtain ⟨x, y, u, v, ls, ss, rfl, _⟩ := h
    rfl
  · obtain ⟨x, y, u, v, ls, ss, rfl, px, py, ⟨a, xs, rfl, sx, fx⟩, ⟨b, ys, rfl, sy, fy⟩, zl, zs, l5, ll, kk⟩ := h
    have lx := fx.len
    have ly := fy.len
    rw [List.length_cons] at ly
    refine ⟨_, pss_cons (ps_set (i := 4) scClimb.nd rfl (Or.inl rfl) (pe_lst (pa_cons (pv 1) pa_nil)))
      (pss_cons (ps_for PassesOwn.never rfl (pi_zipA (by rfl) zp (pa_cons (pv 2) (pa_cons (pv 3) pa_nil))) (pg_tup rfl (pgs_cons (pg_name (i := 5) scClimb.nd rfl (.inl rfl)) (pgs_cons (pg_name (i := 6) scClimb.nd rfl (.inl rfl)) pgs_nil)))
        (pss_cons (ps_par (i := 0) (j := 1) (by rfl) scClimb.nd rfl rfl (by decide) rfl rfl (pa_cons (pv 1) (pa_cons (pe_n NX hr (by decide) (by rfl) (pa_cons (pv 0) (pa_cons (pv 1) (pa_cons (pv 5) (pa_cons (pv 6) pa_nil))))) pa_nil)) (by rfl))
          (pss_one (ps_expr (pe_bm PySem.F.plainAttrs_list PySem.F.slot_list_append PySem.F.type_list_append mt_append (pv 4) (pa_cons (pv 1) pa_nil))))))
      (pss_one (ps_ret (pe_callTy call_tuple_of (by rfl) T.tuple (by decide +kernel) (pa_cons (pv 4) pa_nil))))), ?_⟩
    refine ⟨_, rfl, (by show 1 ≤ sizeLine; decide), fun L hL => ?_⟩
    have s0 := same_new (o := .lst [y]) hL
    refine ⟨_, rfl, _, rfl, a, b, xs, ys, rfl, Or.inr ⟨Bs.Same.t s0 sx, Bs.Same.t s0 sy, ?_⟩⟩
    refine for_it (walk_zipT (xs := xs) (ys := ys) (n := ls.length) (by omega)) (fun i σ H1 => Same H H1 ∧ ∃ acc v0 v1 v5 v6, H1 L = some (.lst acc) ∧ PoAll K H1 acc ((List.range (i + 1)).map (ruled ls ss)) ∧ Po K H1 v0 (bef ls ss i) ∧ Po K H1 v1 (ruled ls ss i) ∧ σ = [some v0, some v1, some (V.ref a), some (V.ref b), some (V.ref L), v5, v6])
      ⟨s0, [y], x, y, none, none, upd_same, .cons (py.mono s0) .nil, px.mono s0, py.mono s0, rfl⟩ (fun i σ H1 _ p => ⟨Bs.Same.t p.1 sx, Bs.Same.t p.1 sy⟩) ?_ ?_
    · rintro i x' σ H1 H2 hi ⟨s1, acc, v0, v1, v5, v6, hL1, fa, p0, p1, rfl⟩ ⟨T', x1, y1, rfl, hT, rfl, h1, h2⟩
      have h1' : xs[i]? = some x1 := h1
      have h2' : ys[i]? = some y1 := h2
      have s2 := same_new (o := .tup [x1, y1]) hT
      have s12 := s1.trans s2
      obtain ⟨w1, q, e1, e2, fq⟩ := fx.get (i := i) (by omega)
      obtain ⟨w2, r, e3, e4, fr_⟩ := fy.get (i := i) (by rw [List.length_cons]; omega)
      rw [h1'] at e1
      cases e1
      rw [h2'] at e3
      cases e3
      have c1 := co_get e2
      have c2 := co_get e4
      have hp := ruled_pf zl zs i
      refine ⟨T', _, rfl, SqT.of upd_same, rfl, _, _, rfl, _, _, rfl, rfl, ?_⟩
      have zb : Za (3 * i) (bef ls ss i) ∧ (bef ls ss i).length ≤ i := by
        unfold bef
        split
        · exact ⟨fun q hq => (by cases hq), Nat.zero_le _⟩
        · have := ruled_pf zl zs (i - 1)
          exact ⟨this.z.mono (by omega), by rw [this.l]; omega⟩
      have z1 : Zs 1 r := by
        rw [← c2, shift_co]
        split
        · exact Zs.zero
        · exact zs.co _
      have z0 : Zs 1 q := by
        rw [← c1]
        exact zl.co _
      refine ⟨_, rfl, _, rfl, _, rfl, _, rfl, _, rfl, v0, v1, x1, y1, bef ls ss i, ruled ls ss i, q, r, 3 * i, rfl, p0.mono s2, p1.mono s2, fq.mono s12, fr_.mono s12, zb.1, hp.z, z0, z1, by omega, (fun z => by have := hp.l; rw [z] at this; cases this), by omega, by have := hp.l; omega, fun H3 p3 s3 k3 => ?_⟩
      have en := nxt_ruled zl zs i
      rw [c1, c2] at en
      rw [en] at k3
      have s13 := s12.trans s3
      have hL3 := s3 _ _ (s2 _ _ hL1)
      refine ⟨v1, .ref p3, rfl, ?_⟩
      have la : acc.length ≤ 6 := by
        rw [fa.len, List.length_map, List.length_range]
        omega
      refine ⟨_, rfl, Or.inl ⟨rfl, _, SqL.of hL3⟩, _, rfl, L, acc, _, rfl, rfl, hL3, small1000 (by omega), ?_⟩
      refine ⟨fun c o e => (upd_ne (ne_of_none e hL)).trans (s3 c o (s2 c o (s1 c o e))), acc ++ [.ref p3], v1, .ref p3, some x1, some y1, upd_same, ?_, ?_, k3.off hL3, rfl⟩
      · rw [List.range_succ, List.map_append]
        exact (PoAll.off hL3 (fa.mono (s2.trans s3))).snoc (k3.off hL3)
      · exact (p1.mono (s2.trans s3)).off hL3
    · rintro σ H1 ⟨s1, acc, v0, v1, v5, v6, hL1, fa, p0, p1, rfl⟩
      refine ⟨_, rfl, L, acc, rfl, Or.inl ⟨SqL.of hL1, fun p hp => ?_⟩⟩
      have s2 := same_new (o := .tup acc) hp
      exact kk _ _ (s1.trans s2) ⟨p, acc, rfl, SqT.of upd_same, fa.mono s2⟩
end
end Rs


set_option Elab.async false
set_option linter.all false
set_option maxRecDepth 100000
set_option maxHeartbeats 1000000
namespace Rs
open PySem L2 Bs Fq LamX RZ
section
variable {P : Program} {w : World} {K : PySem.W.Frag} {mg : Str → Option Value} {base : Heap} {f : Addr} {fd : FuncData} {CL : Addr}
theorem scRungsOf : FnScope ["ladder", "total", "levels", "steps"] ["ladder"] (defScope sRungsOf) := ⟨rfl, rfl, rfl, by decide +kernel, rfl, by decide +kernel, by decide +kernel⟩
theorem ok_rungsOf (F : Fun K "rungs_of" "rungs_of" sRungsOf f fd) (Z : Nou K mg) (O : OneG K mg) (CB : Cal P w K mg base 5 "climbed" (spClimb K)) : FnOk P w K mg base CX0 6 f fd ["ladder"] (spRungsOf K) := by
  refine F.ok scRungsOf (fun vs H Q E h => ?_) (fun cdv A outer s H vs Q E hr h => ?_)
  · obtain ⟨v, T0, ls, ss, rfl, _⟩ := h
    rfl
  · obtain ⟨v, T0, ls, ss, rfl, ⟨a, v1, v2, v3, rfl, sq, f1, p2, p3⟩, zl, zs, l5, m5, ll, kk⟩ := h
    obtain ⟨z, mz, sz⟩ := Z.ex
    obtain ⟨o, mo, so⟩ := O.ex
    refine ⟨_, pss_cons (ps_asg (pv 0) (pg_tup rfl (pgs_cons (pg_name (i := 1) scRungsOf.nd rfl (.inl rfl)) (pgs_cons (pg_name (i := 2) scRungsOf.nd rfl (.inl rfl)) (pgs_cons (pg_name (i := 3) scRungsOf.nd rfl (.inl rfl)) pgs_nil)))))
      (pss_one (ps_ret (pe_n CB hr (by decide) (by rfl) (pa_cons (pe_tup pa_nil) (pa_cons (pe_tup (pa_cons (pe_glob (v := .ref o) (by rfl) mo rfl) pa_nil)) (pa_cons (pv 2) (pa_cons (pe_op op_catA (pe_tup (pa_cons (pe_glob (v := .ref z) (by rfl) mz rfl) pa_nil)) (pv 3)) pa_nil))))))), ?_⟩
    refine ⟨_, rfl, a, _, rfl, sq, rfl, _, _, rfl, _, _, rfl, _, _, rfl, rfl, ?_⟩
    refine ⟨(by show 0 ≤ sizeLine; decide), fun q1 hq1 => ⟨(by show 1 ≤ sizeLine; decide), fun q2 hq2 => ?_⟩⟩
    have s1 := same_new (o := .tup []) hq1
    have s2 := same_new (o := .tup [V.ref o]) hq2
    have u1 : upd (upd H q1 (.tup [])) q2 (.tup [V.ref o]) q1 = some (.tup []) := s2 _ _ upd_same
    have u2 : upd (upd H q1 (.tup [])) q2 (.tup [V.ref o]) q2 = some (.tup [V.ref o]) := upd_same
    have s12 := s1.trans s2
    generalize upd (upd H q1 (.tup [])) q2 (.tup [V.ref o]) = H2 at *
    refine ⟨_, rfl, (by show 1 ≤ sizeLine; decide), fun q3 hq3 => ?_⟩
    have s3 := same_new (o := .tup [V.ref z]) hq3
    obtain ⟨b, ys, rfl, sy, fy⟩ := p3
    have ly := fy.len
    refine ⟨_, rfl, ?_⟩
    refine cat_any (xs := [V.ref z]) (ys := ys) (SqT.of upd_same) (Bs.Same.t (s12.trans s3) sy) (Nat.le_of_lt (small1000 (by show 1 + _ ≤ 1000; omega))) (fun q4 H4 s4 sq4 => ?_)
    have s34 := s3.trans s4
    have s14 := s12.trans s34
    refine ⟨_, _, _, _, ls, ss, rfl, ⟨q1, [], rfl, SqT.of (s34 _ _ u1), .nil⟩, ⟨q2, _, rfl, SqT.of (s34 _ _ u2), .cons ⟨o, rfl, so H4⟩ .nil⟩, p2.mono s14, ⟨q4, _, rfl, sq4, .cons ⟨z, rfl, sz H4⟩ (fy.mono s14)⟩, zl, zs, l5, ll, fun H5 v5 s5 k5 => ?_⟩
    exact kk H5 v5 (s14.trans s5) k5
theorem scRungs : FnScope ["ladder"] ["ladder"] (defScope sRungs) := ⟨rfl, rfl, rfl, by decide +kernel, rfl, by decide +kernel, by decide +kernel⟩
theorem ok_rungs (F : Fun K "rung_polys" "rung_polys" sRungs f fd) (RO : Cal P w K mg base 6 "rungs_of" (spRungsOf K)) (NL : CalX P w K mg base 5 "need_ladder" (spNeedLad K CL)) : FnOk P w K mg base (L2.CX P w) 7 f fd ["ladder"] (spLad K CL (rRungs K)) := by
  refine F.okX scRungs (fun vs H Q E h => ?_) (fun cdv A outer s H vs Q E hr h => ?_)
  · obtain ⟨v, d, rfl, _⟩ := h
    rfl
  · obtain ⟨v, d, rfl, hd, k1, k2⟩ := h
    refine ⟨_, pss_one (ps_ret (pe_n RO hr (by decide) (by rfl) (pa_cons (pe_x (E := E) NL hr (by decide) (by rfl) (passes_call (takes_of rfl rfl rfl rfl) (fun _ _ _ _ h => h)) (pa_cons (pv 0) pa_nil)) pa_nil))), ?_⟩
    refine ⟨_, rfl, v, d, rfl, hd, fun e H1 s1 => ?_, fun e H1 s1 => k1 e H1 s1⟩
    obtain ⟨T, ls, ss, rfl, a1, a2, a3, a4⟩ := ladderD_true e
    obtain ⟨zl, zs, kk⟩ := k2 T ls ss rfl e
    exact ⟨v, T, ls, ss, rfl, (lad_of hd).mono s1, zl, zs, a1, a2, a3, fun H' u s2 k => kk H' u (s1.trans s2) k⟩
abbrev NNo : List Str := ["ladder", "total", "levels", "steps", "found", "step"]
theorem scNorms : FnScope NNo ["ladder"] (defScope sNorms) := ⟨rfl, rfl, rfl, by decide +kernel, rfl, by decide +kernel, by decide +kernel⟩
theorem ok_norms (F : Fun K "norms" "norms" sNorms f fd) (T : Blt mg) (Ti : Cal P w K mg base 2 "timed" (spOp K mul dom2)) (NL : CalX P w K mg base 5 "need_ladder" (spNeedLad K CL)) : FnOk P w K mg base (L2.CX P w) 6 f fd ["ladder"] (spLad K CL (rNorms K)) := by
  refine F.okX scNorms (fun vs H Q E h => ?_) (fun cdv A outer s H vs Q E hr h => ?_)
  · obtain ⟨v, d, rfl, _⟩ := h
    rfl
  · obtain ⟨v, d, rfl, hd, k1, k2⟩ := h
    refine ⟨_, pss_cons (ps_asg (pe_x (E := E) NL hr (by decide) (by rfl) (passes_call (takes_of rfl rfl rfl rfl) (fun _ _ _ _ h => h)) (pa_cons (pv 0) pa_nil)) (pg_tup rfl (pgs_cons (pg_name (i := 1) scNorms.nd rfl (.inl rfl)) (pgs_cons (pg_name (i := 2) scNorms.nd rfl (.inl rfl)) (pgs_cons (pg_name (i := 3) scNorms.nd rfl (.inl rfl)) pgs_nil)))))
      (pss_cons (ps_set (i := 4) scNorms.nd rfl (Or.inl rfl) (pe_lst (pa_cons (pv 1) pa_nil)))
      (pss_cons (ps_for (passes_of rfl) rfl (pi_tup (pv 3)) (pg_name (i := 5) scNorms.nd rfl (.inl rfl))
        (pss_one (ps_expr (pe_bm PySem.F.plainAttrs_list PySem.F.slot_list_append PySem.F.type_list_append mt_append (pv 4) (pa_cons (pe_n Ti hr (by decide) (by rfl) (pa_cons (pe_ix ix_list (pv 4) (pe_un un_neg pe_int) (fun _ _ => rfl)) (pa_cons (pv 5) pa_nil))) pa_nil)))))
      (pss_one (ps_ret (pe_callTy call_tuple_of (by rfl) T.tuple (by decide +kernel) (pa_cons (pv 4) pa_nil)))))), ?_⟩
    refine ⟨_, rfl, v, d, rfl, hd, fun e H1 s1 => ?_, fun e H1 s1 => k1 e H1 s1⟩
    obtain ⟨T0, ls, ss, rfl, a1, a2, a3, a4⟩ := ladderD_true e
    obtain ⟨zT, zs, kk⟩ := k2 T0 ls ss rfl e
    obtain ⟨a, v1, v2, v3, rfl, sq, f1, p2, b, ys, rfl, sy, fy⟩ := (lad_of hd).mono s1
    have ly := fy.len
    refine ⟨a, _, rfl, sq, rfl, _, _, rfl, _, _, rfl, _, _, rfl, rfl, ?_⟩
    refine ⟨_, rfl, (by show 1 ≤ sizeLine; decide), fun L hL => ?_⟩
    have s2 := same_new (o := .lst [v1]) hL
    have sy2 := Bs.Same.t s2 sy
    have h0 : upd H1 L (.lst [v1]) L = some (.lst [v1]) := upd_same
    have f10 := f1.mono s2
    have sH : Same H H1 := s1
    generalize upd H1 L (.lst [v1]) = H2 at *
    refine ⟨_, rfl, b, rfl, ⟨_, sy2⟩, for_tup (K := K) (a := b) (xs := ys) (fun i σ H3 => Same H1 H3 ∧ ∃ acc v5, H3 L = some (.lst acc) ∧ FrAll K H3 acc ((List.range (i + 1)).map (nrm T0 ss)) ∧ σ = [some (V.ref a), some v1, some v2, some (V.ref b), some (V.ref L), v5])
      ⟨s2, [v1], none, h0, .cons f10 .nil, rfl⟩ (fun i σ H3 _ p => Bs.Same.t p.1 sy) ?_ ?_⟩
    · rintro i x σ H3 hx ⟨s3, acc, v5, hL3, fa, rfl⟩
      have hi : i < ss.length := by
        have := (List.getElem?_eq_some_iff.mp hx).1
        omega
      obtain ⟨x', q, e1, e2, fq⟩ := fy.get hi
      rw [hx] at e1
      cases e1
      have la : acc.length = i + 1 := by rw [fa.len, List.length_map, List.length_range]
      obtain ⟨u, r, e3, e4, fu⟩ := fa.get (i := i) (by rw [List.length_map, List.length_range]; omega)
      have er : r = nrm T0 ss i := by
        rw [List.getElem?_map, List.getElem?_range (by omega)] at e4
        cases e4
        rfl
      have eq_ : q = co ss i := (co_get e2).symm
      have an : acc ≠ [] := fun z => by rw [z] at la; cases la
      have hn := nrm_ok zT zs i
      subst er
      refine ⟨_, rfl, Or.inl ⟨rfl, _, SqL.of hL3⟩, _, rfl, _, rfl, L, acc, _, u, rfl, rfl, SqL.of hL3, atI_neg1 an (by rw [la]; exact e3), _, rfl, u, x, nrm T0 ss i, q, rfl, fu, fq.mono s3, ⟨zs_dm hn.1, by rw [eq_]; exact zs_dm (zs.co i)⟩, fun p hp => ?_⟩
      have s4 := same_new (o := fr (mul (nrm T0 ss i) q)) hp
      have hL4 := s4 _ _ hL3
      refine ⟨L, acc, _, rfl, rfl, hL4, small1000 (by omega), ?_⟩
      refine ⟨fun c o e => (upd_ne (ne_of_none e hL)).trans (s4 c o (s3 c o e)), acc ++ [.ref p], some x, upd_same, ?_, rfl⟩
      rw [List.range_succ, List.map_append, eq_]
      rw [eq_] at hL4 s4
      exact (FrAll.off hL4 (fa.mono s4)).snoc ((Fr.of upd_same).off hL4)
    · rintro σ H3 ⟨s3, acc, v5, hL3, fa, rfl⟩
      rw [ly] at fa
      refine ⟨_, rfl, L, acc, rfl, Or.inl ⟨SqL.of hL3, fun p hp => ?_⟩⟩
      have s4 := same_new (o := .tup acc) hp
      exact kk _ _ ((sH.trans s3).trans s4) ⟨p, acc, rfl, SqT.of upd_same, fa.mono s4⟩
end
end Rs


set_option Elab.async false
set_option linter.all false
set_option maxRecDepth 100000
set_option maxHeartbeats 1000000
namespace Rs
open PySem L2 Bs Fq LamX RZ
def stA (s : List F) (h : Nat) : F := if 0 < h then co s (h - 1) else (0, 1)
def stB (s ls : List F) (h : Nat) : F := if h < s.length ∧ h < ls.length then add (stA s h) (mul (co ls h) (co s h)) else stA s h
theorem stepH_eq (s ls ss : List F) (h : Nat) : stepH s ls ss h = if h + 1 < s.length ∧ h < ss.length then add (stB s ls h) (mul (co ss h) (co s (h + 1))) else stB s ls h := rfl
theorem stA_zs {n : Nat} {s : List F} (hs : Za n s) (h : Nat) : Zs n (stA s h) := by
  unfold stA
  split
  · exact hs.co _
  · exact Zs.zero
theorem stB_zs {n : Nat} {s ls : List F} (hs : Za n s) (hl : Za 1 ls) (h : Nat) : Zs (n + 2) (stB s ls h) := by
  unfold stB
  split
  · exact ((stA_zs hs h).up).add (((hl.co h).mul (hs.co h)).mono (by omega))
  · exact (stA_zs hs h).mono (by omega)
abbrev sStepped : Stmt := top 38
abbrev sRowTo : Stmt := top 39
abbrev sNeedTop : Stmt := top 40
abbrev sRowOf : Stmt := top 41
def spStepped (K : PySem.W.Frag) : Sp := fun vs H Q _ => ∃ (x y u : V) (s ls ss : List F) (n : Nat), vs = [x, y, u] ∧ Ls K H x s ∧ Po K H y ls ∧ Po K H u ss ∧ Za n s ∧ Za 1 ls ∧ Za 1 ss ∧ n ≤ 300 ∧ s.length ≤ 20 ∧
  ∀ H' p xs, Same H H' → H p = none → SqL K H' p xs → FrAll K H' xs (stepL s ls ss) → Q (.ref p) H'
theorem Ls.at {K : PySem.W.Frag} {H : Hp} {xs : List V} {s : List F} {i : Nat} (fx : FrAll K H xs s) (hi : i < s.length) : ∃ u, xs[i]? = some u ∧ Fr K H u (co s i) := by
  obtain ⟨u, q, e1, e2, f⟩ := fx.get hi
  exact ⟨u, e1, by rw [co_get e2]; exact f⟩
abbrev NSt : List Str := ["sums", "levels", "steps", "longer", "height", "whole"]
section
variable {P : Program} {w : World} {K : PySem.W.Frag} {mg : Str → Option Value} {base : Heap} {f : Addr} {fd : FuncData} {CL CN : Addr}
theorem scStepped : FnScope NSt ["sums", "levels", "steps"] (defScope sStepped) := ⟨rfl, rfl, rfl, by decide +kernel, rfl, by decide +kernel, by decide +kernel⟩
theorem ok_stepped (F : Fun K "stepped" "stepped" sStepped f fd) (T : Blt mg) (Z : Nou K mg) (Ad : Cal P w K mg base 2 "added" (spOp K add dom2)) (Ti : Cal P w K mg base 2 "timed" (spOp K mul dom2)) : FnOk P w K mg base CX0 3 f fd ["sums", "levels", "steps"] (spStepped K) := by
  refine F.ok scStepped (fun vs H Q E h => ?_) (fun cdv A outer s0 H vs Q E hr h => ?_)
  · obtain ⟨x, y, u, s, ls, ss, n, rfl, _⟩ := h
    rfl
  · obtain ⟨x, y, u, s, ls, ss, n, rfl, ⟨a, xs, rfl, sx, fx⟩, ⟨b, ys, rfl, sy, fy⟩, ⟨c, us, rfl, su, fu⟩, zs, zl, zb, hn, l20, kk⟩ := h
    obtain ⟨z, mz, sz⟩ := Z.ex
    have lx := fx.len
    have ly := fy.len
    have lu := fu.len
    refine ⟨_, pss_cons (ps_set (i := 3) scStepped.nd rfl (Or.inl rfl) (pe_lst pa_nil))
      (pss_cons (ps_for PassesOwn.never rfl (pi_range1 rfl T.range (pa_cons (pe_op op_add (pe_callB call_len_seq (by rfl) T.len (by decide +kernel) (pa_cons (pv 0) pa_nil)) pe_int) pa_nil)) (pg_name (i := 4) scStepped.nd rfl (Or.inl rfl))
        (C8.pss_cut (ps_set (i := 5) scStepped.nd rfl (Or.inl rfl) (pe_ifExp (pt_cmpR op_gt (pv 4) pe_int (nomark _)) (pe_ix ix_list (pv 0) (pe_op op_sub (pv 4) pe_int) (fun _ _ => rfl)) (pe_glob (v := .ref z) (by rfl) mz rfl)))
        (C8.pss_cut (ps_if (PW.pt (pw_and (pt_cmpR op_lt (pv 4) (pe_callB call_len_seq (by rfl) T.len (by decide +kernel) (pa_cons (pv 0) pa_nil)) (nomark _)) (pw_and1 (pt_cmpR op_lt (pv 4) (pe_callB call_len_seq (by rfl) T.len (by decide +kernel) (pa_cons (pv 1) pa_nil)) (nomark _)))))
            (pss_one (ps_set (i := 5) scStepped.nd rfl (Or.inl rfl) (pe_n Ad hr (by decide) (by rfl) (pa_cons (pv 5) (pa_cons (pe_n Ti hr (by decide) (by rfl) (pa_cons (pe_ix ix_tup (pv 1) (pv 4) (fun _ _ => rfl)) (pa_cons (pe_ix ix_list (pv 0) (pv 4) (fun _ _ => rfl)) pa_nil))) pa_nil))))) pss_nil)
        (C8.pss_cut (ps_if (PW.pt (pw_and (pt_cmpR op_lt (pe_op op_add (pv 4) pe_int) (pe_callB call_len_seq (by rfl) T.len (by decide +kernel) (pa_cons (pv 0) pa_nil)) (nomark _)) (pw_and1 (pt_cmpR op_lt (pv 4) (pe_callB call_len_seq (by rfl) T.len (by decide +kernel) (pa_cons (pv 2) pa_nil)) (nomark _)))))
            (pss_one (ps_set (i := 5) scStepped.nd rfl (Or.inl rfl) (pe_n Ad hr (by decide) (by rfl) (pa_cons (pv 5) (pa_cons (pe_n Ti hr (by decide) (by rfl) (pa_cons (pe_ix ix_tup (pv 2) (pv 4) (fun _ _ => rfl)) (pa_cons (pe_ix ix_list (pv 0) (pe_op op_add (pv 4) pe_int) (fun _ _ => rfl)) pa_nil))) pa_nil))))) pss_nil)
          (pss_one (ps_expr (pe_bm PySem.F.plainAttrs_list PySem.F.slot_list_append PySem.F.type_list_append mt_append (pv 3) (pa_cons (pv 5) pa_nil))))))))
      (pss_one (ps_ret (pv 3)))), ?_⟩
    refine ⟨(by show 0 ≤ sizeLine; decide), fun L hL => ?_⟩
    have s1 := same_new (o := .lst []) hL
    refine ⟨_, rfl, a, xs, rfl, .inl (s1.seq sx), _, _, rfl, rfl, _, rfl, by omega, by omega, for_range (n := ((xs.length : Int) + 1).toNat) (fun i σ H1 => Same H H1 ∧ ∃ acc v4 v5, H1 L = some (.lst acc) ∧ FrAll K H1 acc ((List.range i).map (stepH s ls ss)) ∧ σ = [some (V.ref a), some (V.ref b), some (V.ref c), some (V.ref L), v4, v5])
      ⟨s1, [], none, none, upd_same, .nil, rfl⟩ ?_ ?_⟩
    · rintro i σ H1 hi ⟨s1, acc, v4, v5, hL1, fa, rfl⟩
      have la : acc.length = i := by rw [fa.len, List.length_map, List.length_range]
      have i1 : i ≤ s.length := by omega
      refine ⟨fun σ H2 => ∃ v, Same H H2 ∧ H2 L = some (.lst acc) ∧ FrAll K H2 acc ((List.range i).map (stepH s ls ss)) ∧ Fr K H2 v (stA s i) ∧ σ = [some (V.ref a), some (V.ref b), some (V.ref c), some (V.ref L), some (V.int i), some v], ?_, ?_⟩
      · refine ⟨_, rfl, _, _, rfl, rfl, _, rfl, ?_⟩
        have ei : (0 : Int) + (i : Int) = (i : Int) := Int.zero_add _
        rw [ei]
        refine ite2 (fun c1 => ?_) (fun c1 => ?_)
        · have hp : 0 < i := by
            have := of_decide_eq_true c1
            omega
          obtain ⟨u1, e1, f1⟩ := Ls.at (i := i - 1) fx (by omega)
          have ha : atI xs ((i : Int) - 1) = some u1 := by
            rw [show (i : Int) - 1 = ((i - 1 : Nat) : Int) by omega]
            exact atI_nat e1
          refine ⟨_, rfl, _, rfl, _, _, rfl, rfl, a, xs, _, u1, rfl, rfl, s1.seq sx, ha, ?_⟩
          refine ⟨u1, s1, hL1, fa, ?_, rfl⟩
          unfold stA
          rw [if_pos hp]
          exact f1.mono s1
        · have hp : ¬ 0 < i := fun z => c1 (decide_eq_true (by omega))
          refine ⟨.ref z, s1, hL1, fa, ?_, rfl⟩
          unfold stA
          rw [if_neg hp]
          exact ⟨z, rfl, sz H1⟩
      rintro σ H2 ⟨v, s2, hL2, fa2, fv, rfl⟩
      clear hL1 fa s1
      refine ⟨fun σ H2 => ∃ v, Same H H2 ∧ H2 L = some (.lst acc) ∧ FrAll K H2 acc ((List.range i).map (stepH s ls ss)) ∧ Fr K H2 v (stB s ls i) ∧ σ = [some (V.ref a), some (V.ref b), some (V.ref c), some (V.ref L), some (V.int i), some v], ?_, ?_⟩
      · have no : ¬ (i < s.length ∧ i < ls.length) → ∃ v', Same H H2 ∧ H2 L = some (.lst acc) ∧ FrAll K H2 acc ((List.range i).map (stepH s ls ss)) ∧ Fr K H2 v' (stB s ls i) ∧ [some (V.ref a), some (V.ref b), some (V.ref c), some (V.ref L), some (V.int i), some v] = [some (V.ref a), some (V.ref b), some (V.ref c), some (V.ref L), some (V.int i), some v'] := by
          intro hn
          refine ⟨v, s2, hL2, fa2, ?_, rfl⟩
          unfold stB
          rw [if_neg hn]
          exact fv
        refine ⟨_, rfl, _, rfl, a, xs, rfl, .inl (s2.seq sx), _, _, rfl, rfl, _, rfl, ?_⟩
        refine ite2 (fun c1 => ?_) (fun c1 => ?_)
        · have h1 : i < s.length := by
            have := of_decide_eq_true c1
            omega
          refine ⟨_, rfl, _, rfl, b, ys, rfl, .inr (Bs.Same.t s2 sy), _, _, rfl, rfl, _, rfl, ?_⟩
          refine ite2 (fun c2 => ?_) (fun c2 => ?_)
          · have h2 : i < ls.length := by
              have := of_decide_eq_true c2
              omega
            obtain ⟨u1, e1, f1⟩ := Ls.at (i := i) fy h2
            obtain ⟨u2, e2, f2⟩ := Ls.at (i := i) fx h1
            have zm := (zl.co i).mul (zs.co i)
            refine ⟨_, rfl, _, rfl, _, rfl, b, ys, _, u1, rfl, rfl, Bs.Same.t s2 sy, atI_nat e1, _, rfl, _, rfl, a, xs, _, u2, rfl, rfl, s2.seq sx, atI_nat e2, u1, u2, _, _, rfl, f1.mono s2, f2.mono s2, ⟨zs_dm (zl.co i), zs_dm (zs.co i)⟩, fun p hp => ?_⟩
            have s3 := same_new (o := fr (mul (co ls i) (co s i))) hp
            refine ⟨v, .ref p, _, _, rfl, fv.mono s3, Fr.of upd_same, ⟨zs_dm (stA_zs zs i), zs_dm zm⟩, fun p2 hp2 => ?_⟩
            have s4 := same_new (o := fr (add (stA s i) (mul (co ls i) (co s i)))) hp2
            have s34 := s3.trans s4
            refine ⟨.ref p2, s2.trans s34, s34 _ _ hL2, fa2.mono s34, ?_, rfl⟩
            unfold stB
            rw [if_pos ⟨h1, h2⟩]
            exact Fr.of upd_same
          · exact no fun z => c2 (decide_eq_true (by omega))
        · exact no fun z => c1 (decide_eq_true (by omega))
      rintro σ H3 ⟨v2, s3, hL3, fa3, fv3, rfl⟩
      clear hL2 fa2 s2 fv
      refine ⟨fun σ H2 => ∃ v, Same H H2 ∧ H2 L = some (.lst acc) ∧ FrAll K H2 acc ((List.range i).map (stepH s ls ss)) ∧ Fr K H2 v (stepH s ls ss i) ∧ σ = [some (V.ref a), some (V.ref b), some (V.ref c), some (V.ref L), some (V.int i), some v], ?_, ?_⟩
      · have no : ¬ (i + 1 < s.length ∧ i < ss.length) → ∃ v', Same H H3 ∧ H3 L = some (.lst acc) ∧ FrAll K H3 acc ((List.range i).map (stepH s ls ss)) ∧ Fr K H3 v' (stepH s ls ss i) ∧ [some (V.ref a), some (V.ref b), some (V.ref c), some (V.ref L), some (V.int i), some v2] = [some (V.ref a), some (V.ref b), some (V.ref c), some (V.ref L), some (V.int i), some v'] := by
          intro hn
          refine ⟨v2, s3, hL3, fa3, ?_, rfl⟩
          rw [stepH_eq, if_neg hn]
          exact fv3
        have ea : (i : Int) + 1 = ((i + 1 : Nat) : Int) := by omega
        refine ⟨_, rfl, _, _, rfl, rfl, _, rfl, a, xs, rfl, .inl (s3.seq sx), _, _, rfl, rfl, _, rfl, ?_⟩
        refine ite2 (fun c1 => ?_) (fun c1 => ?_)
        · have h1 : i + 1 < s.length := by
            have := of_decide_eq_true c1
            omega
          refine ⟨_, rfl, _, rfl, c, us, rfl, .inr (Bs.Same.t s3 su), _, _, rfl, rfl, _, rfl, ?_⟩
          refine ite2 (fun c2 => ?_) (fun c2 => ?_)
          · have h2 : i < ss.length := by
              have := of_decide_eq_true c2
              omega
            obtain ⟨u1, e1, f1⟩ := Ls.at (i := i) fu h2
            obtain ⟨u2, e2, f2⟩ := Ls.at (i := i + 1) fx h1
            have zm := (zb.co i).mul (zs.co (i + 1))
            refine ⟨_, rfl, _, rfl, _, rfl, c, us, _, u1, rfl, rfl, Bs.Same.t s3 su, atI_nat e1, _, rfl, _, rfl, _, _, rfl, rfl, a, xs, _, u2, rfl, rfl, s3.seq sx, (by rw [ea]; exact atI_nat e2), u1, u2, _, _, rfl, f1.mono s3, f2.mono s3, ⟨zs_dm (zb.co i), zs_dm (zs.co (i + 1))⟩, fun p hp => ?_⟩
            have s4 := same_new (o := fr (mul (co ss i) (co s (i + 1)))) hp
            refine ⟨v2, .ref p, _, _, rfl, fv3.mono s4, Fr.of upd_same, ⟨zs_dm (stB_zs zs zl i), zs_dm zm⟩, fun p2 hp2 => ?_⟩
            have s5 := same_new (o := fr (add (stB s ls i) (mul (co ss i) (co s (i + 1))))) hp2
            have s45 := s4.trans s5
            refine ⟨.ref p2, s3.trans s45, s45 _ _ hL3, fa3.mono s45, ?_, rfl⟩
            rw [stepH_eq, if_pos ⟨h1, h2⟩]
            exact Fr.of upd_same
          · exact no fun z => c2 (decide_eq_true (by omega))
        · exact no fun z => c1 (decide_eq_true (by omega))
      rintro σ H4 ⟨v3, s4, hL4, fa4, fv4, rfl⟩
      refine ⟨_, rfl, Or.inl ⟨rfl, _, SqL.of hL4⟩, _, rfl, L, acc, _, rfl, rfl, hL4, small1000 (by omega), ?_⟩
      refine ⟨fun c o e => (upd_ne (ne_of_none e hL)).trans (s4 c o e), acc ++ [v3], some (.int i), some v3, upd_same, ?_, rfl⟩
      rw [List.range_succ, List.map_append]
      exact (FrAll.off hL4 fa4).snoc (fv4.off hL4)
    · rintro σ H1 ⟨s1, acc, v4, v5, hL1, fa, rfl⟩
      refine ⟨_, rfl, kk H1 L acc s1 hL (SqL.of hL1) ?_⟩
      rw [show ((xs.length : Int) + 1).toNat = s.length + 1 by omega] at fa
      exact fa
end
end Rs


set_option Elab.async false
set_option linter.all false
set_option maxRecDepth 100000
set_option maxHeartbeats 1000000
namespace Rs
open PySem L2 Bs Fq LamX RZ
def spRowTo (K : PySem.W.Frag) : Sp := fun vs H Q _ => ∃ (v : V) (T : F) (ls ss : List F) (n : Int), vs = [v, .int n] ∧ Lad K H v T ls ss ∧ Zs 1 T ∧ Za 1 ls ∧ Za 1 ss ∧ 0 ≤ n ∧ n ≤ 8 ∧
  ∀ H' v, Same H H' → Po K H' v (rowL T ls ss n.toNat) → Q v H'
def mostN (ls ss : List F) : Int := if endB ss = true then 8 else if (ls.length : Int) + (ss.length : Int) < 8 then (ls.length : Int) + (ss.length : Int) else 8
def spNeedTop (K : PySem.W.Frag) (C : Addr) : Sp := fun vs H Q E => ∃ (v t : V) (T : F) (ls ss : List F) (dt : PyData), vs = [v, t] ∧ Lad K H v T ls ss ∧ Dp K H t dt ∧ (betwD 0 (mostN ls ss) dt = true → Q t H) ∧ (betwD 0 (mostN ls ss) dt = false → Out E C t H)
def spRowOf (K : PySem.W.Frag) (CL CN : Addr) : Sp := fun vs H Q E => ∃ (v t : V) (dv dt : PyData), vs = [v, t] ∧ Dp K H v dv ∧ Dp K H t dt ∧ (ladderD dv = false → ∀ H', Same H H' → OutW E CL "given" v H') ∧
  (∀ T ls ss, dv = dL T ls ss → ladderD dv = true → (betwD 0 (mostN ls ss) dt = false → ∀ H', Same H H' → OutW E CN "given" t H') ∧
    (∀ n, dt = .int n → 0 ≤ n → n ≤ mostN ls ss → Zs 1 T ∧ Za 1 ls ∧ Za 1 ss ∧ ∀ H' v, Same H H' → Po K H' v (rowL T ls ss n.toNat) → Q v H'))
theorem rowL_succ (T : F) (ls ss : List F) (n : Nat) : rowL T ls ss (n + 1) = rowL T ls ss n ++ [mul T (co (sumsL ls ss (n + 1)) 0)] := by
  unfold rowL
  rw [List.range_succ, List.map_append]
  rfl
theorem sqL_off {K : PySem.W.Frag} {H : Hp} {a D : Addr} {xs : List V} {o : HO} (n : a ≠ D) (s : SqL K H a xs) : SqL K (upd H D o) a xs := by
  rcases s with (s | ⟨o', s⟩) | s
  · exact .inl (.inl ((upd_ne n).trans s))
  · exact .inl (.inr ⟨o', (upd_ne n).trans s⟩)
  · exact .inr s
abbrev NRt : List Str := ["ladder", "top", "total", "levels", "steps", "sums", "row", "_"]
section
variable {P : Program} {w : World} {K : PySem.W.Frag} {mg : Str → Option Value} {base : Heap} {f : Addr} {fd : FuncData} {CL CN : Addr}
theorem scRowTo : FnScope NRt ["ladder", "top"] (defScope sRowTo) := ⟨rfl, rfl, rfl, by decide +kernel, rfl, by decide +kernel, by decide +kernel⟩
theorem ok_rowTo (F : Fun K "row_to" "row_to" sRowTo f fd) (T : Blt mg) (O : OneG K mg) (ST : Cal P w K mg base 3 "stepped" (spStepped K)) (Ti : Cal P w K mg base 2 "timed" (spOp K mul dom2)) : FnOk P w K mg base CX0 4 f fd ["ladder", "top"] (spRowTo K) := by
  refine F.ok scRowTo (fun vs H Q E h => ?_) (fun cdv A outer s0 H vs Q E hr h => ?_)
  · obtain ⟨v, T0, ls, ss, n, rfl, _⟩ := h
    rfl
  · obtain ⟨v, T0, ls, ss, n, rfl, ⟨a, v1, v2, v3, rfl, sq, f1, p2, p3⟩, zT, zl, zb, n0, n8, kk⟩ := h
    obtain ⟨o, mo, so⟩ := O.ex
    refine ⟨_, pss_cons (ps_asg (pv 0) (pg_tup rfl (pgs_cons (pg_name (i := 2) scRowTo.nd rfl (.inl rfl)) (pgs_cons (pg_name (i := 3) scRowTo.nd rfl (.inl rfl)) (pgs_cons (pg_name (i := 4) scRowTo.nd rfl (.inl rfl)) pgs_nil)))))
      (pss_cons (ps_set (i := 5) scRowTo.nd rfl (Or.inl rfl) (pe_lst (pa_cons (pe_glob (v := .ref o) (by rfl) mo rfl) pa_nil)))
      (pss_cons (ps_set (i := 6) scRowTo.nd rfl (Or.inl rfl) (pe_lst (pa_cons (pv 2) pa_nil)))
      (pss_cons (ps_for PassesOwn.never rfl (pi_range1 rfl T.range (pa_cons (pv 1) pa_nil)) (pg_name (i := 7) scRowTo.nd rfl (Or.inl rfl))
        (C8.pss_cut (ps_set (i := 5) scRowTo.nd rfl (Or.inl rfl) (pe_n ST hr (by decide) (by rfl) (pa_cons (pv 5) (pa_cons (pv 3) (pa_cons (pv 4) pa_nil)))))
          (pss_one (ps_expr (pe_bm PySem.F.plainAttrs_list PySem.F.slot_list_append PySem.F.type_list_append mt_append (pv 6) (pa_cons (pe_n Ti hr (by decide) (by rfl) (pa_cons (pv 2) (pa_cons (pe_ix ix_list (pv 5) pe_int (fun _ _ => rfl)) pa_nil))) pa_nil))))))
      (pss_one (ps_ret (pe_callTy call_tuple_of (by rfl) T.tuple (by decide +kernel) (pa_cons (pv 6) pa_nil))))))), ?_⟩
    refine ⟨_, rfl, a, _, rfl, sq, rfl, _, _, rfl, _, _, rfl, _, _, rfl, rfl, ?_⟩
    refine ⟨(by show 1 ≤ sizeLine; decide), fun L0 hL0 => ?_⟩
    have s1 := same_new (o := .lst [V.ref o]) hL0
    refine ⟨_, rfl, (by show 1 ≤ sizeLine; decide), fun L hL => ?_⟩
    have s2 := same_new (o := .lst [v1]) hL
    have u1 : upd (upd H L0 (.lst [V.ref o])) L (.lst [v1]) L0 = some (.lst [V.ref o]) := s2 _ _ upd_same
    have u2 : upd (upd H L0 (.lst [V.ref o])) L (.lst [v1]) L = some (.lst [v1]) := upd_same
    have s12 := s1.trans s2
    have hLn : H L = none := s1.free hL
    generalize upd (upd H L0 (.lst [V.ref o])) L (.lst [v1]) = H2 at *
    refine ⟨_, rfl, _, rfl, by omega, by omega, for_range (n := n.toNat) (fun i σ H1 => Same H H1 ∧ ∃ acc va v7, H1 L = some (.lst acc) ∧ FrAll K H1 acc (rowL T0 ls ss i) ∧ (∃ b xs, va = V.ref b ∧ b ≠ L ∧ SqL K H1 b xs ∧ FrAll K H1 xs (sumsL ls ss i)) ∧ σ = [some (V.ref a), some (V.int n), some v1, some v2, some v3, some va, some (V.ref L), v7])
      ⟨s12, [v1], .ref L0, none, u2, .cons (f1.mono s12) .nil, ⟨L0, _, rfl, ?_, SqL.of u1, .cons ⟨o, rfl, so _⟩ .nil⟩, rfl⟩ ?_ ?_⟩
    · rintro rfl
      rw [upd_same] at hL
      cases hL
    · rintro i σ H1 hi ⟨s3, acc, va, v7, hL1, fa, ⟨b, xs, rfl, nb, sx, fx⟩, rfl⟩
      obtain ⟨za, _⟩ := sumsL_ok zl zb i
      have lsz := sumsL_len ls ss i
      obtain ⟨za1, _⟩ := sumsL_ok zl zb (i + 1)
      refine ⟨fun σ H3 => ∃ b1 xs1 v7, Same H1 H3 ∧ SqL K H3 b1 xs1 ∧ b1 ≠ L ∧ FrAll K H3 xs1 (sumsL ls ss (i + 1)) ∧ σ = [some (V.ref a), some (V.int n), some v1, some v2, some v3, some (V.ref b1), some (V.ref L), v7], ?_, ?_⟩
      · refine ⟨_, rfl, _, rfl, _, rfl, _, _, _, sumsL ls ss i, ls, ss, 3 * i, rfl, ⟨b, xs, rfl, sx, fx⟩, p2.mono s3, p3.mono s3, za, zl, zb, by omega, by omega, fun H3 b1 xs1 s4 n4 sq4 f4 => ?_⟩
        exact ⟨b1, xs1, _, s4, sq4, (fun z => by rw [z, hL1] at n4; cases n4), f4, rfl⟩
      · rintro σ H3 ⟨b1, xs1, v7, s4, sx1, nb1, fx1, rfl⟩
        have hL3 := s4 _ _ hL1
        obtain ⟨u, e1, fu⟩ := Ls.at (i := 0) fx1 (by rw [sumsL_len]; omega)
        have z0 := za1.co 0
        refine ⟨_, rfl, Or.inl ⟨rfl, _, SqL.of hL3⟩, _, rfl, _, rfl, b1, xs1, _, u, rfl, rfl, sx1, atI_nat (j := 0) e1, v1, u, T0, _, rfl, f1.mono (s3.trans s4), fu, ⟨zs_dm zT, zs_dm z0⟩, fun p hp => ?_⟩
        have s5 := same_new (o := fr (mul T0 (co (sumsL ls ss (i + 1)) 0))) hp
        have hL5 := s5 _ _ hL3
        have s35 := (s3.trans s4).trans s5
        have la : acc.length ≤ 9 := by
          rw [fa.len, rowL_len]
          omega
        refine ⟨L, acc, _, rfl, rfl, hL5, small1000 (by omega), ?_⟩
        refine ⟨fun c o e => (upd_ne (ne_of_none e hLn)).trans (s35 c o e), acc ++ [.ref p], .ref b1, v7, upd_same, ?_, ⟨b1, xs1, rfl, nb1, ?_, FrAll.off hL5 (fx1.mono s5)⟩, rfl⟩
        · rw [rowL_succ]
          exact (FrAll.off hL5 (fa.mono (s4.trans s5))).snoc ((Fr.of upd_same).off hL5)
        · exact sqL_off nb1 (s5.seq sx1)
    · rintro σ H1 ⟨s3, acc, va, v7, hL1, fa, _, rfl⟩
      refine ⟨_, rfl, L, acc, rfl, Or.inl ⟨SqL.of hL1, fun p hp => ?_⟩⟩
      have s4 := same_new (o := .tup acc) hp
      exact kk _ _ (s3.trans s4) ⟨p, acc, rfl, SqT.of upd_same, fa.mono s4⟩
theorem scNeedTop : FnScope ["ladder", "top", "total", "levels", "steps", "most"] ["ladder", "top"] (defScope sNeedTop) := ⟨rfl, rfl, rfl, by decide +kernel, rfl, by decide +kernel, by decide +kernel⟩
theorem ok_needTop (F : Fun K "need_top" "need_top" sNeedTop f fd) (T : Blt mg) (M : Mosts mg) (HE : Cal P w K mg base 1 "has_end" (spHasEnd K)) (NB : CalX P w K mg base 3 "need_between" (spNeedB K CN)) : FnOk P w K mg base (L2.CX P w) 4 f fd ["ladder", "top"] (spNeedTop K CN) := by
  refine F.okX scNeedTop (fun vs H Q E h => ?_) (fun cdv A outer s0 H vs Q E hr h => ?_)
  · obtain ⟨v, t, T0, ls, ss, dt, rfl, _⟩ := h
    rfl
  · obtain ⟨v, t, T0, ls, ss, dt, rfl, lad, ht, k1, k2⟩ := h
    obtain ⟨t8, m8⟩ := M.m8
    obtain ⟨a, v1, v2, v3, rfl, sq, f1, ⟨b, xs, rfl, sx, fx⟩, c, ys, rfl, sy, fy⟩ := id lad
    have lx := fx.len
    have ly := fy.len
    refine ⟨_, pss_cons (ps_asg (pv 0) (pg_tup rfl (pgs_cons (pg_name (i := 2) scNeedTop.nd rfl (.inl rfl)) (pgs_cons (pg_name (i := 3) scNeedTop.nd rfl (.inl rfl)) (pgs_cons (pg_name (i := 4) scNeedTop.nd rfl (.inl rfl)) pgs_nil)))))
      (C8.pss_cut (ps_set (i := 5) scNeedTop.nd rfl (Or.inl rfl) (pe_ifExp (pt_val (pe_n HE hr (by decide) (by rfl) (pa_cons (pv 0) pa_nil))) (pe_glob (v := .int 8) (by rfl) m8 ⟨t8, rfl⟩)
          (pe_callB (call_min2 rfl) (by rfl) T.min (by decide +kernel) (pa_cons (pe_glob (v := .int 8) (by rfl) m8 ⟨t8, rfl⟩) (pa_cons (pe_op op_add (pe_callB call_len_seq (by rfl) T.len (by decide +kernel) (pa_cons (pv 3) pa_nil)) (pe_callB call_len_seq (by rfl) T.len (by decide +kernel) (pa_cons (pv 4) pa_nil))) pa_nil)))))
      (pss_one (ps_ret (pe_x (E := E) NB hr (by decide) (by rfl) (passes_call (takes_of rfl rfl rfl rfl) (fun _ _ _ _ h => h)) (pa_cons (pv 1) (pa_cons pe_int (pa_cons (pv 5) pa_nil))))))), ?_⟩
    refine ⟨_, rfl, a, _, rfl, sq, rfl, _, _, rfl, _, _, rfl, _, _, rfl, rfl, ?_⟩
    refine ⟨fun σ H1 => H1 = H ∧ σ = [some (V.ref a), some t, some v1, some (V.ref b), some (V.ref c), some (V.int (mostN ls ss))], ?_, ?_⟩
    · refine ⟨_, rfl, V.ref a, T0, ls, ss, rfl, lad, _, rfl, ?_⟩
      unfold mostN
      cases e : endB ss with
      | true =>
        refine iteT ?_
        rw [if_pos rfl]
        exact ⟨rfl, rfl⟩
      | false =>
        refine iteF ?_
        rw [if_neg (by decide)]
        refine ⟨_, rfl, b, xs, rfl, .inr sx, _, rfl, c, ys, rfl, .inr sy, _, _, rfl, rfl, _, _, rfl, ?_⟩
        rw [lx, ly]
        exact ⟨rfl, rfl⟩
    · rintro σ H1 ⟨rfl, rfl⟩
      exact ⟨_, rfl, _, rfl, t, dt, 0, mostN ls ss, rfl, ht, k1, k2⟩
theorem scRowOf : FnScope ["ladder", "top"] ["ladder", "top"] (defScope sRowOf) := ⟨rfl, rfl, rfl, by decide +kernel, rfl, by decide +kernel, by decide +kernel⟩
theorem ok_rowOf (F : Fun K "row_of" "row_of" sRowOf f fd) (NT : CalX P w K mg base 4 "need_top" (spNeedTop K CN)) (NL : CalX P w K mg base 5 "need_ladder" (spNeedLad K CL)) (RT : Cal P w K mg base 4 "row_to" (spRowTo K)) : FnOk P w K mg base (L2.CX P w) 6 f fd ["ladder", "top"] (spRowOf K CL CN) := by
  refine F.okX scRowOf (fun vs H Q E h => ?_) (fun cdv A outer s0 H vs Q E hr h => ?_)
  · obtain ⟨v, t, dv, dt, rfl, _⟩ := h
    rfl
  · obtain ⟨v, t, dv, dt, rfl, hv, ht, k1, k2⟩ := h
    refine ⟨_, pss_cons (ps_expr (pe_x (E := E) NT hr (by decide) (by rfl) (passes_call (takes_of rfl rfl rfl rfl) (fun _ _ _ _ h => h)) (pa_cons (pe_x (E := E) NL hr (by decide) (by rfl) (passes_call (takes_of rfl rfl rfl rfl) (fun _ _ _ _ h => h)) (pa_cons (pv 0) pa_nil)) (pa_cons (pv 1) pa_nil))))
      (pss_one (ps_ret (pe_n RT hr (by decide) (by rfl) (pa_cons (pv 0) (pa_cons (pv 1) pa_nil))))), ?_⟩
    refine ⟨_, rfl, v, dv, rfl, hv, fun e H1 s1 => ?_, fun e H1 s1 => k1 e H1 s1⟩
    obtain ⟨T0, ls, ss, rfl, l1, l2, l3, l4⟩ := ladderD_true e
    obtain ⟨k3, k4⟩ := k2 T0 ls ss rfl e
    have lad := (lad_of hv).mono s1
    refine ⟨_, rfl, v, t, T0, ls, ss, dt, rfl, lad, dps s1 ht, fun e2 => ?_, fun e2 => k3 e2 H1 s1⟩
    have hk : ∃ k : Int, dt = .int k ∧ 0 ≤ k ∧ k ≤ mostN ls ss := by
      cases dt <;> simp [betwD] at e2
      rename_i i
      exact ⟨i, rfl, e2.1, e2.2⟩
    obtain ⟨n, rfl, n0, n1⟩ := hk
    obtain ⟨zT, zl, zb, kk⟩ := k4 n rfl n0 n1
    have n8 : n ≤ 8 := by
      unfold mostN at n1
      split at n1
      · exact n1
      · split at n1 <;> omega
    cases ht
    exact ⟨_, rfl, _, rfl, v, T0, ls, ss, n, rfl, lad, zT, zl, zb, n0, n8, fun H' u s2 p => kk H' u (s1.trans s2) p⟩
end
end Rs


set_option Elab.async false
set_option linter.all false
set_option maxRecDepth 100000
set_option maxHeartbeats 1000000
namespace Rs
open PySem L2 Bs Fq LamX RZ
abbrev sLSum : Stmt := top 50
abbrev sLLesser : Stmt := top 53
def spLSum (K : PySem.W.Frag) : Sp := fun vs H Q _ => ∃ (a : Addr) (xs : List V) (qs : List F) (n : Nat), vs = [.ref a] ∧ SqL K H a xs ∧ FrAll K H xs qs ∧ Za n qs ∧ n + qs.length ≤ 400 ∧ ∀ H' u, Same H H' → Fr K H' u (sumF (0, 1) qs) → Q u H'
def rLenK (K : PySem.W.Frag) : List V → Hp → VK → Prop := fun xs H Q => ∃ p ys, xs = [V.ref p] ∧ (SqL K H p ys ∨ SqT K H p ys) ∧ Q (.int ys.length) H
theorem sumF_zs {n : Nat} : ∀ {l : List F} {m : Nat} {z : F}, Za n l → Zs m z → n ≤ m → Zs (m + l.length) (sumF z l)
  | [], _, _, _, hz, _ => hz
  | q :: l, m, z, h, hz, e => by
    have a := hz.add ((h q List.mem_cons_self).mono e)
    have b := sumF_zs (l := l) (m := m + 1) (z := add z q) (fun r hr => h r (List.mem_cons_of_mem _ hr)) a (by omega)
    refine b.mono ?_
    rw [List.length_cons]
    omega
/-- _law_lesser(one, far) -/
def spLLesser (K : PySem.W.Frag) : Sp := fun vs H Q _ => ∃ (x y : V) (a b : List F) (n : Nat), vs = [x, y] ∧ Ls K H x a ∧ Ls K H y b ∧ Za n a ∧ Za n b ∧ n ≤ 400 ∧ a.length ≤ 500 ∧ ∀ H' p xs, Same H H' → H p = none → H' p = some (.lst xs) → FrAll K H' xs (lsr a b) → Q (.ref p) H'
section
variable {P : Program} {w : World} {K : PySem.W.Frag} {mg : Str → Option Value} {base : Heap} {f : Addr} {fd : FuncData}
theorem scLSum : FnScope ["some", "found", "one"] ["some"] (defScope sLSum) := ⟨rfl, rfl, rfl, by decide +kernel, rfl, by decide +kernel, by decide +kernel⟩
theorem ok_lsum (F : Fun K "_law_sum" "_law_sum" sLSum f fd) (lP : Cal P w K mg base 2 "_law_plus" (spOp K add domL)) : FnOk P w K mg base CX0 3 f fd ["some"] (spLSum K) := by
  refine F.ok scLSum (fun vs H Q E h => ?_) (fun cdv A outer s H vs Q E hr h => ?_)
  · obtain ⟨a, xs, qs, n, rfl, _⟩ := h
    rfl
  · obtain ⟨a, xs, qs, n, rfl, sx, fx, hq, lq, kk⟩ := h
    refine ⟨_, pss_cons (ps_set (i := 1) scLSum.nd rfl (Or.inl rfl) (pe_tup (pa_cons pe_int (pa_cons pe_int pa_nil))))
      (pss_cons (ps_for PassesOwn.never rfl (pi_list (pv 0)) (pg_name (i := 2) scLSum.nd rfl (Or.inl rfl)) (pss_one (ps_set (i := 1) scLSum.nd rfl (Or.inl rfl) (pe_n lP hr (by decide) (by rfl) (pa_cons (pv 1) (pa_cons (pv 2) pa_nil))))))
      (pss_one (ps_ret (pv 1)))), ?_⟩
    have lx := fx.len
    refine ⟨(by show 2 ≤ sizeLine; decide), fun z hz => ?_⟩
    have s0 := same_new (o := .tup [.int 0, .int 1]) hz
    refine ⟨_, rfl, a, rfl, ⟨_, s0.seq sx⟩, for_list (xs := xs) (fun i σ H1 => Same H H1 ∧ ∃ u v2, Fr K H1 u (sumF (0, 1) (qs.take i)) ∧ σ = [some (V.ref a), some u, v2])
      ⟨s0, .ref z, none, Fr.of upd_same, rfl⟩ (fun i σ H1 _ p => p.1.seq sx) ?_ ?_⟩
    · rintro i x σ H1 hx ⟨s1, u, v2, fu, rfl⟩
      obtain ⟨hi, _⟩ := List.getElem?_eq_some_iff.mp hx
      obtain ⟨x1, q, e1, e2, fq⟩ := fx.get (i := i) (by omega)
      rw [hx] at e1
      cases e1
      have sz := sumF_zs (l := qs.take i) (n := n) (m := n) (z := (0, 1)) (fun q h => hq q (List.mem_of_mem_take h)) Zs.zero (Nat.le_refl _)
      have lt_ : (qs.take i).length ≤ qs.length := by rw [List.length_take]; omega
      refine ⟨_, rfl, _, rfl, u, x, _, q, rfl, fu, fq.mono s1, ⟨zs_dl sz (by omega), zs_dl (hq q (List.mem_of_getElem? e2)) (by omega)⟩, fun p hp => ?_⟩
      have s2 := same_new (o := fr (add (sumF (0, 1) (qs.take i)) q)) hp
      refine ⟨s1.trans s2, .ref p, some x, ?_, rfl⟩
      rw [take_one e2, sumF_snoc]
      exact Fr.of upd_same
    · rintro σ H1 ⟨s1, u, v2, fu, rfl⟩
      rw [lx, List.take_length] at fu
      exact ⟨_, rfl, kk H1 u s1 fu⟩
theorem scLLesser : FnScope ["one", "far", "k", "top"] ["one", "far"] (defScope sLLesser) := ⟨rfl, rfl, rfl, by decide +kernel, rfl, by decide +kernel, by decide +kernel⟩
theorem ok_llesser (F : Fun K "_law_lesser" "_law_lesser" sLLesser f fd) (T : Blt mg) (en : mg "enumerate" = none) (lL : Cal P w K mg base 2 "_law_less" (spOp K sub domL)) : FnOk P w K mg base CX0 3 f fd ["one", "far"] (spLLesser K) := by
  refine F.ok scLLesser (fun vs H Q E h => ?_) (fun cdv A outer s H vs Q E hr h => ?_)
  · obtain ⟨x, y, a, b, n, rfl, _⟩ := h
    rfl
  · obtain ⟨x, y, a, b, n, rfl, ⟨p, xs, rfl, sx, fx⟩, ⟨r, ys, rfl, sy, fy⟩, za, zb, hn, l5, kk⟩ := h
    have lx := fx.len
    have ly := fy.len
    refine ⟨_, pss_one (ps_ret (pe_lc (own := [("k", 2), ("top", 3)]) (g := gTup K 2 (gCons (gName 2) (gCons (gName 3) gNil))) (tt := tYes) rfl scLLesser.nd
          (pi_enum (by rfl) en (pa_cons (pv 0) pa_nil)) (blkOk_by (N := ["one", "far", "k", "top"]) (sc := defScope sLLesser) (by decide +kernel))
          (fun _ _ _ _ _ => pg_tup rfl (pgs_cons (pg_name (i := 2) scLLesser.nd rfl (Or.inl rfl)) (pgs_cons (pg_name (i := 3) scLLesser.nd rfl (Or.inl rfl)) pgs_nil))) (fun _ _ _ _ _ => pts_nil)
          (fun _ _ _ _ _ => pe_ifExp (pt_cmpR op_lt (pv 2) (pe_callB (id := "len") (r := rLenK K) call_len_seq (by rfl) T.len (by decide +kernel) (pa_cons (pv 1) pa_nil)) (nomark _))
            (pe_n lL hr (by decide) (by rfl) (pa_cons (pv 3) (pa_cons (pe_ix (r := rIxL K) ix_list (pv 1) (pv 2) (fun _ _ => rfl)) pa_nil))) (pv 3)))), ?_⟩
    refine ⟨_, rfl, p, xs, rfl, sx, fun D hD => ?_⟩
    refine lc_it walk_enum (fun i H4 => Same H H4 ∧ ∃ acc, H4 D = some (.lst acc) ∧ FrAll K H4 acc ((lsr a b).take i)) ⟨same_new hD, [], upd_same, .nil⟩ (fun i H4 _ z => z.1.seq sx) ?_ ?_
    · rintro i x H4 H5 hi ⟨s4, acc, hD4, fac⟩ ⟨T', x', y', rfl, hT, rfl, h1, h2⟩
      cases h1
      have h2' : xs[i]? = some y' := h2
      have s5 := same_new (o := .tup [.int (i : Nat), y']) hT
      have s45 := s4.trans s5
      obtain ⟨x1, q, e1, e2, fq⟩ := fx.get (i := i) (by omega)
      rw [h2'] at e1
      cases e1
      have hi' : i < a.length := by omega
      have el : (lsr a b)[i]? = some (if i < b.length then sub (co a i) (co b i) else co a i) := by
        unfold lsr
        rw [List.getElem?_map, List.getElem?_range hi']
        rfl
      have eq_ : co a i = q := co_get e2
      have la : acc.length ≤ 500 := by
        rw [fac.len, List.length_take, lsr_len]
        omega
      refine ⟨T', _, rfl, SqT.of upd_same, rfl, _, _, rfl, _, _, rfl, rfl, rfl, ?_⟩
      refine iteT (B := Same H (upd H4 T' (.tup [.int (i : Nat), y'])) ∧ ∃ acc, upd H4 T' (.tup [.int (i : Nat), y']) D = some (.lst acc) ∧ FrAll K (upd H4 T' (.tup [.int (i : Nat), y'])) acc ((lsr a b).take (i + 1))) ?_
      refine ⟨_, rfl, _, rfl, r, ys, rfl, .inl (s45.seq sy), _, _, rfl, rfl, _, rfl, ?_⟩
      refine ite2 (fun c => ?_) (fun c => ?_)
      · have hb : i < b.length := by
          have := of_decide_eq_true c
          omega
        obtain ⟨u, g1, g2⟩ := Ls.at (i := i) fy hb
        refine ⟨_, rfl, _, rfl, _, rfl, r, ys, _, u, rfl, rfl, s45.seq sy, atI_nat g1, y', u, q, co b i, rfl, fq.mono s45, g2.mono s45, ⟨by rw [← eq_]; exact zs_dl (za.co i) (by omega), zs_dl (zb.co i) (by omega)⟩, fun p2 hp2 => ?_⟩
        have s6 := same_new (o := fr (sub q (co b i))) hp2
        have s56 := s5.trans s6
        refine ⟨acc, s56 _ _ hD4, small1000 (by omega), fun c o e => (upd_ne (ne_of_none e hD)).trans (s56 c o (s4 c o e)), acc ++ [.ref p2], upd_same, ?_⟩
        rw [take_one el, if_pos hb, eq_]
        exact (FrAll.off (s56 _ _ hD4) (fac.mono s56)).snoc ((Fr.of upd_same).off (s56 _ _ hD4))
      · have hb : ¬ i < b.length := fun z => c (decide_eq_true (by omega))
        refine ⟨_, rfl, acc, s5 _ _ hD4, small1000 (by omega), fun c o e => (upd_ne (ne_of_none e hD)).trans (s5 c o (s4 c o e)), acc ++ [y'], upd_same, ?_⟩
        rw [take_one el, if_neg hb, eq_]
        exact (FrAll.off (s5 _ _ hD4) (fac.mono s5)).snoc ((fq.mono s45).off (s5 _ _ hD4))
    · rintro H4 ⟨s4, acc, hD4, fac⟩
      rw [List.take_of_length_le (by rw [lsr_len, lx]; exact Nat.le_refl _)] at fac
      exact kk H4 D acc s4 hD hD4 fac
end
end Rs


set_option Elab.async false
set_option linter.all false
set_option maxRecDepth 100000
set_option maxHeartbeats 1000000
namespace Rs
open PySem L2 Bs Fq LamX RZ
/-- lists of fractions, none at L -/
inductive LsAll (K : PySem.W.Frag) (L : Addr) (H : Hp) : List V → List (List F) → Prop
  | nil : LsAll K L H [] []
  | cons {a : Addr} {xs : List V} {vs : List V} {q : List F} {qs : List (List F)} : a ≠ L → H a = some (.lst xs) → FrAll K H xs q → LsAll K L H vs qs → LsAll K L H (.ref a :: vs) (q :: qs)
theorem LsAll.mono {K : PySem.W.Frag} {L : Addr} {H H' : Hp} (e : Same H H') : ∀ {vs : List V} {qs : List (List F)}, LsAll K L H vs qs → LsAll K L H' vs qs
  | _, _, .nil => .nil
  | _, _, .cons n h a b => .cons n (e _ _ h) (a.mono e) (LsAll.mono e b)
theorem LsAll.len {K : PySem.W.Frag} {L : Addr} {H : Hp} : ∀ {vs : List V} {qs : List (List F)}, LsAll K L H vs qs → vs.length = qs.length
  | _, _, .nil => rfl
  | _, _, .cons _ _ _ b => congrArg (· + 1) (LsAll.len b)
theorem LsAll.snoc {K : PySem.W.Frag} {L : Addr} {H : Hp} {a : Addr} {xs : List V} {q : List F} : ∀ {vs : List V} {qs : List (List F)}, LsAll K L H vs qs → a ≠ L → H a = some (.lst xs) → FrAll K H xs q → LsAll K L H (vs ++ [.ref a]) (qs ++ [q])
  | _, _, .nil, n, h, f => .cons n h f .nil
  | _, _, .cons n' h' f' b, n, h, f => .cons n' h' f' (LsAll.snoc b n h f)
theorem LsAll.off {K : PySem.W.Frag} {L : Addr} {H : Hp} {acc : List V} {o : HO} (hL : H L = some (.lst acc)) : ∀ {vs : List V} {qs : List (List F)}, LsAll K L H vs qs → LsAll K L (upd H L o) vs qs
  | _, _, .nil => .nil
  | _, _, .cons n h f b => .cons n ((upd_ne n).trans h) (f.off hL) (LsAll.off hL b)
theorem LsAll.get {K : PySem.W.Frag} {L : Addr} {H : Hp} : ∀ {vs : List V} {qs : List (List F)} {i : Nat}, LsAll K L H vs qs → i < qs.length → ∃ a xs q, vs[i]? = some (.ref a) ∧ qs[i]? = some q ∧ a ≠ L ∧ H a = some (.lst xs) ∧ FrAll K H xs q
  | _, _, 0, .cons n h f _, _ => ⟨_, _, _, rfl, rfl, n, h, f⟩
  | _, _, i + 1, .cons _ _ _ b, h => by
    obtain ⟨a, xs, q, h1, h2, h3⟩ := LsAll.get (i := i) b (by simp only [List.length_cons] at h; omega)
    exact ⟨a, xs, q, h1, h2, h3⟩
  | _, _, _, .nil, h => absurd h (by simp)
abbrev sLRuled : Stmt := top 58
def spLRuled (K : PySem.W.Frag) : Sp := fun vs H Q _ => ∃ (v : V) (T : F) (ls ss : List F), vs = [v] ∧ Lad K H v T ls ss ∧ Za 1 ls ∧ Za 1 ss ∧ ls.length ≤ 5 ∧ ls.length ≤ ss.length + 1 ∧
  ∀ H' L xs, Same H H' → H L = none → H' L = some (.lst xs) → LsAll K L H' xs (rungs ls ss) → Q (.ref L) H'
theorem ruled_step (ls ss : List F) (k : Nat) : ruled ls ss (k + 1) = if k = 0 then lsr ((0, 1) :: ruled ls ss k) (scl (co ls k) (ruled ls ss k)) else lsr (lsr ((0, 1) :: ruled ls ss k) (scl (co ls k) (ruled ls ss k))) (scl (co ss (k - 1)) (ruled ls ss (k - 1))) := by
  cases k with
  | zero => rfl
  | succ k => rfl
abbrev NRu : List Str := ["ladder_so", "total", "levels", "steps", "rungs", "k", "level", "late", "one"]
section
variable {P : Program} {w : World} {K : PySem.W.Frag} {mg : Str → Option Value} {base : Heap} {f : Addr} {fd : FuncData}
theorem scLRuled : FnScope NRu ["ladder_so"] (defScope sLRuled) := ⟨rfl, rfl, rfl, by decide +kernel, rfl, by decide +kernel, by decide +kernel⟩
theorem ok_lruled (F : Fun K "_law_ruled" "_law_ruled" sLRuled f fd) (en : mg "enumerate" = none) (lT : Cal P w K mg base 2 "_law_times" (spOp K mul domL)) (LL : Cal P w K mg base 3 "_law_lesser" (spLLesser K)) : FnOk P w K mg base CX0 4 f fd ["ladder_so"] (spLRuled K) := by
  refine F.ok scLRuled (fun vs H Q E h => ?_) (fun cdv A outer s0 H vs Q E hr h => ?_)
  · obtain ⟨v, T0, ls, ss, rfl, _⟩ := h
    rfl
  · obtain ⟨v, T0, ls, ss, rfl, ⟨a, v1, v2, v3, rfl, sq, f1, ⟨b, xs, rfl, sx, fx⟩, c, ys, rfl, sy, fy⟩, zl, zs, l5, ll, kk⟩ := h
    have lx := fx.len
    have ly := fy.len
    refine ⟨_, pss_cons (ps_asg (pv 0) (pg_tup rfl (pgs_cons (pg_name (i := 1) scLRuled.nd rfl (.inl rfl)) (pgs_cons (pg_name (i := 2) scLRuled.nd rfl (.inl rfl)) (pgs_cons (pg_name (i := 3) scLRuled.nd rfl (.inr rfl)) pgs_nil)))))
      (pss_cons (ps_set (i := 4) scLRuled.nd rfl (Or.inl rfl) (pe_lst (pa_cons (pe_lst (pa_cons (pe_tup (pa_cons pe_int (pa_cons pe_int pa_nil))) pa_nil)) pa_nil)))
      (pss_cons (ps_for PassesOwn.never rfl (EnT.pi_enumT (by rfl) en (pa_cons (pv 2) pa_nil)) (pg_tup rfl (pgs_cons (pg_name (i := 5) scLRuled.nd rfl (.inr rfl)) (pgs_cons (pg_name (i := 6) scLRuled.nd rfl (.inr rfl)) pgs_nil)))
        (C8.pss_cut (ps_set (i := 7) scLRuled.nd rfl (Or.inl rfl) (pe_n LL hr (by decide) (by rfl) (pa_cons (pe_op op_cat (pe_lst (pa_cons (pe_tup (pa_cons pe_int (pa_cons pe_int pa_nil))) pa_nil)) (pe_ix ix_list (pv 4) (pv 5) (fun _ _ => rfl)))
            (pa_cons (pe_lc (own := [("one", 8)]) (g := gName 8) (tt := tYes) rfl scLRuled.nd (pi_list (pe_ix ix_list (pv 4) (pv 5) (fun _ _ => rfl))) (blkOk_by (N := NRu) (sc := defScope sLRuled) (by decide +kernel))
              (fun _ _ _ _ _ => pg_name (i := 8) scLRuled.nd rfl (Or.inl rfl)) (fun _ _ _ _ _ => pts_nil)
              (fun _ _ _ _ _ => pe_n lT hr (by decide) (by rfl) (pa_cons (pv 6) (pa_cons (pv 8) pa_nil)))) pa_nil))))
        (C8.pss_cut (ps_if (pt_cmpR op_gt (pv 5) pe_int (nomark _))
          (pss_one (ps_set (i := 7) scLRuled.nd rfl (Or.inl rfl) (pe_n LL hr (by decide) (by rfl) (pa_cons (pv 7)
            (pa_cons (pe_lc (own := [("one", 8)]) (g := gName 8) (tt := tYes) rfl scLRuled.nd (pi_list (pe_ix ix_list (pv 4) (pe_op op_sub (pv 5) pe_int) (fun _ _ => rfl))) (blkOk_by (N := NRu) (sc := defScope sLRuled) (by decide +kernel))
              (fun _ _ _ _ _ => pg_name (i := 8) scLRuled.nd rfl (Or.inl rfl)) (fun _ _ _ _ _ => pts_nil)
              (fun _ _ _ _ _ => pe_n lT hr (by decide) (by rfl) (pa_cons (pe_ix (r := rIxT K) ix_tup (pv 3) (pe_op (r := rI0 fun i j => .int (i - j)) op_sub (pv 5) pe_int) (fun _ _ => rfl)) (pa_cons (pv 8) pa_nil)))) pa_nil))))) pss_nil)
        (pss_one (ps_expr (pe_bm PySem.F.plainAttrs_list PySem.F.slot_list_append PySem.F.type_list_append mt_append (pv 4) (pa_cons (pv 7) pa_nil)))))))
      (pss_one (ps_ret (pv 4))))), ?_⟩
    refine ⟨_, rfl, a, _, rfl, sq, rfl, _, _, rfl, _, _, rfl, _, _, rfl, rfl, ?_⟩
    refine ⟨(by show 2 ≤ sizeLine; decide), fun t1 ht1 => ⟨(by show 1 ≤ sizeLine; decide), fun L1 hL1 => ⟨(by show 1 ≤ sizeLine; decide), fun L hL => ?_⟩⟩⟩
    have r1 := same_new (o := .tup [.int 1, .int 1]) ht1
    have r2 := same_new (o := .lst [V.ref t1]) hL1
    have r3 := same_new (o := .lst [V.ref L1]) hL
    have r12 := r1.trans r2
    have hLn : H L = none := r12.free hL
    have fo : Fr K (upd (upd (upd H t1 (.tup [.int 1, .int 1])) L1 (.lst [V.ref t1])) L (.lst [V.ref L1])) (.ref t1) (1, 1) := ((Fr.of upd_same).mono r2).mono r3
    have gl1 : upd (upd (upd H t1 (.tup [.int 1, .int 1])) L1 (.lst [V.ref t1])) L (.lst [V.ref L1]) L1 = some (.lst [V.ref t1]) := r3 _ _ upd_same
    have gL : upd (upd (upd H t1 (.tup [.int 1, .int 1])) L1 (.lst [V.ref t1])) L (.lst [V.ref L1]) L = some (.lst [V.ref L1]) := upd_same
    have nl : L1 ≠ L := fun z => by
      subst z
      rw [upd_same] at hL
      cases hL
    have r13 := r12.trans r3
    generalize upd (upd (upd H t1 (.tup [.int 1, .int 1])) L1 (.lst [V.ref t1])) L (.lst [V.ref L1]) = H0 at *
    clear r1 r2 r3 r12
    refine ⟨_, rfl, b, xs, rfl, Bs.Same.t r13 sx, ?_⟩
    refine for_it (walk_enumT (xs := xs)) (fun i σ H1 => Same H H1 ∧ ∃ acc v5 v6 v7, H1 L = some (.lst acc) ∧ LsAll K L H1 acc ((List.range (i + 1)).map (ruled ls ss)) ∧ σ = [some (V.ref a), some v1, some (V.ref b), some (V.ref c), some (V.ref L), v5, v6, v7, none])
      ⟨r13, [.ref L1], none, none, none, gL, .cons nl gl1 (.cons fo .nil) .nil, rfl⟩ (fun i σ H1 _ p => Bs.Same.t p.1 sx) ?_ ?_
    · rintro i x' σ H1 H2 hi ⟨s1, acc, v5, v6, v7, hL1', la, rfl⟩ ⟨T', x1, y1, rfl, hT, rfl, h1, h2⟩
      cases h1
      have h2' : xs[i]? = some y1 := h2
      have s2 := same_new (o := .tup [.int (i : Nat), y1]) hT
      have s12 := s1.trans s2
      obtain ⟨w1, q, e1, e2, fq⟩ := fx.get (i := i) (by omega)
      rw [h2'] at e1
      cases e1
      have eq_ : co ls i = q := co_get e2
      have zq : Zs 1 q := by
        rw [← eq_]
        exact zl.co i
      have lacc : acc.length = i + 1 := by rw [la.len, List.length_map, List.length_range]
      obtain ⟨r, zs', here, g1, g2, g3, g4, g5⟩ := la.get (i := i) (by rw [List.length_map, List.length_range]; omega)
      have eh : here = ruled ls ss i := by
        rw [List.getElem?_map, List.getElem?_range (by omega)] at g2
        cases g2
        rfl
      have hp := ruled_pf zl zs i
      rw [← eh] at hp
      have lz : zs'.length = i + 1 := by rw [g5.len, hp.l]
      have la2 := la.mono s2
      have hL2 := s2 _ _ hL1'
      have g42 := s2 _ _ g4
      have g52 := g5.mono s2
      have f2 := fq.mono s12
      refine ⟨T', _, rfl, SqT.of upd_same, rfl, _, _, rfl, _, _, rfl, rfl, ?_⟩
      generalize upd H1 T' (.tup [.int (i : Nat), y1]) = H2 at *
      refine ⟨fun σ H3 => ∃ p zs2, Same H H3 ∧ H3 L = some (.lst acc) ∧ LsAll K L H3 acc ((List.range (i + 1)).map (ruled ls ss)) ∧ p ≠ L ∧ H3 p = some (.lst zs2) ∧ FrAll K H3 zs2 (lsr ((0, 1) :: here) (scl q here)) ∧ σ = [some (V.ref a), some v1, some (V.ref b), some (V.ref c), some (V.ref L), some (V.int i), some y1, some (V.ref p), none], ?_, ?_⟩
      · refine ⟨(by show 2 ≤ sizeLine; decide), fun t2 ht2 => ⟨(by show 1 ≤ sizeLine; decide), fun p1 hp1 => ?_⟩⟩
        have s3 := same_new (o := .tup [.int 0, .int 1]) ht2
        have s4 := same_new (o := .lst [V.ref t2]) hp1
        have s34 := s3.trans s4
        have fz : Fr K (upd (upd H2 t2 (.tup [.int 0, .int 1])) p1 (.lst [V.ref t2])) (.ref t2) (0, 1) := (Fr.of upd_same).mono s4
        have gp1 : upd (upd H2 t2 (.tup [.int 0, .int 1])) p1 (.lst [V.ref t2]) p1 = some (.lst [V.ref t2]) := upd_same
        generalize upd (upd H2 t2 (.tup [.int 0, .int 1])) p1 (.lst [V.ref t2]) = H3 at *
        refine ⟨_, rfl, _, rfl, L, acc, _, .ref r, rfl, rfl, SqL.of (s34 _ _ hL2), atI_nat g1, p1, r, [.ref t2], zs', rfl, rfl, gp1, s34 _ _ g42, Nat.le_of_lt (small1000 (by rw [lz]; show 1 + _ ≤ 1000; omega)), fun p2 hp2 => ?_⟩
        have s5 := same_new (o := .lst ([V.ref t2] ++ zs')) hp2
        have gp2 : upd H3 p2 (.lst ([V.ref t2] ++ zs')) p2 = some (.lst ([V.ref t2] ++ zs')) := upd_same
        have s35 := s34.trans s5
        have fz5 := fz.mono s5
        generalize upd H3 p2 (.lst ([V.ref t2] ++ zs')) = H4 at *
        refine ⟨_, rfl, _, rfl, L, acc, _, .ref r, rfl, rfl, SqL.of (s35 _ _ hL2), atI_nat g1, r, rfl, ⟨_, SqL.of (s35 _ _ g42)⟩, fun D hD => ?_⟩
        refine lc_list (K := K) (a := r) (xs := zs') (fun j H5 => Same H4 H5 ∧ ∃ bc, H5 D = some (.lst bc) ∧ FrAll K H5 bc ((scl q here).take j)) ⟨same_new hD, [], upd_same, .nil⟩ (fun j H5 _ z => SqL.of (z.1 _ _ (s35 _ _ g42))) ?_ ?_
        · rintro j x H5 hx ⟨s6, bc, hD5, fb⟩
          have hj : j < zs'.length := (List.getElem?_eq_some_iff.mp hx).1
          obtain ⟨w2, g, e3, e4, fg⟩ := g52.get (i := j) (by rw [hp.l]; omega)
          rw [hx] at e3
          cases e3
          have et : (scl q here)[j]? = some (mul q g) := by
            unfold scl
            rw [List.getElem?_map, e4]
            rfl
          have lb : bc.length ≤ 6 := by
            rw [fb.len, List.length_take, show (scl q here).length = i + 1 by unfold scl; rw [List.length_map, hp.l]]
            omega
          have s36 := s35.trans s6
          refine ⟨rfl, ?_⟩
          refine iteT (B := Same H4 H5 ∧ ∃ bc, H5 D = some (.lst bc) ∧ FrAll K H5 bc ((scl q here).take (j + 1))) ?_
          refine ⟨_, rfl, _, rfl, y1, x, q, g, rfl, f2.mono s36, fg.mono s36, ⟨zs_dl zq, zs_dl (hp.z g (List.mem_of_getElem? e4))⟩, fun p3 hp3 => ?_⟩
          have s7 := same_new (o := fr (mul q g)) hp3
          refine ⟨bc, s7 _ _ hD5, small1000 (by omega), fun c o e => (upd_ne (ne_of_none e hD)).trans (s7 c o (s6 c o e)), bc ++ [.ref p3], upd_same, ?_⟩
          rw [take_one et]
          exact (FrAll.off (s7 _ _ hD5) (fb.mono s7)).snoc ((Fr.of upd_same).off (s7 _ _ hD5))
        · rintro H5 ⟨s6, bc, hD5, fb⟩
          have s36 := s35.trans s6
          obtain ⟨c1, _, c3⟩ := scl_ok zq hp.z
          rw [List.take_of_length_le (by rw [c3, hp.l]; omega)] at fb
          refine ⟨.ref p2, .ref D, (0, 1) :: here, scl q here, 3 * i + 1, rfl, ⟨p2, _, rfl, SqL.of (s6 _ _ gp2), .cons (fz5.mono s6) (g52.mono s36)⟩, ⟨D, bc, rfl, SqL.of hD5, fb⟩, (shift_ok hp.z).1.mono (by omega), c1.mono (by omega), by omega, by rw [List.length_cons, hp.l]; omega, fun H6 p3 zs3 s8 n8 g8 f8 => ?_⟩
          have s38 := s36.trans s8
          refine ⟨p3, zs3, s12.trans s38, s38 _ _ hL2, la2.mono s38, (fun z => by rw [z, s36 _ _ hL2] at n8; cases n8), g8, f8, rfl⟩
      · rintro σ H3 ⟨p, zs2, s3, hL3, la3, np, gp, fp, rfl⟩
        obtain ⟨c1, _, c3⟩ := scl_ok zq hp.z
        have shz := (shift_ok hp.z).1
        have zl1 := (lsr_ok (shz.mono (m := 1 + 3 * i) (by omega)) c1 (by rw [c3, List.length_cons]; omega)).1
        refine ⟨fun σ H3 => ∃ p zs2, Same H H3 ∧ H3 L = some (.lst acc) ∧ LsAll K L H3 acc ((List.range (i + 1)).map (ruled ls ss)) ∧ p ≠ L ∧ H3 p = some (.lst zs2) ∧ FrAll K H3 zs2 (ruled ls ss (i + 1)) ∧ σ = [some (V.ref a), some v1, some (V.ref b), some (V.ref c), some (V.ref L), some (V.int i), some y1, some (V.ref p), none], ?_, ?_⟩
        · refine ⟨_, rfl, _, _, rfl, rfl, _, rfl, ?_⟩
          refine ite2 (fun c0 => ?_) (fun c0 => ?_)
          · have i0 : ¬ i = 0 := fun z => by
              have := of_decide_eq_true c0
              omega
            have ei : (i : Int) - 1 = ((i - 1 : Nat) : Int) := by omega
            obtain ⟨r', zs4, prev, k1, k2, k3, k4, k5⟩ := la3.get (i := i - 1) (by rw [List.length_map, List.length_range]; omega)
            have ep : prev = ruled ls ss (i - 1) := by
              rw [List.getElem?_map, List.getElem?_range (by omega)] at k2
              cases k2
              rfl
            have hpp := ruled_pf zl zs (i - 1)
            rw [← ep] at hpp
            obtain ⟨u, m1, m2⟩ := Ls.at (i := i - 1) fy (by omega)
            have zu := zs.co (i - 1)
            refine ⟨_, rfl, _, rfl, _, rfl, _, _, rfl, rfl, L, acc, _, .ref r', rfl, rfl, SqL.of hL3, (by rw [ei]; exact atI_nat k1), r', rfl, ⟨_, SqL.of k4⟩, fun D hD => ?_⟩
            refine lc_list (K := K) (a := r') (xs := zs4) (fun j H5 => Same H3 H5 ∧ ∃ bc, H5 D = some (.lst bc) ∧ FrAll K H5 bc ((scl (co ss (i - 1)) prev).take j)) ⟨same_new hD, [], upd_same, .nil⟩ (fun j H5 _ z => SqL.of (z.1 _ _ k4)) ?_ ?_
            · rintro j x H5 hx ⟨s6, bc, hD5, fb⟩
              have hj : j < zs4.length := (List.getElem?_eq_some_iff.mp hx).1
              have l4 := k5.len
              obtain ⟨w2, g, e3, e4, fg⟩ := k5.get (i := j) (by omega)
              rw [hx] at e3
              cases e3
              have et : (scl (co ss (i - 1)) prev)[j]? = some (mul (co ss (i - 1)) g) := by
                unfold scl
                rw [List.getElem?_map, e4]
                rfl
              have lb : bc.length ≤ 6 := by
                rw [fb.len, List.length_take, show (scl (co ss (i - 1)) prev).length = i - 1 + 1 by unfold scl; rw [List.length_map, hpp.l]]
                omega
              refine ⟨rfl, ?_⟩
              refine iteT (B := Same H3 H5 ∧ ∃ bc, H5 D = some (.lst bc) ∧ FrAll K H5 bc ((scl (co ss (i - 1)) prev).take (j + 1))) ?_
              refine ⟨_, rfl, _, rfl, _, _, rfl, rfl, c, ys, _, u, rfl, rfl, Bs.Same.t (s3.trans s6) sy, (by rw [ei]; exact atI_nat m1), _, rfl, u, x, co ss (i - 1), g, rfl, m2.mono (s3.trans s6), fg.mono s6, ⟨zs_dl zu, zs_dl (hpp.z g (List.mem_of_getElem? e4))⟩, fun p3 hp3 => ?_⟩
              have s7 := same_new (o := fr (mul (co ss (i - 1)) g)) hp3
              refine ⟨bc, s7 _ _ hD5, small1000 (by omega), fun c o e => (upd_ne (ne_of_none e hD)).trans (s7 c o (s6 c o e)), bc ++ [.ref p3], upd_same, ?_⟩
              rw [take_one et]
              exact (FrAll.off (s7 _ _ hD5) (fb.mono s7)).snoc ((Fr.of upd_same).off (s7 _ _ hD5))
            · rintro H5 ⟨s6, bc, hD5, fb⟩
              obtain ⟨d1, _, d3⟩ := scl_ok zu hpp.z
              have l4 := k5.len
              rw [List.take_of_length_le (by rw [d3, l4]; omega)] at fb
              refine ⟨.ref p, .ref D, lsr ((0, 1) :: here) (scl q here), scl (co ss (i - 1)) prev, 1 + 3 * i + 1, rfl, ⟨p, _, rfl, SqL.of (s6 _ _ gp), fp.mono s6⟩, ⟨D, bc, rfl, SqL.of hD5, fb⟩, zl1, d1.mono (by omega), by omega, by rw [lsr_len, List.length_cons, hp.l]; omega, fun H6 p3 zs3 s8 n8 g8 f8 => ?_⟩
              have s68 := s6.trans s8
              refine ⟨p3, zs3, s3.trans s68, s68 _ _ hL3, la3.mono s68, (fun z => by rw [z, s6 _ _ hL3] at n8; cases n8), g8, ?_, rfl⟩
              rw [ruled_step, if_neg i0, ← ep, ← eh, eq_]
              exact f8
          · have i0 : i = 0 := Classical.byContradiction fun z => c0 (decide_eq_true (by omega))
            refine ⟨p, zs2, s3, hL3, la3, np, gp, ?_, rfl⟩
            rw [ruled_step, if_pos i0, ← eh, eq_]
            exact fp
        · rintro σ H4 ⟨p, zs2, s4, hL4, la4, np, gp, fp, rfl⟩
          refine ⟨_, rfl, Or.inl ⟨rfl, _, SqL.of hL4⟩, _, rfl, L, acc, _, rfl, rfl, hL4, small1000 (by omega), ?_⟩
          refine ⟨fun c o e => (upd_ne (ne_of_none e hLn)).trans (s4 c o e), acc ++ [.ref p], some (.int i), some y1, some (.ref p), upd_same, ?_, rfl⟩
          rw [List.range_succ, List.map_append]
          exact (LsAll.off hL4 la4).snoc np ((upd_ne np).trans gp) (fp.off hL4)
    · rintro σ H1 ⟨s1, acc, v5, v6, v7, hL1', la, rfl⟩
      rw [lx] at la
      exact ⟨_, rfl, kk H1 L acc s1 hLn hL1' la⟩
end
end Rs


set_option Elab.async false
set_option linter.all false
set_option maxRecDepth 100000
set_option maxHeartbeats 1000000
/-! zip of a list and a tuple -/
namespace MxZ
open PySem PySem.Spec PyProof.Rows L2
/-- each turn: the next of the list at a, the next of the tuple at b, in a new pair -/
def ItzM (K : PySem.W.Frag) (a b : Addr) : It :=
  ⟨fun i H => ∃ (l t : List V) (x y : V), SqL K H a l ∧ SqT K H b t ∧ l[i]? = some x ∧ t[i]? = some y,
    fun i H v H' => ∃ T x y, v = .ref T ∧ H T = none ∧ H' = upd H T (.tup [x, y]) ∧ (∀ l, SqL K H a l → l[i]? = some x) ∧ ∀ t, SqT K H b t → t[i]? = some y,
    fun i H => ∃ l t : List V, SqL K H a l ∧ SqT K H b t ∧ i ≤ l.length ∧ i ≤ t.length ∧ (i = l.length ∨ i = t.length)⟩
theorem five {z TI TO j k c : Addr} (h : c ∈ [z, TI, TO, j, k]) : c = z ∨ c = TI ∨ c = TO ∨ c = j ∨ c = k := by simpa using h
theorem turn_mix {P : Program} {w : World} {K : PySem.W.Frag} {elts : List Expr} {kk : Nat} {tpos : Pos} {a b z TI TO j k : Addr} (S : ZipSep2 z TI TO j k [j, a] [k, b]) (na : a ≠ j) (nb : b ≠ k) :
    Turn P w K (.Tuple elts kk tpos) (ItzM K a b) [z, TI, TO, j, k] z (fun i h => IsZip h z TI TO .none ∧ IsTupOf2 h TI (.ref j) (.ref k) ∧ (∃ x y, IsTupOf2 h TO x y) ∧ h.IsListIter j a i ∧ h.IsTupleIter k b i) where
  mem := List.mem_cons_self
  obj := fun i h st c hc => by
    obtain ⟨hz, hI, ⟨x, y, hO⟩, ⟨oj, ej, _, dj⟩, ⟨ok, ek, _, dk⟩⟩ := st
    rcases five hc with rfl | rfl | rfl | rfl | rfl
    · exact ⟨_, hz, fun v n => nomatch n⟩
    · exact ⟨_, hI, fun v n => nomatch n⟩
    · exact ⟨_, hO, fun v n => nomatch n⟩
    · exact ⟨oj, ej, fun v n => by rw [dj] at n; cases n⟩
    · exact ⟨ok, ek, fun v n => by rw [dk] at n; cases n⟩
  keep := fun i h h' st g => by
    obtain ⟨hz, hI, ⟨x, y, hO⟩, hj, hk⟩ := st
    exact ⟨g z (by simp) _ hz, g TI (by simp) _ hI, ⟨x, y, g TO (by simp) _ hO⟩, hj.at fun o n => g j (by simp) o n, hk.at fun o n => g k (by simp) o n⟩
  item := by
    intro X hP hw hK hc i pins s σ H E I hf st hg
    subst hP hw hK
    obtain ⟨hz, hI, ⟨x0, y0, hO⟩, hj, hk⟩ := st
    obtain ⟨l, t, x, y, ql, qt, gx, gy⟩ := hg
    obtain ⟨il, rl, pl, _⟩ := I.list ql
    obtain ⟨it, rt, pt, _⟩ := I.tuple qt
    obtain ⟨u, hu, ru⟩ := rl.get gx
    obtain ⟨v, hv, rv⟩ := rt.get gy
    have zl : z < s.heap.objs.size := Heap.lt_size hz
    have lt1 : i < il.toArray.size := by
      obtain ⟨q, _⟩ := List.getElem?_eq_some_iff.mp hu
      simpa using q
    have lt2 : i < it.toArray.size := by
      obtain ⟨q, _⟩ := List.getElem?_eq_some_iff.mp hv
      simpa using q
    refine wpAny_pyNext_zipD2_item S (Draws.list (A := X.A.in1) (I.ok.hd hc) j a na il.toArray) (Draws.tuple (A := X.A.in1) (I.ok.hd hc) k b nb it.toArray) hz hI hO ⟨hj, pl.isList⟩ ⟨hk, pt⟩ lt1 lt2 fun u' v' h' tk eu ev z' O' sj sk hT hs keep => ?_
    have eu' : u' = u := by
      have : il[i]? = some u' := by simpa using eu
      rw [hu] at this
      exact (Option.some.inj this).symm
    have ev' : v' = v := by
      have : it[i]? = some v' := by simpa using ev
      rw [hv] at this
      exact (Option.some.inj this).symm
    subst eu' ev'
    refine ⟨_, rfl, wpAny_letOwnedTupleGo_zip (s := { s with heap := h', toks := tk }) z' fun h2 z2 sb => ?_⟩
    have hT2 : IsTupOf2 h2 s.heap.objs.size u' v' := (sb.2 _ (Nat.ne_of_gt zl)).trans hT
    have fresh : ObjOk X.prog X.w (upd H s.heap.objs.size (.tup [x, y])) h2 s.heap.objs.size (.tup [x, y]) :=
      ⟨by show 2 ≤ sizeLine; decide, [u', v'], .cons ru (.cons rv .nil), ⟨_, hT2, rfl, _, rfl⟩⟩
    have J : Inv X pins σ (upd H s.heap.objs.size (.tup [x, y])) { s with heap := h2, toks := tk } := by
      refine I.turnedNew (ch := [z, TI, TO, j, k]) (fun c o out e => ?_) hf (Nat.le_refl _) fresh
      have n : c ≠ z ∧ c ≠ TO ∧ c ≠ j ∧ c ≠ k := ⟨fun q => out (by simp [q]), fun q => out (by simp [q]), fun q => out (by simp [q]), fun q => out (by simp [q])⟩
      exact (sb.2 c n.1).trans (keep c o n.1 n.2.1 n.2.2.1 n.2.2.2 e)
    refine ⟨.ref s.heap.objs.size, _, J, rfl, ⟨_, x, y, rfl, I.hok.fresh (Nat.le_refl _), rfl, fun m hm => by rw [I.list_inj hm ql]; exact gx, fun m hm => by rw [I.tuple_inj hm qt]; exact gy⟩, ⟨z2, ?_, ⟨u', v', ?_⟩, ?_, ?_⟩, fun c hcm => ?_⟩
    · refine (sb.2 _ S.TIz).trans (keep _ _ S.TIz S.TITO S.TIi1 S.TIi2 hI)
    · exact (sb.2 _ S.TOz).trans O'
    · exact sj.1.at fun o q => (sb.2 _ (Ne.symm S.zi1)).trans q
    · exact sk.1.at fun o q => (sb.2 _ (Ne.symm S.zi2)).trans q
    · have lt : c < s.heap.objs.size := by
        rcases five hcm with rfl | rfl | rfl | rfl | rfl
        · exact zl
        · exact Heap.lt_size hI
        · exact Heap.lt_size hO
        · exact hj.elim fun _ q => Heap.lt_size q.1
        · exact hk.elim fun _ q => Heap.lt_size q.1
      rw [upd_ne (Nat.ne_of_lt lt)]
      exact (hf c hcm).1
  done := by
    intro X hP hw hK hc i pins s σ H E I hf st hg
    subst hP hw hK
    obtain ⟨hz, hI, ⟨x0, y0, hO⟩, hj, hk⟩ := st
    obtain ⟨l, t, ql, qt, b1, b2, fin⟩ := hg
    obtain ⟨il, rl, pl, _⟩ := I.list ql
    obtain ⟨it, rt, pt, _⟩ := I.tuple qt
    have n1 : il.toArray.size = l.length := by rw [List.size_toArray, rl.length]
    have n2 : it.toArray.size = t.length := by rw [List.size_toArray, rt.length]
    refine wpAny_pyNext_zipD2_end (i := i) S (Draws.list (A := X.A.in1) (I.ok.hd hc) j a na il.toArray) (Draws.tuple (A := X.A.in1) (I.ok.hd hc) k b nb it.toArray) hz hI hO ⟨hj, pl.isList⟩ ⟨hk, pt⟩ (by omega) (by omega) (by omega) fun h' tk keep => ⟨rfl, ?_⟩
    refine I.turnedL (ch := [z, TI, TO, j, k]) (fun c o out e => ?_) hf
    exact keep c o (fun q => out (by simp [q])) (fun q => out (by simp [q])) (fun q => out (by simp [q])) (fun q => out (by simp [q])) e
  self := fun A i s Q E st h => wpAny_pyIter_zip st.1 h
theorem out2 {x u v : Nat} (h1 : x ≠ u) (h2 : x ≠ v) : ¬ ((x : Addr) ∈ ([u, v] : List Addr)) := fun h => by
  rcases List.mem_cons.mp h with q | q
  · exact h1 q
  · exact h2 (List.mem_singleton.mp q)
theorem apart (n a b : Nat) (la : a < n) (lb : b < n) : ZipSep2 (n + 4 : Nat) (n + 2 : Nat) (n + 3 : Nat) n (n + 1 : Nat) [n, a] [(n + 1 : Nat), b] where
  TIz := by show (n + 2 : Nat) ≠ n + 4; omega
  TOz := by show (n + 3 : Nat) ≠ n + 4; omega
  TITO := by show (n + 2 : Nat) ≠ n + 3; omega
  TIi1 := by show (n + 2 : Nat) ≠ n; omega
  mem1 := List.mem_cons_self
  zf1 := out2 (by omega) (by omega)
  Tf1 := out2 (by omega) (by omega)
  TIi2 := by show (n + 2 : Nat) ≠ n + 1; omega
  mem2 := List.mem_cons_self
  zf2 := out2 (by omega) (by omega)
  Tf2 := out2 (by omega) (by omega)
  sep1_2 := out2 (by omega) (by omega)
  sep2_1 := out2 (by omega) (by omega)
def iMix (K : PySem.W.Frag) (ta : TA) : TI := fun σ H R => ta σ H fun vs H1 => ∃ a b l t, vs = [.ref a, .ref b] ∧ SqL K H1 a l ∧ SqT K H1 b t ∧ R (ItzM K a b) H1
theorem pi_mix {X : Cx} {e e2 : Expr} {ta : TA} {p pos tpos : Pos} {elts : List Expr} {kk : Nat} (hg : Gl X "zip") (hm : X.mg "zip" = none) (ha : PA X [e, e2] ta)
    (st : starEach [e, e2] X.env = (false, eval e X.env) :: starEach [e2] X.env := by rfl) (pl : (backTo pos (starEach [e2] X.env)).any (·.1) = false := by rfl) :
    PI X (.Tuple elts kk tpos) (.Call (.Name "zip" p) [e, e2] [] pos) (iMix X.K ta) := by
  constructor
  intro pins s σ H R I h
  refine Call_ (ld_blt I hg hm PyProof.Rows.boot_zip (PyProof.Rows.callWith_type1 (thn (ha.run pos pins s σ H _ I h) ?_) st pl))
  rintro us s1 ⟨vs, H1, I1, r1, a, b, l, t, rfl, ql, qt, q⟩
  cases r1 with
  | cons ra rr =>
    cases rr with
    | cons rb rr =>
      cases rr
      cases ra
      cases rb
      obtain ⟨il, rl, pl', _⟩ := I1.list ql
      obtain ⟨it, rt, pt, _⟩ := I1.tuple qt
      have la : a < s1.heap.objs.size := pl'.lt
      have lb : b < s1.heap.objs.size := by
        obtain ⟨o, z, _⟩ := id pt
        exact Heap.lt_size z
      refine zip_begins2 (begins_list a il.toArray) (begins_tuple b it.toArray) pl'.isList pt fun h' hz hI hO gj gk hs keep => wpAny_pyIter_zip hz ?_
      have J : Inv X pins σ H1 { s1 with heap := h' } := I1.kept (t' := s1.toks) keep
      refine ⟨s1.heap.objs.size + 4, [s1.heap.objs.size + 4, s1.heap.objs.size + 2, s1.heap.objs.size + 3, s1.heap.objs.size, s1.heap.objs.size + 1], _, _, H1, rfl, J, turn_mix (apart s1.heap.objs.size a b la lb) (Nat.ne_of_lt la) (Nat.ne_of_lt (Nat.lt_succ_of_lt lb)), ⟨hz, hI, ⟨_, _, hO⟩, ⟨_, gj, rfl, rfl⟩, ⟨_, gk, rfl, rfl⟩⟩, fun c hcm => ?_, q⟩
      have up : s1.heap.objs.size ≤ c := by
        rcases five hcm with rfl | rfl | rfl | rfl | rfl
        · exact Nat.le_add_right _ 4
        · exact Nat.le_add_right _ 2
        · exact Nat.le_add_right _ 3
        · exact Nat.le_refl _
        · exact Nat.le_add_right _ 1
      exact I1.fpOk up (I1.hok.fresh up)
end MxZ


set_option Elab.async false
set_option linter.all false
set_option maxRecDepth 100000
set_option maxHeartbeats 1000000
namespace Rs
open PySem L2 Bs Fq LamX RZ
theorem walk_mix {K : PySem.W.Frag} {a b : Addr} {xs ys : List V} {n : Nat} (hn : n = min xs.length ys.length) : Walk (MxZ.ItzM K a b) n (fun H => SqL K H a xs ∧ SqT K H b ys) (YPair (fun i => xs[i]?) (fun i => ys[i]?)) := by
  rw [hn]
  refine ⟨fun i _ hi q => ?_, fun _ q => ⟨xs, ys, q.1, q.2, by omega, by omega, by omega⟩, fun i H v H' _ q y => ?_⟩
  · have h1 : i < xs.length := by omega
    have h2 : i < ys.length := by omega
    exact ⟨xs, ys, xs[i], ys[i], q.1, q.2, List.getElem?_eq_getElem h1, List.getElem?_eq_getElem h2⟩
  · obtain ⟨T, x, z, e1, e2, e3, e4, e5⟩ := y
    exact ⟨T, x, z, e1, e2, e3, e4 xs q.1, e5 ys q.2⟩
theorem zw_get {qs rs : List F} {i : Nat} {q r : F} (h1 : qs[i]? = some q) (h2 : rs[i]? = some r) : (List.zipWith mul qs rs)[i]? = some (mul q r) := by
  rw [List.getElem?_zipWith_eq_some]
  exact ⟨q, r, h1, h2, rfl⟩
theorem FrAll.app {K : PySem.W.Frag} {H : Hp} : ∀ {vs us : List V} {qs rs : List F}, FrAll K H vs qs → FrAll K H us rs → FrAll K H (vs ++ us) (qs ++ rs)
  | _, _, _, _, .nil, h => h
  | _, _, _, _, .cons a b, h => .cons a (FrAll.app b h)
abbrev sLSumBy : Stmt := top 51
abbrev sMisfits : Stmt := top 55
def spLSumBy (K : PySem.W.Frag) : Sp := fun vs H Q _ => ∃ (x y : V) (some row : List F) (n m : Nat), vs = [x, y] ∧ Po K H x row ∧ Ls K H y some ∧ Za n some ∧ Za m row ∧ n + m + some.length ≤ 400 ∧ some.length ≤ row.length ∧ some.length ≤ 50 ∧
  ∀ H' u, Same H H' → Fr K H' u (sumBy some row) → Q u H'
def spMisfits (K : PySem.W.Frag) : Sp := fun vs H Q _ => ∃ (x y : V) (some row : List F) (n m : Nat), vs = [x, y] ∧ Po K H x row ∧ Ls K H y some ∧ Za n some ∧ Za m row ∧ n + m + row.length ≤ 400 ∧ row.length ≤ 20 ∧ some.length ≤ row.length + 1 ∧ some ≠ [] ∧
  (∀ k, k + some.length ≤ row.length → sumBy (List.replicate k (0, 1) ++ some) row = (0, 1)) ∧ ∀ H' p, Same H H' → H' p = some' → Q (.ref p) H'
where some' : Option HO := .some (.lst [])
section
variable {P : Program} {w : World} {K : PySem.W.Frag} {mg : Str → Option Value} {base : Heap} {f : Addr} {fd : FuncData}
theorem scLSumBy : FnScope ["row", "some", "one", "moment"] ["row", "some"] (defScope sLSumBy) := ⟨rfl, rfl, rfl, by decide +kernel, rfl, by decide +kernel, by decide +kernel⟩
theorem ok_lsumBy (F : Fun K "_law_sum_by" "_law_sum_by" sLSumBy f fd) (zp : mg "zip" = none) (lT : Cal P w K mg base 2 "_law_times" (spOp K mul domL)) (LS : Cal P w K mg base 3 "_law_sum" (spLSum K)) : FnOk P w K mg base CX0 4 f fd ["row", "some"] (spLSumBy K) := by
  refine F.ok scLSumBy (fun vs H Q E h => ?_) (fun cdv A outer s H vs Q E hr h => ?_)
  · obtain ⟨x, y, qs, rs, n, m, rfl, _⟩ := h
    rfl
  · obtain ⟨x, y, qs, rs, n, m, rfl, ⟨b, ys, rfl, sy, fy⟩, ⟨a, xs, rfl, sx, fx⟩, hq, hrs, hnm, lq, l50, kk⟩ := h
    have lx := fx.len
    have ly := fy.len
    refine ⟨_, pss_one (ps_ret (pe_n LS hr (by decide) (by rfl) (pa_cons (pe_lc (own := [("one", 2), ("moment", 3)]) (g := gTup K 2 (gCons (gName 2) (gCons (gName 3) gNil))) (tt := tYes) rfl scLSumBy.nd
          (MxZ.pi_mix (by rfl) zp (pa_cons (pv 1) (pa_cons (pv 0) pa_nil))) (blkOk_by (N := ["row", "some", "one", "moment"]) (sc := defScope sLSumBy) (by decide +kernel))
          (fun _ _ _ _ _ => pg_tup rfl (pgs_cons (pg_name (i := 2) scLSumBy.nd rfl (Or.inl rfl)) (pgs_cons (pg_name (i := 3) scLSumBy.nd rfl (Or.inl rfl)) pgs_nil))) (fun _ _ _ _ _ => pts_nil)
          (fun _ _ _ _ _ => pe_n lT hr (by decide) (by rfl) (pa_cons (pv 2) (pa_cons (pv 3) pa_nil)))) pa_nil))), ?_⟩
    refine ⟨_, rfl, _, rfl, a, b, xs, ys, rfl, sx, sy, fun D hD => ?_⟩
    refine lc_it (walk_mix (xs := xs) (ys := ys) (n := min xs.length ys.length) rfl) (fun i H4 => Same H H4 ∧ ∃ acc, H4 D = some (.lst acc) ∧ FrAll K H4 acc ((List.zipWith mul qs rs).take i)) ⟨same_new hD, [], upd_same, .nil⟩ (fun i H4 _ z => ⟨z.1.seq sx, Bs.Same.t z.1 sy⟩) ?_ ?_
    · rintro i x H4 H5 hi ⟨s4, acc, hD4, fac⟩ ⟨T', x', y', rfl, hT, rfl, h1, h2⟩
      have h1' : xs[i]? = some x' := h1
      have h2' : ys[i]? = some y' := h2
      have s5 := same_new (o := .tup [x', y']) hT
      have s45 := s4.trans s5
      obtain ⟨x1, q, e1, e2, fq⟩ := fx.get (i := i) (by omega)
      obtain ⟨y1, r, e3, e4, fr_⟩ := fy.get (i := i) (by omega)
      rw [h1'] at e1
      cases e1
      rw [h2'] at e3
      cases e3
      have et := zw_get e2 e4
      have la : acc.length ≤ 50 := by
        rw [fac.len, List.length_take, List.length_zipWith]
        omega
      refine ⟨T', _, rfl, SqT.of upd_same, rfl, _, _, rfl, _, _, rfl, rfl, rfl, ?_⟩
      refine iteT (B := Same H (upd H4 T' (.tup [x', y'])) ∧ ∃ acc, upd H4 T' (.tup [x', y']) D = some (.lst acc) ∧ FrAll K (upd H4 T' (.tup [x', y'])) acc ((List.zipWith mul qs rs).take (i + 1))) ?_
      refine ⟨_, rfl, _, rfl, x', y', q, r, rfl, fq.mono s45, fr_.mono s45, ⟨zs_dl (hq q (List.mem_of_getElem? e2)) (by omega), zs_dl (hrs r (List.mem_of_getElem? e4)) (by omega)⟩, fun p hp => ?_⟩
      have s6 := same_new (o := fr (mul q r)) hp
      have s56 := s5.trans s6
      refine ⟨acc, s56 _ _ hD4, small1000 (by omega), fun c o e => (upd_ne (ne_of_none e hD)).trans (s56 c o (s4 c o e)), acc ++ [.ref p], upd_same, ?_⟩
      rw [take_one et]
      exact (FrAll.off (s56 _ _ hD4) (fac.mono s56)).snoc ((Fr.of upd_same).off (s56 _ _ hD4))
    · rintro H4 ⟨s4, acc, hD4, fac⟩
      rw [List.take_of_length_le (by rw [List.length_zipWith, lx, ly]; exact Nat.le_refl _)] at fac
      refine ⟨D, acc, _, n + m, rfl, SqL.of hD4, fac, ?_, by rw [List.length_zipWith]; omega, fun H' u s5 fu => kk H' u (s4.trans s5) fu⟩
      rw [zip_map lq]
      intro q hq'
      obtain ⟨i, _, rfl⟩ := List.mem_map.mp hq'
      exact (hq.co i).mul (hrs.co i)
theorem scMisfits : FnScope ["row", "some", "found_so", "k"] ["row", "some"] (defScope sMisfits) := ⟨rfl, rfl, rfl, by decide +kernel, rfl, by decide +kernel, by decide +kernel⟩
theorem ok_misfits (F : Fun K "_law_misfits" "_law_misfits" sMisfits f fd) (T : Blt mg) (SB : Cal P w K mg base 4 "_law_sum_by" (spLSumBy K)) : FnOk P w K mg base CX0 5 f fd ["row", "some"] (spMisfits K) := by
  refine F.ok scMisfits (fun vs H Q E h => ?_) (fun cdv A outer s H vs Q E hr h => ?_)
  · obtain ⟨x, y, qs, rs, n, m, rfl, _⟩ := h
    rfl
  · obtain ⟨x, y, qs, rs, n, m, rfl, ⟨b, ys, rfl, sy, fy⟩, ⟨a, xs, rfl, sx, fx⟩, hq, hrs, hnm, l20, lq, nq, hz, kk⟩ := h
    have lx := fx.len
    have ly := fy.len
    have qp := List.length_pos_iff.mpr nq
    refine ⟨_, pss_cons (ps_set (i := 2) scMisfits.nd rfl (Or.inl rfl) (pe_lst pa_nil))
      (pss_cons (ps_for PassesOwn.never rfl (pi_range1 rfl T.range (pa_cons (pe_op op_sub (pe_op op_add (pe_callB call_len_seq (by rfl) T.len (by decide +kernel) (pa_cons (pv 0) pa_nil)) pe_int) (pe_callB call_len_seq (by rfl) T.len (by decide +kernel) (pa_cons (pv 1) pa_nil))) pa_nil)) (pg_name (i := 3) scMisfits.nd rfl (Or.inl rfl))
        (pss_one (ps_if (pt_cmpR (op_neD hr.units) (pe_n SB hr (by decide) (by rfl) (pa_cons (pv 0) (pa_cons (pe_op op_cat (pe_op op_rep (pe_lst (pa_cons (pe_tup (pa_cons pe_int (pa_cons pe_int pa_nil))) pa_nil)) (pe_callTy call_int1 (by rfl) T.int (by decide +kernel) (pa_cons (pv 3) pa_nil))) (pe_callTy call_list_of (by rfl) T.list (by decide +kernel) (pa_cons (pv 1) pa_nil))) pa_nil))) (pe_tup (pa_cons pe_int (pa_cons pe_int pa_nil))) (nomark _))
          (pss_one (ps_expr (pe_bm PySem.F.plainAttrs_list PySem.F.slot_list_append PySem.F.type_list_append mt_append (pv 2) (pa_cons (pv 3) pa_nil)))) pss_nil)))
      (pss_one (ps_ret (pv 2)))), ?_⟩
    refine ⟨(by show 0 ≤ sizeLine; decide), fun L hL => ?_⟩
    have s0 := same_new (o := .lst []) hL
    refine ⟨_, rfl, b, ys, rfl, .inr (Bs.Same.t s0 sy), _, _, rfl, rfl, _, rfl, a, xs, rfl, .inl (s0.seq sx), _, _, rfl, rfl, _, rfl, by omega, by omega, for_range (n := ((ys.length : Int) + 1 - (xs.length : Int)).toNat) (fun i σ H1 => Same H H1 ∧ ∃ v3, H1 L = some (.lst []) ∧ σ = [some (V.ref b), some (V.ref a), some (V.ref L), v3])
      ⟨s0, none, upd_same, rfl⟩ ?_ ?_⟩
    · rintro i σ H1 hi ⟨s1, v3, hL1, rfl⟩
      have ik : i + qs.length ≤ rs.length := by omega
      refine ⟨_, rfl, (by show 2 ≤ sizeLine; decide), fun t1 ht1 => ⟨(by show 1 ≤ sizeLine; decide), fun p1 hp1 => ?_⟩⟩
      have s2 := same_new (o := .tup [.int 0, .int 1]) ht1
      have s3 := same_new (o := .lst [V.ref t1]) hp1
      have s23 := s2.trans s3
      have fz : Fr K (upd (upd H1 t1 (.tup [.int 0, .int 1])) p1 (.lst [V.ref t1])) (.ref t1) (0, 1) := (Fr.of upd_same).mono s3
      have gp1 : upd (upd H1 t1 (.tup [.int 0, .int 1])) p1 (.lst [V.ref t1]) p1 = some (.lst [V.ref t1]) := upd_same
      generalize upd (upd H1 t1 (.tup [.int 0, .int 1])) p1 (.lst [V.ref t1]) = H2 at *
      have ei : (0 : Int) + (i : Int) = (i : Int) := Int.zero_add _
      refine ⟨_, rfl, .inl ⟨_, rfl, p1, (i : Int), [.ref t1], rfl, (by rw [ei]), gp1, by omega, by omega, ?_, fun p2 hp2 => ?_⟩⟩
      · rw [List.length_singleton, Nat.one_mul]
        exact Nat.le_of_lt (small1000 (by omega))
      · have e2 : (List.replicate (i : Int).toNat [V.ref t1]).flatten = List.replicate i (V.ref t1) := by
          rw [List.flatten_replicate_singleton, Int.toNat_natCast]
        rw [e2]
        have s4 := same_new (o := .lst (List.replicate i (V.ref t1))) hp2
        have gp2 : upd H2 p2 (.lst (List.replicate i (V.ref t1))) p2 = some (.lst (List.replicate i (V.ref t1))) := upd_same
        have fz4 := fz.mono s4
        have s14 := (s1.trans s23).trans s4
        have hL4 := s4 _ _ (s23 _ _ hL1)
        generalize upd H2 p2 (.lst (List.replicate i (V.ref t1))) = H3 at *
        refine ⟨_, rfl, a, xs, rfl, .inl (s14.seq sx), fun p3 hp3 => ?_⟩
        have s5 := same_new (o := .lst xs) hp3
        refine ⟨p2, p3, _, _, rfl, rfl, s5 _ _ gp2, upd_same, Nat.le_of_lt (small1000 (by rw [List.length_replicate]; omega)), fun p4 hp4 => ?_⟩
        have s6 := same_new (o := .lst (List.replicate i (V.ref t1) ++ xs)) hp4
        have s56 := s5.trans s6
        have s16 := s14.trans s56
        have zz : Za n (List.replicate i ((0, 1) : Fq.F) ++ qs) := fun q h => by
          rcases List.mem_append.mp h with h | h
          · rw [(List.mem_replicate.mp h).2]
            exact Zs.zero
          · exact hq q h
        have ll : (List.replicate i ((0, 1) : Fq.F) ++ qs).length = i + qs.length := by rw [List.length_append, List.length_replicate]
        refine ⟨.ref b, .ref p4, List.replicate i (0, 1) ++ qs, rs, n, m, rfl, ⟨b, ys, rfl, Bs.Same.t s16 sy, fy.mono s16⟩, ⟨p4, _, rfl, SqL.of upd_same, FrAll.app (FrAll.rep (fz4.mono s56) i) (fx.mono s16)⟩, zz, hrs, by omega, by omega, by omega, fun H5 u s7 fu => ?_⟩
        rw [hz i ik] at fu
        refine ⟨(by show 2 ≤ sizeLine; decide), fun t5 ht5 => ?_⟩
        have s8 := same_new (o := .tup [.int 0, .int 1]) ht5
        refine ⟨dF (0, 1), dF (0, 1), (fu.mono s8).dp, (Fr.of (q := (0, 1)) upd_same).dp, rfl, rfl, _, rfl, ?_⟩
        have s68 := s56.trans (s7.trans s8)
        refine iteF ⟨s14.trans s68, _, s68 _ _ hL4, rfl⟩
    · rintro σ H1 ⟨s1, v3, hL1, rfl⟩
      exact ⟨_, rfl, kk H1 L s1 hL1⟩
end
end Rs


set_option Elab.async false
set_option linter.all false
set_option maxRecDepth 100000
set_option maxHeartbeats 1000000
namespace Rs
open PySem L2 Bs Fq LamX RZ
theorem zs_red {x y : Int} (h1 : -6 ≤ x) (h2 : x ≤ 6) (h3 : 1 ≤ y) (h4 : y ≤ 3) : Zs 1 (red x y) := by
  have hp : 0 < y := by omega
  refine Zs.of (red_ok hp) (Int.dvd_trans (vl_dvd (red_ok (a := x) hp) (vl_red hp)) ?_) ?_
  · rcases (by omega : y = 1 ∨ y = 2 ∨ y = 3) with rfl | rfl | rfl <;> decide
  · have := red_top (a := x) hp
    omega
theorem pos_red {x y : Int} (h1 : 0 < x) (h3 : 0 < y) : 0 < (red x y).1 := by
  have o := red_ok (a := x) h3
  have v := vl_red (a := x) h3
  unfold Vl at v
  have h1 : 0 < x * (red x y).2 := Int.mul_pos h1 o.1
  rw [← v] at h1
  exact Int.pos_of_mul_pos_left h1 h3
/-- a drawn ladder -/
structure DrL (T : F) (ls ss : List F) : Prop where
  zT : Zs 1 T
  pT : 0 < T.1
  zl : Za 1 ls
  zs : Za 1 ss
  l3 : ls.length ≤ 3
  sh : (above ss = true ∧ (ls.length = ss.length ∨ ls.length = ss.length + 1)) ∨ (ls.length = ss.length ∧ ss ≠ [] ∧ co ss (ss.length - 1) = (0, 1) ∧ above (ss.take (ss.length - 1)) = true)
theorem above_pn {ss : List F} (h : above ss = true) : Pn ss := by
  by_cases c : ss = []
  · exact .inl c
  · refine .inr fun z => ?_
    have hl := List.length_pos_iff.mpr c
    have := List.all_eq_true.mp h _ (co_mem (qs := ss) (k := ss.length - 1) (by omega))
    rw [z] at this
    exact absurd this (by decide)
theorem above_app {a b : List F} (h : above a = true) (g : above b = true) : above (a ++ b) = true := by
  unfold above at *
  rw [List.all_append, h, g]
  rfl
theorem above_take {a : List F} (n : Nat) (h : above a = true) : above (a.take n) = true := by
  unfold above at *
  rw [List.all_eq_true] at *
  exact fun q hq => h q (List.mem_of_mem_take hq)
theorem DrL.lad {T : F} {ls ss : List F} (h : DrL T ls ss) : ladderD (dL T ls ss) = true := by
  have okl : ∀ {l : List F}, Za 1 l → ∀ q ∈ l, Fq.Ok q := fun z q hq => (z q hq).ok
  have fr5 : ∀ {l : List F}, Za 1 l → l.length ≤ 5 → fracsD 5 (dP l) = true := fun {l} z n => by
    show (decide (((l.map dF).length : Int) ≤ 5) && (l.map dF).all fracD) = true
    rw [all_frac_of (okl z), List.length_map, decide_eq_true (by omega)]
    rfl
  have l3 := h.l3
  have m5 : ss.length ≤ 5 := by rcases h.sh with ⟨_, e⟩ | ⟨e, _⟩ <;> omega
  show (posD (dF T) && (fracsD 5 (dP ls) && (fracsD 5 (dP ss) && shapeD (dP ls) (dP ss)))) = true
  have e1 : posD (dF T) = true := by
    show (fracD (dF T) && decide (0 < T.1)) = true
    rw [fracD_dF h.zT.ok, decide_eq_true h.pT]
    rfl
  rw [e1, fr5 h.zl (by omega), fr5 h.zs m5]
  rcases h.sh with ⟨a, e⟩ | ⟨e, n, z, a⟩
  · rw [shape_open (above_pn a), a, decide_eq_true (by omega : ls.length ≤ 4)]
    rcases e with e | e
    · rw [decide_eq_true e]
      rfl
    · rw [decide_eq_true e, Bool.or_true]
      rfl
  · rw [shape_end n z, a, decide_eq_true e]
    rfl
abbrev sDrawn : Stmt := top 57
def spDrawn (K : PySem.W.Frag) : Sp := fun vs H Q _ => ∃ (p c l : Addr) (n : Nat) (t : Int), vs = [.ref p] ∧ Sta H p c l n t ∧ t ≤ 7000 ∧
  ∀ (H' : Hp) (v : V) (T : F) (ls ss : List F) (t' : Int), Lad K H' v T ls ss → DrL T ls ss → t ≤ t' → t' ≤ t + 20 → Sta H' p c l n t' → Kp p l H H' → Q v H'
abbrev NDr : List Str := ["state", "many", "sort", "levels", "steps", "k"]
section
variable {P : Program} {w : World} {K : PySem.W.Frag} {mg : Str → Option Value} {base : Heap} {f : Addr} {fd : FuncData}
theorem scDrawn : FnScope NDr ["state"] (defScope sDrawn) := ⟨rfl, rfl, rfl, by decide +kernel, rfl, by decide +kernel, by decide +kernel⟩
theorem ok_drawn (F : Fun K "_law_drawn" "_law_drawn" sDrawn f fd) (T : Blt mg) (DR : Cal P w K mg base 2 "_law_draw" spDraw) (LR : Cal P w K mg base 1 "_law_ratio" spLRatio) (SM : Cal P w K mg base 3 "_law_small" spSmall) : FnOk P w K mg base CX0 4 f fd ["state"] (spDrawn K) := by
  refine F.ok scDrawn (fun vs H Q E h => ?_) (fun cdv A outer s H vs Q E hr h => ?_)
  · obtain ⟨p, c, l, n, t, rfl, _⟩ := h
    rfl
  · obtain ⟨p, c, l, n, t, rfl, S, t7, kk⟩ := h
    refine ⟨_, pss_cons (ps_par (i := 1) (j := 2) (by rfl) scDrawn.nd rfl rfl (by decide) rfl rfl (pa_cons (pe_n DR hr (by decide) (by rfl) (pa_cons (pv 0) (pa_cons pe_int pa_nil))) (pa_cons (pe_n DR hr (by decide) (by rfl) (pa_cons (pv 0) (pa_cons pe_int pa_nil))) pa_nil)) (by rfl))
      (C8.pss_cut (ps_setLc (i := 3) (own := [("k", 5)]) (g := gName 5) (tt := tYes) (by rfl) scDrawn.nd rfl rfl (sw_true rfl rfl rfl (by decide +kernel)) (pi_range1 rfl T.range (pa_cons (pv 1) pa_nil)) (blkOk_by (N := NDr) (sc := defScope sDrawn) (by decide +kernel))
          (fun _ _ _ _ _ => pg_name (i := 5) scDrawn.nd rfl (Or.inl rfl)) (fun _ _ _ _ _ => pts_nil)
          (fun _ _ _ _ _ => pe_n SM hr (by decide) (by rfl) (pa_cons (pv 0) pa_nil)))
      (C8.pss_cut (ps_setLc (i := 4) (own := [("k", 5)]) (g := gName 5) (tt := tYes) (by rfl) scDrawn.nd rfl rfl (sw_true rfl rfl rfl (by decide +kernel)) (pi_range1 rfl T.range (pa_cons (pv 1) pa_nil)) (blkOk_by (N := NDr) (sc := defScope sDrawn) (by decide +kernel))
          (fun _ _ _ _ _ => pg_name (i := 5) scDrawn.nd rfl (Or.inl rfl)) (fun _ _ _ _ _ => pts_nil)
          (fun _ _ _ _ _ => pe_n LR hr (by decide) (by rfl) (pa_cons (pe_op (r := rI0 fun i j => .int (i + j)) op_add pe_int (pe_n DR hr (by decide) (by rfl) (pa_cons (pv 0) (pa_cons pe_int pa_nil)))) (pa_cons (pe_op (r := rI0 fun i j => .int (i + j)) op_add pe_int (pe_n DR hr (by decide) (by rfl) (pa_cons (pv 0) (pa_cons pe_int pa_nil)))) pa_nil))))
      (C8.pss_cut (ps_if (PW.pt (pw_and (pt_cmpR op_gt (pv 1) pe_int (nomark _)) (pw_and1 (pt_cmpR op_eq (pv 2) pe_int (nomark _))))) (pss_one (ps_set (i := 4) scDrawn.nd rfl (Or.inl rfl) (pe_slice sl_list (pv 4) po_none (po_some (pe_un un_neg pe_int))))) pss_nil)
      (C8.pss_cut (ps_if (PW.pt (pw_and (pt_cmpR op_gt (pv 1) pe_int (nomark _)) (pw_and1 (pt_cmpR op_eq (pv 2) pe_int (nomark _))))) (pss_one (ps_asg (pe_tup (pa_cons pe_int (pa_cons pe_int pa_nil))) (pg_sub (pv 4) (pe_un un_neg pe_int) set_list))) pss_nil)
      (pss_one (ps_ret (pe_tup (pa_cons (pe_n LR hr (by decide) (by rfl) (pa_cons (pe_op op_add pe_int (pe_n DR hr (by decide) (by rfl) (pa_cons (pv 0) (pa_cons pe_int pa_nil)))) (pa_cons (pe_op op_add pe_int (pe_n DR hr (by decide) (by rfl) (pa_cons (pv 0) (pa_cons pe_int pa_nil)))) pa_nil)))
        (pa_cons (pe_callTy call_tuple_of (by rfl) T.tuple (by decide +kernel) (pa_cons (pv 3) pa_nil)) (pa_cons (pe_callTy call_tuple_of (by rfl) T.tuple (by decide +kernel) (pa_cons (pv 4) pa_nil)) pa_nil)))))))))), ?_⟩
    refine ⟨_, rfl, p, c, l, n, t, 4, rfl, S, by omega, by decide, by decide, fun H1 x x0 x1 S1 k1 => ?_⟩
    refine ⟨_, rfl, p, c, l, n, t + 1, 3, rfl, S1, by omega, by decide, by decide, fun H2 y y0 y1 S2 k2 => ?_⟩
    refine ⟨_, _, rfl, ?_⟩
    have k12 := k1.trans k2
    refine ⟨fun σ H3 => ∃ (D : Addr) (acc : List V) (ls : List Fq.F), H3 D = some (.lst acc) ∧ FrAll K H3 acc ls ∧ ls.length = x.toNat ∧ Za 1 ls ∧ Sta H3 p c l n (t + 1 + 1 + 2 * x) ∧ Kp p l H H3 ∧ (c ≠ D ∧ l ≠ D ∧ p ≠ D) ∧ σ = [some (V.ref p), some (V.int x), some (V.int y), some (V.ref D), none, none], ?_, ?_⟩
    · obtain ⟨cs, c1, _⟩ := S2.cs
      obtain ⟨zs, l1, _⟩ := S2.ls
      refine ⟨_, rfl, x, rfl, by omega, by omega, fun D hD => ?_⟩
      have nc : c ≠ D := ne_of_none c1 hD
      have nl : l ≠ D := ne_of_none l1 hD
      have np : p ≠ D := ne_of_none S2.d hD
      have s1 := same_new (o := .lst []) hD
      refine lc_range (n := x.toNat) (fun i H3 => ∃ acc qs, H3 D = some (.lst acc) ∧ FrAll K H3 acc qs ∧ qs.length = i ∧ Za 1 qs ∧ Sta H3 p c l n (t + 1 + 1 + 2 * i) ∧ Kp p l H H3)
        ⟨[], [], upd_same, .nil, rfl, fun q h => by simp at h, by simpa using S2.mono s1, k12.trans (Kp.of s1)⟩ ?_ ?_
      · rintro i H3 hi ⟨acc, qs, hD3, fa, ql, q3, S3', k3⟩
        refine ⟨rfl, ?_⟩
        refine iteT (B := ∃ acc qs, H3 D = some (.lst acc) ∧ FrAll K H3 acc qs ∧ qs.length = i + 1 ∧ Za 1 qs ∧ Sta H3 p c l n (t + 1 + 1 + 2 * ((i + 1 : Nat) : Int)) ∧ Kp p l H H3) ?_
        refine ⟨_, rfl, p, c, l, n, t + 1 + 1 + 2 * i, rfl, S3', by omega, fun H4 b a1 a2 b1 b2 b3 b4 hb S4 k4 => ?_⟩
        have hD4 : H4 D = some (.lst acc) := k4 D _ hD3 np.symm nl.symm
        have la : acc.length < sizeLine := small1000 (by rw [fa.len]; omega)
        refine ⟨acc, hD4, la, _, qs ++ [red a1 a2], upd_same, (FrAll.off hD4 (fa.kp k4 S3')).snoc ((Fr.of hb).off hD4), ?_, ?_, ?_, ?_⟩
        · rw [List.length_append, ql]
          rfl
        · intro q hq
          rcases List.mem_append.mp hq with h | h
          · exact q3 q h
          · rw [List.mem_singleton.mp h]
            exact zs_red b1 b2 b3 b4
        · have e : t + 1 + 1 + 2 * (i : Int) + 2 = t + 1 + 1 + 2 * ((i + 1 : Nat) : Int) := by omega
          rw [e] at S4
          exact S4.off hD4 nc nl
        · exact fun b' o e n1 n2 => (upd_ne (ne_of_none (k12 b' o e n1 n2) hD)).trans ((k3.trans k4) b' o e n1 n2)
      · rintro H3 ⟨acc, qs, hD3, fa, ql, q3, S3', k3⟩
        have e : t + 1 + 1 + 2 * ((x.toNat : Nat) : Int) = t + 1 + 1 + 2 * x := by omega
        rw [e] at S3'
        exact ⟨D, acc, qs, hD3, fa, ql, q3, S3', k3, ⟨nc, nl, np⟩, rfl⟩
    rintro σ H3 ⟨D, xs, ls, hD3, fx, lx, zl, S3', k3, ⟨nc, nl, np⟩, rfl⟩
    have x3 : x.toNat ≤ 3 := by omega
    let Inv (sh : List Fq.F → Prop) : L2.St → Hp → Prop := fun σ H4 => ∃ (D2 : Addr) (ys : List V) (ss : List Fq.F), H4 D = some (.lst xs) ∧ FrAll K H4 xs ls ∧ H4 D2 = some (.lst ys) ∧ FrAll K H4 ys ss ∧ Za 1 ss ∧ sh ss ∧ Sta H4 p c l n (t + 1 + 1 + 4 * x) ∧ Kp p l H H4 ∧ D2 ≠ D ∧ (c ≠ D2 ∧ l ≠ D2 ∧ p ≠ D2) ∧ H D2 = none ∧ σ = [some (V.ref p), some (V.int x), some (V.int y), some (V.ref D), some (V.ref D2), none]
    refine ⟨Inv fun ss => above ss = true ∧ ss.length = x.toNat, ?_, ?_⟩
    · obtain ⟨cs, c1, _⟩ := S3'.cs
      obtain ⟨zs, l1, _⟩ := S3'.ls
      refine ⟨_, rfl, x, rfl, by omega, by omega, fun D2 hD => ?_⟩
      have nc2 : c ≠ D2 := ne_of_none c1 hD
      have nl2 : l ≠ D2 := ne_of_none l1 hD
      have np2 : p ≠ D2 := ne_of_none S3'.d hD
      have nd : D ≠ D2 := ne_of_none hD3 hD
      have hn : H D2 = none := by
        cases e : H D2 with
        | none => rfl
        | some o =>
          have := k3 D2 o e np2.symm nl2.symm
          rw [hD] at this
          cases this
      have s1 := same_new (o := .lst []) hD
      refine lc_range (n := x.toNat) (fun i H4 => ∃ acc qs, H4 D2 = some (.lst acc) ∧ FrAll K H4 acc qs ∧ qs.length = i ∧ Za 1 qs ∧ above qs = true ∧ Sta H4 p c l n (t + 1 + 1 + 2 * x + 2 * i) ∧ Kp p l H H4 ∧ H4 D = some (.lst xs) ∧ FrAll K H4 xs ls)
        ⟨[], [], upd_same, .nil, rfl, fun q h => by simp at h, rfl, by simpa using S3'.mono s1, k3.trans (Kp.of s1), s1 _ _ hD3, fx.mono s1⟩ ?_ ?_
      · rintro i H4 hi ⟨acc, qs, hD4, fa, ql, q3, qa, S4, k4, g4, f4⟩
        refine ⟨rfl, ?_⟩
        refine iteT (B := ∃ acc qs, H4 D2 = some (.lst acc) ∧ FrAll K H4 acc qs ∧ qs.length = i + 1 ∧ Za 1 qs ∧ above qs = true ∧ Sta H4 p c l n (t + 1 + 1 + 2 * x + 2 * ((i + 1 : Nat) : Int)) ∧ Kp p l H H4 ∧ H4 D = some (.lst xs) ∧ FrAll K H4 xs ls) ?_
        refine ⟨_, rfl, p, c, l, n, t + 1 + 1 + 2 * x + 2 * i, 4, rfl, S4, by omega, by decide, by decide, fun H5 u u0 u1 S5 k5 => ?_⟩
        refine ⟨_, _, rfl, rfl, _, rfl, p, c, l, n, t + 1 + 1 + 2 * x + 2 * i + 1, 2, rfl, S5, by omega, by decide, by decide, fun H6 v v0 v1 S6 k6 => ?_⟩
        refine ⟨_, _, rfl, rfl, 1 + u, 1 + v, rfl, by omega, ?_, fun b hb => ?_⟩
        · have : (1 + v).natAbs < 2 ^ 2 := by omega
          exact Lt2.mono (m := 2) this (by decide)
        have s7 := same_new (o := fr (red (1 + u) (1 + v))) hb
        have k57 := (k5.trans k6).trans (Kp.of s7)
        have hD7 := k57 D2 _ hD4 np2.symm nl2.symm
        have g7 := k57 D _ g4 np.symm nl.symm
        refine ⟨acc, hD7, small1000 (by rw [fa.len]; omega), _, qs ++ [red (1 + u) (1 + v)], upd_same, (FrAll.off hD7 (fa.kp k57 S4)).snoc ((Fr.of upd_same).off hD7), ?_, ?_, ?_, ?_, ?_, (upd_ne nd).trans g7, FrAll.off hD7 (f4.kp k57 S4)⟩
        · rw [List.length_append, ql]
          rfl
        · intro q hq
          rcases List.mem_append.mp hq with h | h
          · exact q3 q h
          · rw [List.mem_singleton.mp h]
            exact zs_red (by omega) (by omega) (by omega) (by omega)
        · refine above_app qa ?_
          show (decide (0 < (red (1 + u) (1 + v)).1) && true) = true
          rw [decide_eq_true (pos_red (by omega) (by omega))]
          rfl
        · have e : t + 1 + 1 + 2 * x + 2 * (i : Int) + 1 + 1 = t + 1 + 1 + 2 * x + 2 * ((i + 1 : Nat) : Int) := by omega
          rw [e] at S6
          exact (S6.mono s7).off hD7 nc2 nl2
        · exact fun b' o e n1 n2 => (upd_ne (ne_of_none e hn)).trans ((k4.trans k57) b' o e n1 n2)
      · rintro H4 ⟨acc, qs, hD4, fa, ql, q3, qa, S4, k4, g4, f4⟩
        have e : t + 1 + 1 + 2 * x + 2 * ((x.toNat : Nat) : Int) = t + 1 + 1 + 4 * x := by omega
        rw [e] at S4
        exact ⟨D2, acc, qs, g4, f4, hD4, fa, q3, ⟨qa, ql⟩, S4, k4, nd.symm, ⟨nc2, nl2, np2⟩, hn, rfl⟩
    rintro σ H4 ⟨D2, ys, ss, g4, f4, hD4, fy, zs, ⟨qa, ql⟩, S4, k4, nd, ⟨nc2, nl2, np2⟩, hn, rfl⟩
    have ly := fy.len
    refine ⟨Inv fun ss => above ss = true ∧ (ss.length = x.toNat ∨ (ss.length + 1 = x.toNat ∧ y = 1)), ?_, ?_⟩
    · have no : Inv (fun ss => above ss = true ∧ (ss.length = x.toNat ∨ (ss.length + 1 = x.toNat ∧ y = 1))) [some (V.ref p), some (V.int x), some (V.int y), some (V.ref D), some (V.ref D2), none] H4 := ⟨D2, ys, ss, g4, f4, hD4, fy, zs, ⟨qa, .inl ql⟩, S4, k4, nd, ⟨nc2, nl2, np2⟩, hn, rfl⟩
      refine ⟨_, rfl, _, _, rfl, rfl, _, rfl, ?_⟩
      refine ite2 (fun e1 => ?_) (fun _ => no)
      refine ⟨_, rfl, rfl, _, rfl, ?_⟩
      refine ite2 (fun e2 => ?_) (fun _ => no)
      have y1 : y = 1 := V.int.inj (of_decide_eq_true e2)
      have xp : 0 < x := of_decide_eq_true e1
      have yn : ys ≠ [] := fun z => by
        rw [z] at ly
        have : ss.length = 0 := ly.symm
        omega
      obtain ⟨ci1, ci2⟩ := cut_init yn
      refine ⟨_, rfl, _, rfl, -1, rfl, D2, ys, rfl, SqL.of hD4, fun D3 hD3' => ?_⟩
      rw [ci1]
      have s5 := same_new (o := .lst (ys.take (ys.length - 1))) hD3'
      obtain ⟨cs, c1, _⟩ := S4.cs
      obtain ⟨zs', l1, _⟩ := S4.ls
      have np3 := ne_of_none S4.d hD3'
      have nl3 := ne_of_none l1 hD3'
      refine ⟨D3, _, ss.take (ss.length - 1), s5 _ _ g4, f4.mono s5, upd_same, ?_, fun q hq => zs q (List.mem_of_mem_take hq), ⟨above_take _ qa, .inr ⟨by rw [List.length_take]; omega, y1⟩⟩, S4.mono s5, k4.trans (Kp.of s5), (ne_of_none g4 hD3').symm, ⟨ne_of_none c1 hD3', nl3, np3⟩, ?_, rfl⟩
      · have := (fy.take (ys.length - 1)).mono s5
        rw [ly] at this ⊢
        exact this
      · cases e : H D3 with
        | none => rfl
        | some o =>
          have := k4 D3 o e np3.symm nl3.symm
          rw [hD3'] at this
          cases this
    clear g4 f4 hD4 fy zs qa ql S4 k4 nd nc2 nl2 np2 hn ly
    rintro σ H5 ⟨D2, ys, ss, g4, f4, hD4, fy, zs, ⟨qa, ql⟩, S4, k4, nd, ⟨nc2, nl2, np2⟩, hn, rfl⟩
    have ly := fy.len
    refine ⟨Inv fun ss => (above ss = true ∧ (ls.length = ss.length ∨ ls.length = ss.length + 1)) ∨ (ls.length = ss.length ∧ ss ≠ [] ∧ co ss (ss.length - 1) = (0, 1) ∧ above (ss.take (ss.length - 1)) = true), ?_, ?_⟩
    · have no : Inv (fun ss => (above ss = true ∧ (ls.length = ss.length ∨ ls.length = ss.length + 1)) ∨ (ls.length = ss.length ∧ ss ≠ [] ∧ co ss (ss.length - 1) = (0, 1) ∧ above (ss.take (ss.length - 1)) = true)) [some (V.ref p), some (V.int x), some (V.int y), some (V.ref D), some (V.ref D2), none] H5 := ⟨D2, ys, ss, g4, f4, hD4, fy, zs, .inl ⟨qa, by omega⟩, S4, k4, nd, ⟨nc2, nl2, np2⟩, hn, rfl⟩
      refine ⟨_, rfl, _, _, rfl, rfl, _, rfl, ?_⟩
      refine ite2 (fun e1 => ?_) (fun _ => no)
      refine ⟨_, rfl, rfl, _, rfl, ?_⟩
      refine ite2 (fun e2 => ?_) (fun _ => no)
      have y2 : y = 2 := V.int.inj (of_decide_eq_true e2)
      have xp : 0 < x := of_decide_eq_true e1
      have le : ss.length = x.toNat := by omega
      refine ⟨(by show 2 ≤ sizeLine; decide), fun z hz => ?_⟩
      have s6 := same_new (o := .tup [.int 0, .int 1]) hz
      have hix : ixN ys.length (-1) = some (ss.length - 1) := by
        unfold ixN
        rw [if_neg (by decide), if_pos (by omega)]
        congr 1
        omega
      have hD6 := s6 _ _ hD4
      refine ⟨_, rfl, _, rfl, D2, ys, _, _, rfl, rfl, hD6, hix, ?_⟩
      refine ⟨D2, _, ss.set (ss.length - 1) (0, 1), (upd_ne nd.symm).trans (s6 _ _ g4), FrAll.off hD6 (f4.mono s6), upd_same, FrAll.set _ (FrAll.off hD6 (fy.mono s6)) ((show Fr K (upd H5 z (.tup [.int 0, .int 1])) (.ref z) (0, 1) from Fr.of upd_same).off hD6), za_set zs Zs.zero _, ?_, (S4.mono s6).off hD6 nc2 nl2, ?_, nd, ⟨nc2, nl2, np2⟩, hn, rfl⟩
      · refine .inr ⟨by rw [List.length_set]; omega, fun e => ?_, ?_, ?_⟩
        · have := congrArg List.length e
          rw [List.length_set] at this
          have h0 : ss.length = 0 := this
          omega
        · rw [List.length_set, co_set _ (by omega), if_pos rfl]
        · rw [List.length_set, List.take_set, List.set_eq_of_length_le (by rw [List.length_take]; omega)]
          exact above_take _ qa
      · exact fun b' o e n1 n2 => (upd_ne (ne_of_none e hn)).trans ((k4.trans (Kp.of s6)) b' o e n1 n2)
    clear g4 f4 hD4 fy zs qa ql S4 k4 nd nc2 nl2 np2 hn ly
    rintro σ H6 ⟨D2, ys, ss, g4, f4, hD4, fy, zs, sh, S4, k4, nd, ⟨nc2, nl2, np2⟩, hn, rfl⟩
    refine ⟨_, rfl, p, c, l, n, _, 4, rfl, S4, by omega, by decide, by decide, fun H7 u u0 u1 S5 k5 => ?_⟩
    refine ⟨_, _, rfl, rfl, _, rfl, p, c, l, n, _, 2, rfl, S5, by omega, by decide, by decide, fun H8 v v0 v1 S6 k6 => ?_⟩
    refine ⟨_, _, rfl, rfl, 1 + u, 1 + v, rfl, by omega, ?_, fun b hb => ?_⟩
    · have : (1 + v).natAbs < 2 ^ 2 := by omega
      exact Lt2.mono (m := 2) this (by decide)
    have s7 := same_new (o := fr (red (1 + u) (1 + v))) hb
    have k57 := (k5.trans k6).trans (Kp.of s7)
    have fT : Fr K (upd H8 b (fr (red (1 + u) (1 + v)))) (.ref b) (red (1 + u) (1 + v)) := Fr.of upd_same
    have gD := k57 D _ g4 np.symm nl.symm
    have gD2 := k57 D2 _ hD4 np2.symm nl2.symm
    have fx7 := f4.kp k57 S4
    have fy7 := fy.kp k57 S4
    have S7 := S6.mono s7
    have k7 := k4.trans k57
    generalize upd H8 b (fr (red (1 + u) (1 + v))) = H9 at *
    refine ⟨_, rfl, D, xs, rfl, .inl ⟨SqL.of gD, fun p5 hp5 => ?_⟩⟩
    have s8 := same_new (o := .tup xs) hp5
    refine ⟨_, rfl, D2, ys, rfl, .inl ⟨SqL.of (s8 _ _ gD2), fun p6 hp6 => ?_⟩⟩
    have s9 := same_new (o := .tup ys) hp6
    refine ⟨(by show 3 ≤ sizeLine; decide), fun p7 hp7 => ?_⟩
    have s10 := same_new (o := .tup [V.ref b, V.ref p5, V.ref p6]) hp7
    have s810 := (s8.trans s9).trans s10
    refine kk _ (.ref p7) (red (1 + u) (1 + v)) ls ss _ ⟨p7, _, _, _, rfl, SqT.of upd_same, fT.mono s810, ⟨p5, xs, rfl, SqT.of (s10 _ _ (s9 _ _ upd_same)), fx7.mono s810⟩, ⟨p6, ys, rfl, SqT.of (s10 _ _ upd_same), fy7.mono s810⟩⟩ ⟨zs_red (by omega) (by omega) (by omega) (by omega), pos_red (by omega) (by omega), zl, zs, by omega, sh⟩ (by omega) (by omega) (S7.mono s810) (k7.trans (Kp.of s810))
end
end Rs


set_option Elab.async false
set_option linter.all false
set_option maxRecDepth 100000
set_option maxHeartbeats 1000000
namespace Rs
open PySem L2 Bs Fq LamX RZ
abbrev sRowGood : Stmt := top 59
def spRowGood (K : PySem.W.Frag) : Sp := fun vs H Q _ => ∃ (x z : V) (y L : Addr) (xs : List V) (T : F) (ls ss : List F) (n : Nat), vs = [x, .ref y, z] ∧ Po K H x (rowL T ls ss n) ∧ H y = some (.lst xs) ∧ LsAll K L H xs (rungs ls ss) ∧ Ls K H z (nrms T ss) ∧ Zs 1 T ∧ Za 1 ls ∧ Za 1 ss ∧ ls.length ≤ 5 ∧ ss.length ≤ 5 ∧ n ≤ 8 ∧
  ∀ H', Same H H' → Q (.bl true) H'
theorem eqv_dF_self (q : F) : PyData.eqv (dF q) (dF q) = true := by
  obtain ⟨a, b⟩ := q
  simp [dF, PyData.eqv, PyData.eqvAll]
abbrev NRg : List Str := ["row", "rungs", "norms_so", "k", "rung", "j", "some"]
section
variable {P : Program} {w : World} {K : PySem.W.Frag} {mg : Str → Option Value} {base : Heap} {f : Addr} {fd : FuncData}
theorem scRowGood : FnScope NRg ["row", "rungs", "norms_so"] (defScope sRowGood) := ⟨rfl, rfl, rfl, by decide +kernel, rfl, by decide +kernel, by decide +kernel⟩
theorem ok_rowGood (F : Fun K "_law_row_good" "_law_row_good" sRowGood f fd) (T : Blt mg) (en : mg "enumerate" = none) (PR : Cal P w K mg base 3 "_law_product" (spLProd K)) (SB : Cal P w K mg base 4 "_law_sum_by" (spLSumBy K)) : FnOk P w K mg base CX0 5 f fd ["row", "rungs", "norms_so"] (spRowGood K) := by
  refine F.ok scRowGood (fun vs H Q E h => ?_) (fun cdv A outer s H vs Q E hr h => ?_)
  · obtain ⟨x, z, y, L, xs, T0, ls, ss, n, rfl, _⟩ := h
    rfl
  · obtain ⟨x, z, y, L, xs, T0, ls, ss, n, rfl, ⟨b, ys, rfl, sy, fy⟩, gy, la, ⟨c, us, rfl, su, fu⟩, zT, zl, zs, l5, m5, n8, kk⟩ := h
    have ly := fy.len
    rw [rowL_len] at ly
    have lu := fu.len
    have ln : (nrms T0 ss).length = ss.length + 1 := by simp [nrms]
    have lr : (rungs ls ss).length = ls.length + 1 := by simp [rungs]
    have lx := la.len
    refine ⟨_, pss_cons (ps_for PassesOwn.never rfl (pi_enum (by rfl) en (pa_cons (pv 1) pa_nil)) (pg_tup rfl (pgs_cons (pg_name (i := 3) scRowGood.nd rfl (.inl rfl)) (pgs_cons (pg_name (i := 4) scRowGood.nd rfl (.inl rfl)) pgs_nil)))
        (pss_one (ps_for PassesOwn.never rfl (pi_range1 rfl T.range (pa_cons (pe_op op_add (pv 3) pe_int) pa_nil)) (pg_name (i := 5) scRowGood.nd rfl (.inl rfl))
          (C8.pss_cut (ps_set (i := 6) scRowGood.nd rfl (Or.inl rfl) (pe_n PR hr (by decide) (by rfl) (pa_cons (pv 4) (pa_cons (pe_ix ix_list (pv 1) (pv 5) (fun _ _ => rfl)) pa_nil))))
          (pss_one (ps_if (PW.pt (pw_and (pt_cmpR op_le (pe_callB call_len_seq (by rfl) T.len (by decide +kernel) (pa_cons (pv 6) pa_nil)) (pe_callB call_len_seq (by rfl) T.len (by decide +kernel) (pa_cons (pv 0) pa_nil)) (nomark _))
              (pw_and1 (PW.pt (pw_or (pt_cmpR op_lt (pv 5) (pv 3) (nomark _)) (pw_or1 (pt_cmpR op_lt (pv 3) (pe_callB call_len_seq (by rfl) T.len (by decide +kernel) (pa_cons (pv 2) pa_nil)) (nomark _))))))))
            (pss_one (ps_if (pt_cmpR (op_neD hr.units) (pe_n SB hr (by decide) (by rfl) (pa_cons (pv 0) (pa_cons (pv 6) pa_nil))) (pe_ifExp (pt_cmpR op_eq (pv 5) (pv 3) (nomark _)) (pe_ix ix_list (pv 2) (pv 3) (fun _ _ => rfl)) (pe_tup (pa_cons pe_int (pa_cons pe_int pa_nil)))) (nomark _))
              (pss_one (ps_ret pe_bl)) pss_nil)) pss_nil))))))
      (pss_one (ps_ret pe_bl)), ?_⟩
    refine ⟨_, rfl, y, xs, rfl, SqL.of gy, ?_⟩
    refine for_it walk_enum (fun i σ H1 => Same H H1 ∧ ∃ v3 v4 v5 v6, σ = [some (V.ref b), some (V.ref y), some (V.ref c), v3, v4, v5, v6])
      ⟨fun _ _ z => z, none, none, none, none, rfl⟩ (fun i σ H1 _ p => SqL.of (p.1 _ _ gy)) ?_ ?_
    · rintro i x' σ H1 H2 hi ⟨s1, v3, v4, v5, v6, rfl⟩ ⟨T', x1, y1, rfl, hT, rfl, h1, h2⟩
      cases h1
      have s2 := same_new (o := .tup [.int (i : Nat), y1]) hT
      have s12 := s1.trans s2
      have hi' : i < ls.length + 1 := by omega
      obtain ⟨r, zs', rg, g1, g2, g3, g4, g5⟩ := la.get (i := i) (by omega)
      have h2' : xs[i]? = some y1 := h2
      rw [g1] at h2'
      cases h2'
      have er : rg = ruled ls ss i := by
        unfold rungs at g2
        rw [List.getElem?_map, List.getElem?_range (by omega)] at g2
        cases g2
        rfl
      subst er
      refine ⟨T', _, rfl, SqT.of upd_same, rfl, _, _, rfl, _, _, rfl, rfl, ?_⟩
      generalize upd H1 T' (.tup [.int (i : Nat), V.ref r]) = H2 at *
      refine ⟨_, rfl, _, _, rfl, rfl, _, rfl, by omega, by omega, for_range (n := ((i : Int) + 1).toNat) (fun j σ H3 => Same H H3 ∧ ∃ v5 v6, σ = [some (V.ref b), some (V.ref y), some (V.ref c), some (V.int i), some (V.ref r), v5, v6])
        ⟨s12, v5, v6, rfl⟩ ?_ ?_⟩
      · rintro j σ H3 hj ⟨s3, v5, v6, rfl⟩
        have hji : j ≤ i := by omega
        have ej : (0 : Int) + (j : Int) = (j : Int) := Int.zero_add _
        obtain ⟨r2, zs2, rg, k1, k2, k3, k4, k5⟩ := la.get (i := j) (by omega)
        have er : rg = ruled ls ss j := by
          unfold rungs at k2
          rw [List.getElem?_map, List.getElem?_range (by omega)] at k2
          cases k2
          rfl
        subst er
        have hpi := ruled_pf zl zs i
        have hpj := ruled_pf zl zs j
        have li := hpi.l
        have lj := hpj.l
        have ni : ruled ls ss i ≠ [] := fun z => by rw [z] at li; cases li
        have nj : ruled ls ss j ≠ [] := fun z => by rw [z] at lj; cases lj
        refine ⟨fun σ H4 => ∃ v, Same H H4 ∧ Ls K H4 v (prodN (i + j + 1) (ruled ls ss i) (ruled ls ss j)) ∧ σ = [some (V.ref b), some (V.ref y), some (V.ref c), some (V.int i), some (V.ref r), some (V.int j), some v], ?_, ?_⟩
        · refine ⟨_, rfl, _, rfl, _, rfl, y, xs, _, .ref r2, rfl, rfl, SqL.of (s3 _ _ gy), (by rw [ej]; exact atI_nat k1), .ref r, .ref r2, ruled ls ss i, ruled ls ss j, 3 * i, 3 * j, rfl, ⟨r, zs', rfl, SqL.of (s3 _ _ g4), g5.mono s3⟩, ⟨r2, zs2, rfl, SqL.of (s3 _ _ k4), k5.mono s3⟩, hpi.z, hpj.z, by omega, by omega, by omega, ni, nj, fun H4 v s4 fv => ?_⟩
          rw [li, lj, show i + 1 + (j + 1) - 1 = i + j + 1 by omega] at fv
          refine ⟨v, s3.trans s4, fv, ?_⟩
          rw [ej]
          rfl
        rintro σ H4 ⟨v, s4, fv, rfl⟩
        have pz := (prodN_wt hpi.z hpj.z ni nj (fun _ => 0)).1
        rw [li, lj, show i + 1 + (j + 1) - 1 = i + j + 1 by omega] at pz
        obtain ⟨p, vs', rfl, sp', fp'⟩ := id fv
        have lp := fp'.len
        rw [prodN_len] at lp
        have fin : ∀ H', Same H H' → ∃ v5 v6, [some (V.ref b), some (V.ref y), some (V.ref c), some (V.int i), some (V.ref r), some (V.int j), some (V.ref p)] = [some (V.ref b), some (V.ref y), some (V.ref c), some (V.int i), some (V.ref r), v5, v6] := fun _ _ => ⟨_, _, rfl⟩
        refine ⟨_, rfl, p, vs', rfl, .inl sp', _, rfl, b, ys, rfl, .inr (Bs.Same.t s4 sy), _, _, rfl, rfl, _, rfl, ?_⟩
        refine ite2 (fun c1 => ?_) (fun _ => ⟨s4, _, _, rfl⟩)
        have hn : i + j ≤ n := by
          have := of_decide_eq_true c1
          omega
        -- the test of the sum
        have prd : (i + 1) * (j + 1) ≤ 6 * 6 := Nat.mul_le_mul (by omega) (by omega)
        have crs := cross (n := n) (k := i) (j := j) zT zl zs hn
        have lrow : (rowL T0 ls ss n).length = n + 1 := rowL_len _ _ _ _
        have zrow := (rowL_ok zT zl zs n).1
        have lpr : (prodN (i + j + 1) (ruled ls ss i) (ruled ls ss j)).length = i + j + 1 := prodN_len _ _ _
        have zsm : 3 * i + 3 * j + (i + 1) * (j + 1) + (3 * n + 1) + (i + j + 1) ≤ 400 := by omega
        refine ⟨_, rfl, _, rfl, _, _, rfl, rfl, _, rfl, ?_⟩
        refine ite2 (fun c2 => ?_) (fun c2 => ?_)
        · have hlt : j < i := by
            have := of_decide_eq_true c2
            omega
          rw [if_neg (by omega)] at crs
          refine ⟨_, rfl, _, rfl, .ref b, .ref p, _, rowL T0 ls ss n, _, _, rfl, ⟨b, ys, rfl, Bs.Same.t s4 sy, fy.mono s4⟩, fv, pz, zrow, by rw [lpr]; exact zsm, by rw [lpr, lrow]; omega, by rw [lpr]; omega, fun H5 u s5 fq => ?_⟩
          rw [crs] at fq
          refine ⟨_, rfl, _, rfl, rfl, _, rfl, ?_⟩
          refine ite2 (fun c3 => ?_) (fun _ => ?_)
          · have := V.int.inj (of_decide_eq_true c3)
            omega
          refine ⟨(by show 2 ≤ sizeLine; decide), fun t5 ht5 => ?_⟩
          have s6 := same_new (o := .tup [.int 0, .int 1]) ht5
          refine ⟨dF (0, 1), dF (0, 1), (fq.mono s6).dp, (Fr.of (q := (0, 1)) upd_same).dp, rfl, rfl, _, rfl, ?_⟩
          exact iteF ⟨(s4.trans s5).trans s6, _, _, rfl⟩
        · have hji2 : j = i := Nat.le_antisymm hji (Nat.le_of_not_lt fun z => c2 (decide_eq_true (by omega)))
          subst hji2
          rw [if_pos rfl] at crs
          refine ⟨_, rfl, _, rfl, c, us, rfl, .inl (s4.seq su), _, _, rfl, rfl, _, rfl, ?_⟩
          refine ite2 (fun c3 => ?_) (fun _ => ⟨s4, _, _, rfl⟩)
          have hlu : j < us.length := by
            have := of_decide_eq_true c3
            omega
          obtain ⟨w, m1, m2⟩ := Ls.at (i := j) fu (by omega)
          have en : co (nrms T0 ss) j = nrm T0 ss j := by
            unfold nrms
            rw [co_map, if_pos (by omega)]
          rw [en] at m2
          refine ⟨_, rfl, _, rfl, .ref b, .ref p, _, rowL T0 ls ss n, _, _, rfl, ⟨b, ys, rfl, Bs.Same.t s4 sy, fy.mono s4⟩, fv, pz, zrow, by rw [lpr]; exact zsm, by rw [lpr, lrow]; omega, by rw [lpr]; omega, fun H5 u s5 fq => ?_⟩
          rw [crs] at fq
          refine ⟨_, rfl, _, rfl, rfl, _, rfl, ?_⟩
          refine ite2 (fun _ => ?_) (fun c4 => absurd (decide_eq_true rfl) c4)
          refine ⟨_, rfl, _, rfl, c, us, _, w, rfl, rfl, (s4.trans s5).seq su, atI_nat m1, dF (nrm T0 ss j), dF (nrm T0 ss j), fq.dp, (m2.mono (s4.trans s5)).dp, rfl, rfl, _, rfl, ?_⟩
          rw [eqv_dF_self]
          exact iteF ⟨s4.trans s5, _, _, rfl⟩
      · rintro σ H3 ⟨s3, v5, v6, rfl⟩
        exact ⟨s3, _, _, _, _, rfl⟩
    · rintro σ H1 ⟨s1, v3, v4, v5, v6, rfl⟩
      exact kk H1 s1
end
end Rs


set_option Elab.async false
set_option linter.all false
set_option maxRecDepth 100000
set_option maxHeartbeats 400000
namespace Rs
open PySem L2 Bs Fq LamX LmD Hd TA2
abbrev sHeard : Stmt := top 56
/-- the words, fields and classes of _law_heard -/
structure Cls where
  L : Addr
  N : Addr
def rowsH (C : Cls) : List Row := [("ladder", "given", C.L), ("number", "given", C.N)]
structure HeardK (K : PySem.W.Frag) (mg : Str → Option Value) (g : Addr) (C : Cls) : Prop where
  mgf : mg "_law_heard" = some (.ref g)
  kp : PySem.W.keepIn K (.ref g) = true
  ex : ∃ (oc : Value) (od : Option Addr) (kV doc pm : Value) (an : Option Addr) (cdv ct : Value) (osl : Array (Option Value)),
    K.lookup g = some ⟨oc, od, .func (PySem.W.fnOf "_law_heard" "_law_heard" (defArgs sHeard) (defBody sHeard) (defScope sHeard) .none kV doc pm an cdv ct), osl⟩ ∧ PySem.W.codeIn K cdv "_law_heard" = true
  mL : mg "BadLadder" = some (.ref C.L)
  mN : mg "BadNumber" = some (.ref C.N)
  xL : XfC K C.L
  xN : XfC K C.N
  nL : PySem.W.findIn K (.ref C.L) "given" = some none
  nN : PySem.W.findIn K (.ref C.N) "given" = some none
  xLL : PySem.W.exmOne K (.ref C.L) (.ref C.L) = some true
  xNL : PySem.W.exmOne K (.ref C.N) (.ref C.L) = some false
  xNN : PySem.W.exmOne K (.ref C.N) (.ref C.N) = some true
theorem scHeard : FnScope ["call", "error"] ["call"] (defScope sHeard) := ⟨rfl, rfl, rfl, by decide +kernel, rfl, by decide +kernel, by decide +kernel⟩
/-- where the lambdas of a def leave their code -/
structure TabOk (X : Cx) (Ts : List (Addr × Str)) (c P : Addr) : Prop where
  tb : TabB X.base X.mg c P
  code : X.env.code = .ref c
  mem : (P, X.env.qual ++ "<lambda>") ∈ Ts
  one : ∀ p ∈ Ts, p.1 = P → p.2 = X.env.qual ++ "<lambda>"
abbrev noA : Arguments := { posonlyargs := [], args := [], vararg := none, kwonlyargs := [], kw_defaults := [], kwarg := none, defaults := [] }
section
variable {X : Cx} {Ts : List (Addr × Str)} {g c P : Addr} {C : Cls} {k : Nat} {body : Expr} {scope : Scope} {t : XK → TE} {p lpos pos : Pos}
theorem heard_here (Hk : HeardK X.K X.mg g C) {q : Str} {cdv : Value} : GivesTo X ["call", "error"] "_law_heard" (defScope sHeard) g cdv (defBody sHeard) "call" q (TTh X.K (rowsH C)) := by
  refine heard_gives (i := 1) (l := rowsH C) scHeard.nd (by decide) (fun s H => ?_) (fun f => rfl)
  exact one_clause (i := 1) Hk.xL Hk.nL ⟨by rfl, by decide, .inl Hk.mL⟩ rfl rfl
    (one_clause (i := 1) Hk.xN Hk.nN ⟨by rfl, by decide, .inl Hk.mN⟩ rfl rfl .stop)
theorem pe_hd (Hk : HeardK X.K X.mg g C) (Tk : TabOk X Ts c P) (hr : Room (k + 2) X.A) (hg : Gl X "_law_heard") (L : LamS X.env.scope scope)
    (hbody : ∀ (A : Around) (outer : List Env) (s : Shared) (H : Hp) (E : XK) (f c' : Addr), Room k (A.deeper (lamEnv X scope s.heap.objs.size f c')) → PE (lamCx X A outer s H E scope f c') body (t E)) :
    PE X (.Call (.Name "_law_heard" p) [.Lambda noA body scope lpos] [] pos) (tLam Ts (TTh X.K (rowsH C)) t) := by
  obtain ⟨oc, od, kV, doc, pm, an, cdv, ct, osl, lk, hc⟩ := Hk.ex
  have F := fun_mk (st := sHeard) lk hc Hk.kp
  have b := F.binds (ps := ["call"]) fun _ _ _ _ _ _ us hl => match us, hl with | [_], _ => rfl
  exact pe_lamcall (P := P) (c := c) hg Hk.mgf Hk.kp lk hc b scHeard rfl (.inl rfl) (heard_here Hk) Tk.tb Tk.code Tk.mem Tk.one hr L rfl (fun _ _ _ _ _ => rfl) hbody
theorem pe_hdD {x : Str} {n : Int} {j : Nat} {p1 p2 : Pos} (Hk : HeardK X.K X.mg g C) (Tk : TabOk X Ts c P) (hr : Room (k + 2) X.A) (hg : Gl X "_law_heard") (S : ScD X.env.scope scope x) (nx : ∀ i : Nat, X.N[i]? ≠ some x)
    (hbd : BindD x n (one x n p1 p2 j) body scope)
    (hbody : ∀ (A : Around) (outer : List Env) (s : Shared) (H : Hp) (E : XK) (f c' : Addr), Room k (A.deeper (lamEnv X scope s.heap.objs.size f c')) → PE (lamCx X A outer s H E scope f c') body (t E)) :
    PE X (.Call (.Name "_law_heard" p) [.Lambda (one x n p1 p2 j) body scope lpos] [] pos) (tLam Ts (TTh X.K (rowsH C)) t) := by
  obtain ⟨oc, od, kV, doc, pm, an, cdv, ct, osl, lk, hc⟩ := Hk.ex
  have F := fun_mk (st := sHeard) lk hc Hk.kp
  have b := F.binds (ps := ["call"]) fun _ _ _ _ _ _ us hl => match us, hl with | [_], _ => rfl
  exact pe_lamD (P := P) (c := c) hg Hk.mgf Hk.kp lk hc b scHeard rfl (.inl rfl) (heard_here Hk) Tk.tb Tk.code Tk.mem Tk.one hr S nx hbd hbody
end
theorem bindD {n : Int} {p1 p2 : Pos} {j : Nat} {body : Expr} {scope : Scope} : BindD "own" n (one "own" n p1 p2 j) body scope := fun _ _ _ _ _ _ _ => ⟨_, rfl, rfl⟩
/-! ### what stays where lambdas are made and the state is changed -/
def KE (p l : Addr) (H H' : Hp) : Prop := ∀ b o, H b = some o → b ≠ p → b ≠ l → (∀ ps, o ≠ .tbl ps) → H' b = some o
theorem KE.trans {p l : Addr} {H1 H2 H3 : Hp} (a : KE p l H1 H2) (b : KE p l H2 H3) : KE p l H1 H3 := fun x o e n1 n2 n3 => b x o (a x o e n1 n2 n3) n1 n2 n3
theorem Kp.ke {p l : Addr} {H H' : Hp} (k : Kp p l H H') : KE p l H H' := fun b o e n1 n2 _ => k b o e n1 n2
theorem ExtN.ke {p l : Addr} {H H' : Hp} (k : ExtN H H') : KE p l H H' := fun b o e _ _ n => k b o e n
theorem ExtN.same {H H' : Hp} (k : Same H H') : ExtN H H' := fun b o e _ => k b o e
theorem ExtN.t {K : PySem.W.Frag} {H H' : Hp} {a : Addr} {xs : List V} (e : ExtN H H') (h : SqT K H a xs) : SqT K H' a xs := by
  rcases h with (h | ⟨o, h⟩) | h
  · exact .inl (.inl (e _ _ h (by intro ps z; cases z)))
  · exact .inl (.inr ⟨o, e _ _ h (by intro ps z; cases z)⟩)
  · exact .inr h
theorem ExtN.fr {K : PySem.W.Frag} {H H' : Hp} {v : V} {q : F} (e : ExtN H H') (h : Fr K H v q) : Fr K H' v q := by
  obtain ⟨a, rfl, s⟩ := h
  exact ⟨a, rfl, ExtN.t e s⟩
theorem Sta.ext {H H' : Hp} {p c l : Addr} {n : Nat} {t : Int} (S : Sta H p c l n t) (e : ExtN H H') : Sta H' p c l n t := by
  obtain ⟨cs, a1, a2⟩ := S.cs
  obtain ⟨ls, b1, b2⟩ := S.ls
  exact ⟨e _ _ S.d (by intro ps z; cases z), ⟨cs, e _ _ a1 (by intro ps z; cases z), a2⟩, ⟨ls, e _ _ b1 (by intro ps z; cases z), b2⟩, S.ne, S.n1, S.n2, S.t0⟩
theorem Tabs.kp {Ts : List (Addr × Str)} {H H' : Hp} {p c l : Addr} {n : Nat} {t : Int} (T : Tabs Ts H) (S : Sta H p c l n t) (k : Kp p l H H') : Tabs Ts H' := by
  obtain ⟨ls, b1, _⟩ := S.ls
  intro q hq
  obtain ⟨ps, h1, h2, h3⟩ := T q hq
  refine ⟨ps, k _ _ h1 (ne_of h1 S.d (by intro z; cases z)) (ne_of h1 b1 (by intro z; cases z)), h2, fun pos cv hc => ?_⟩
  obtain ⟨c, e1, e2⟩ := h3 pos cv hc
  exact ⟨c, e1, k _ _ e2 (ne_of e2 S.d (by unfold CodeO; intro z; cases z)) (ne_of e2 b1 (by unfold CodeO; intro z; cases z))⟩
theorem Tabs.same {Ts : List (Addr × Str)} {H H' : Hp} (T : Tabs Ts H) (e : Same H H') : Tabs Ts H' := T.ext e
section
variable {K : PySem.W.Frag} {H H' : Hp}
theorem sqL_ext (e : ExtN H H') {a : Addr} {xs : List V} (h : SqL K H a xs) : SqL K H' a xs := by
  rcases h with (h | ⟨o, h⟩) | h
  · exact .inl (.inl (e _ _ h (by intro ps z; cases z)))
  · exact .inl (.inr ⟨o, e _ _ h (by intro ps z; cases z)⟩)
  · exact .inr h
mutual
theorem dp_ext (e : ExtN H H') : ∀ (d : PyData) (v : V), Dp K H v d → Dp K H' v d
  | .none, _, h => by
    cases h
    exact .non
  | .bool b, _, h => by
    cases h
    exact .bl _
  | .int i, _, h => by
    cases h
    exact .int _
  | .str x, _, h => by
    cases h
    exact .str _
  | .list ds, _, h => by
    cases h with
    | lst hs ha => exact .lst (sqL_ext e hs) (dpAll_ext e ds _ ha)
  | .tuple ds, _, h => by
    cases h with
    | tup hs ha => exact .tup (ExtN.t e hs) (dpAll_ext e ds _ ha)
  | .dict _, _, h => by cases h
theorem dpAll_ext (e : ExtN H H') : ∀ (ds : List PyData) (vs : List V), DpAll K H vs ds → DpAll K H' vs ds
  | [], _, h => by
    cases h
    exact .nil
  | d :: ds, _, h => by
    cases h with
    | cons h1 h2 => exact .cons (dp_ext e d _ h1) (dpAll_ext e ds _ h2)
end
end
/-- a def whose code object is known by its address -/
structure FunC (K : PySem.W.Frag) (x qual : Str) (st : Stmt) (f : Addr) (fd : FuncData) (c : Addr) : Prop where
  ex : ∃ (oc : Value) (od : Option Addr) (kV doc pm : Value) (an : Option Addr) (ct : Value) (osl : Array (Option Value)),
    fd = PySem.W.fnOf x qual (defArgs st) (defBody st) (defScope st) .none kV doc pm an (.ref c) ct ∧ K.lookup f = some ⟨oc, od, .func fd, osl⟩ ∧ PySem.W.codeIn K (.ref c) qual = true
structure DefC (K : PySem.W.Frag) (mg : Str → Option Value) (x : Str) (st : Stmt) (ps : List Str) (c : Addr) : Prop where
  ex : ∃ (f : Addr) (fd : FuncData), FunC K x x st f fd c ∧ mg x = some (.ref f) ∧ PySem.W.keepIn K (.ref f) = true ∧ Binds K fd ps []
section
variable {P : Program} {w : World} {K : PySem.W.Frag} {mg : Str → Option Value} {base : Heap} {k : Nat} {f c : Addr} {fd : FuncData} {sp : Sp} {x qual : Str} {st : Stmt} {N ps : List Str}
theorem DefC.calG (D : DefC K mg x st ps c) (h : ∀ f fd, FunC K x x st f fd c → FnG P w K mg base k f fd ps sp) : CalG P w K mg base k x sp := by
  obtain ⟨f, fd, F, m, kp, b⟩ := D.ex
  exact ⟨f, fd, ps, h f fd F, m, kp, b⟩
theorem FnG.okC (F : FunC K x qual st f fd c) (S : FnScope N ps (defScope st)) (len : ∀ vs H Q E, sp vs H Q E → vs.length = ps.length)
    (hbody : ∀ (A : Around) (outer : List Env) (s : Shared) (H : Hp) (vs : List V) (Q : VK) (E : XK), A.guards = some [] → Room k (A.deeper (PyProof.Rows.envOfC qual (defScope st) s.heap.objs.size f (.ref c))) → sp vs H Q E →
      ∃ t, PSs (cxOf CX0 P w K mg base N qual (defScope st) f (.ref c) A outer s H E).nox (defBody st) t ∧ t { nx := fun _ H' => Q .non H', rt := Q } (start N vs) H) : FnG P w K mg base (k + 1) f fd ps sp := by
  obtain ⟨oc, od, kV, doc, pm, an, ct, osl, rfl, lk, hcd⟩ := F.ex
  refine ⟨len, fun A outer s H args us vs Q E hg hr e0 hb r h => ?_⟩
  refine LamX.run_ofS lk hcd S hr e0 hb r (len _ _ _ _ h) (fun hr' => ?_)
  obtain ⟨t, a, b⟩ := hbody A outer s H vs Q E hg hr' h
  exact ⟨t, a.nox, b⟩
end
/-- what holds between the statements -/
structure Rel (Ts : List (Addr × Str)) (H H1 : Hp) (p c l : Addr) (n : Nat) (u : Int) : Prop where
  S : Sta H1 p c l n u
  T : Tabs Ts H1
  k : KE p l H H1
theorem Rel.kp {Ts : List (Addr × Str)} {H H1 H2 : Hp} {p c l : Addr} {n : Nat} {u v : Int} (R : Rel Ts H H1 p c l n u) (S : Sta H2 p c l n v) (k : Kp p l H1 H2) : Rel Ts H H2 p c l n v := ⟨S, Tabs.kp R.T R.S k, R.k.trans k.ke⟩
theorem Rel.same {Ts : List (Addr × Str)} {H H1 H2 : Hp} {p c l : Addr} {n : Nat} {u : Int} (R : Rel Ts H H1 p c l n u) (e : Same H1 H2) : Rel Ts H H2 p c l n u := R.kp (R.S.mono e) (Kp.of e)
theorem ExtN.t2 {K : PySem.W.Frag} {H H' : Hp} {v : V} {d : PyData} (e : ExtN H H') (h : Dp K H v d) : Dp K H' v d := dp_ext e d v h
theorem ExtN.l {H H' : Hp} {a : Addr} {xs : List V} (e : ExtN H H') (h : H a = some (.lst xs)) : H' a = some (.lst xs) := e _ _ h (by intro ps z; cases z)
theorem ExtN.tp {H H' : Hp} {a : Addr} {xs : List V} (e : ExtN H H') (h : H a = some (.tup xs)) : H' a = some (.tup xs) := e _ _ h (by intro ps z; cases z)
/-- a tuple of a word and data -/
theorem dp_word {K : PySem.W.Frag} {H : Hp} {a : Addr} {x : Str} {v : V} {d : PyData} (h : H a = some (.tup [.str x, v])) (hd : Dp K H v d) : Dp K H (.ref a) (.tuple [.str x, d]) := .tup (SqT.of h) (.cons (.str x) (.cons hd .nil))
theorem dp_lit {K : PySem.W.Frag} {H : Hp} {p : Addr} {a b : Int} : Dp K (upd H p (.tup [.int a, .int b])) (.ref p) (dF (a, b)) := .tup (SqT.of upd_same) (.cons (.int _) (.cons (.int _) .nil))
/-- conditions of a text, told of data without heap -/
def shB (d : PyData) : Bool := d.showable && !d.hasDict && decide (d.depth ≤ 60) && d.leavesShort 2600 && decide (d.weight ≤ 6000)
theorem sh_by {d : PyData} (h : shB d = true) : Sh.Ok d := by
  simp only [shB, Bool.and_eq_true, decide_eq_true_eq, Bool.not_eq_true'] at h
  obtain ⟨⟨⟨⟨h1, h2⟩, h3⟩, h4⟩, h5⟩ := h
  exact Sh.of h1 h2 h3 h4 h5
/-- all but the list at l -/
def KL (l : Addr) (H H' : Hp) : Prop := ∀ b o, H b = some o → b ≠ l → (∀ ps, o ≠ .tbl ps) → H' b = some o
theorem KL.of {l : Addr} {H H' : Hp} (e : ExtN H H') : KL l H H' := fun b o h _ n => e b o h n
theorem KL.trans {l : Addr} {H1 H2 H3 : Hp} (a : KL l H1 H2) (b : KL l H2 H3) : KL l H1 H3 := fun x o e n1 n2 => b x o (a x o e n1 n2) n1 n2
theorem KL.upd {l : Addr} {H : Hp} {o : HO} : KL l H (upd H l o) := fun b o e n _ => (upd_ne n).trans e
theorem KL.ext {l : Addr} {H0 H1 H2 : Hp} (e : ExtN H0 H1) (h : H0 l = none) (k : KL l H1 H2) : ExtN H0 H2 := fun b o z n => k b o (e b o z n) (ne_of_none z h) n
theorem KL.tp {l p : Addr} {H H' : Hp} {xs ys : List V} (k : KL l H H') (hl : H l = some (.lst ys)) (h : H p = some (.tup xs)) : H' p = some (.tup xs) := k p _ h (ne_of h hl (by intro z; cases z)) (by intro ps z; cases z)
theorem tabs_app {Ts : List (Addr × Str)} {H : Hp} {l : Addr} {xs ys : List V} (T : Tabs Ts H) (hl : H l = some (.lst xs)) : Tabs Ts (upd H l (.lst ys)) := by
  intro q hq
  obtain ⟨ps, h1, h2, h3⟩ := T q hq
  refine ⟨ps, (upd_ne (ne_of h1 hl (by intro z; cases z))).trans h1, h2, fun pos cv hc => ?_⟩
  obtain ⟨c, e1, e2⟩ := h3 pos cv hc
  exact ⟨c, e1, (upd_ne (ne_of e2 hl (by unfold CodeO; intro z; cases z))).trans e2⟩
theorem dpAll_app {K : PySem.W.Frag} {H : Hp} : ∀ {ds es : List PyData} {xs ys : List V}, DpAll K H xs ds → DpAll K H ys es → DpAll K H (xs ++ ys) (ds ++ es)
  | _, _, _, _, .nil, h => h
  | _, _, _, _, .cons h1 h2, h => .cons h1 (dpAll_app h2 h)
/-- the words of the classes -/
inductive RowOf (C : Cls) : Str → Str → Addr → Prop
  | l : RowOf C "ladder" "given" C.L
  | n : RowOf C "number" "given" C.N
section
variable {P : Program} {w : World} {K : PySem.W.Frag} {mg : Str → Option Value} {g c : Addr} {C : Cls} {Q : VK} {H : Hp} {v : V} {wd fld : Str}
theorem out_of (Hk : HeardK K mg g C) (R : RowOf C wd fld c) (h : ∀ p H3, Same H H3 → H3 p = some (.tup [.str wd, v]) → Q (.ref p) H3) : OutW (Hd.hE K Q (rowsH C)) c fld v H := by
  intro d hd
  have s1 := same_new (o := .xd [(fld, v)]) hd
  cases R with
  | l => exact ⟨true, Hk.xLL, fun _ => ⟨rfl, d, _, v, rfl, upd_same, rfl, fun p hp => h p _ (s1.trans (same_new hp)) upd_same⟩, fun z => by cases z⟩
  | n => exact ⟨false, Hk.xNL, (fun z => by cases z), fun _ => ⟨true, Hk.xNN, fun _ => ⟨rfl, d, _, v, rfl, upd_same, rfl, fun p hp => h p _ (s1.trans (same_new hp)) upd_same⟩, fun z => by cases z⟩⟩
end
end Rs


set_option Elab.async false
set_option linter.all false
set_option maxRecDepth 100000
set_option maxHeartbeats 400000
namespace Rs
open PySem L2 Bs Fq LamX
/-! ### sizes of what is told -/
def Sz (q : F) : Prop := Lt2 350 q.1 ∧ Lt2 350 q.2
def SzA (qs : List F) : Prop := ∀ q ∈ qs, Sz q
theorem sz_log {x : Int} (h : Lt2 350 x) : x.natAbs.log2 < 350 := PySem.Flt.log2_lt_of (by decide) h
theorem int_short' {i : Int} (h : Lt2 350 i) : (PyData.shown (.int i)).length ≤ 500 := by
  have := int_text_length_le (a := i) (k := 350) (by decide) (sz_log h)
  have e : (PyData.shown (.int i)).length = (toString i).length := by
    show (Str.ofString (toString i)).length = _
    exact ofString_length _
  omega
/-- data that is small, to so many levels, with so much weight -/
structure Ft (k n : Nat) (d : PyData) : Prop where
  s : d.showable = true
  h : d.hasDict = false
  dep : d.depth ≤ k
  l : d.leavesShort 500 = true
  w : d.weight ≤ n
structure FtA (k n : Nat) (ds : List PyData) : Prop where
  s : PyData.showableAll ds = true
  h : PyData.hasDictAll ds = false
  dep : PyData.depthAll ds ≤ k
  l : PyData.leavesShortAll 500 ds = true
  w : PyData.weightAll ds ≤ n
theorem FtA.nil {k : Nat} : FtA k 0 [] := ⟨rfl, rfl, Nat.zero_le _, rfl, Nat.le_refl _⟩
theorem FtA.cons {k n m : Nat} {d : PyData} {ds : List PyData} (a : Ft k n d) (b : FtA k m ds) : FtA k (n + 1 + m) (d :: ds) := by
  refine ⟨?_, ?_, ?_, ?_, ?_⟩
  · simp only [PyData.showableAll, a.s, b.s, Bool.and_self]
  · simp only [PyData.hasDictAll, a.h, b.h, Bool.or_self]
  · have := a.dep
    have := b.dep
    simp only [PyData.depthAll]
    omega
  · simp only [PyData.leavesShortAll, a.l, b.l, Bool.and_self]
  · have := a.w
    have := b.w
    simp only [PyData.weightAll]
    omega
theorem FtA.tup {k n : Nat} {ds : List PyData} (a : FtA k n ds) : Ft (k + 1) n (.tuple ds) := by
  refine ⟨a.s, a.h, ?_, a.l, a.w⟩
  have := a.dep
  simp only [PyData.depth]
  omega
theorem FtA.lst {k n : Nat} {ds : List PyData} (a : FtA k n ds) : Ft (k + 1) n (.list ds) := by
  refine ⟨a.s, a.h, ?_, a.l, a.w⟩
  have := a.dep
  simp only [PyData.depth]
  omega
theorem Ft.mono {k n m i : Nat} {d : PyData} (a : Ft k n d) (h1 : k ≤ m) (h2 : n ≤ i) : Ft m i d := ⟨a.s, a.h, Nat.le_trans a.dep h1, a.l, Nat.le_trans a.w h2⟩
theorem FtA.mono {k n m i : Nat} {d : List PyData} (a : FtA k n d) (h1 : k ≤ m) (h2 : n ≤ i) : FtA m i d := ⟨a.s, a.h, Nat.le_trans a.dep h1, a.l, Nat.le_trans a.w h2⟩
theorem Ft.ok {d : PyData} {k n : Nat} (a : Ft k n d) (h1 : k ≤ 60) (h2 : n ≤ 33000) : Sh.Ok d := by
  refine ⟨a.s, a.h, Nat.le_trans a.dep h1, ?_⟩
  have := PyData.shown_le 500 (by decide) d a.l
  have e : sizeLine = 16777216 := sizeLine_eq
  have : (500 + 2) * d.weight ≤ 502 * 33000 := Nat.mul_le_mul (Nat.le_refl _) (Nat.le_trans a.w h2)
  omega
theorem ft_int {x : Int} (h : Lt2 350 x) : Ft 0 350 (.int x) := by
  have l := sz_log h
  refine ⟨?_, rfl, ?_, ?_, ?_⟩
  · simp only [PyData.showable, decide_eq_true_eq]
    omega
  · simp [PyData.depth]
  · simp only [PyData.leavesShort, decide_eq_true_eq]
    exact int_short' h
  · simp only [PyData.weight]
    split <;> omega
theorem ft_frac {q : F} (h : Sz q) : Ft 1 702 (dF q) := (FtA.cons (ft_int h.1) (FtA.cons (ft_int h.2) FtA.nil)).tup
theorem ft_fracs : ∀ {qs : List F}, SzA qs → FtA 1 (703 * qs.length) (qs.map dF)
  | [], _ => FtA.nil
  | q :: qs, h => by
    have a := FtA.cons (ft_frac (h q List.mem_cons_self)) (ft_fracs (qs := qs) fun r hr => h r (List.mem_cons_of_mem _ hr))
    refine a.mono (Nat.le_refl _) ?_
    rw [List.length_cons]
    omega
theorem ft_poly {qs : List F} {m : Nat} (h : SzA qs) (l : qs.length ≤ m) : Ft 2 (703 * m) (dP qs) := (ft_fracs h).tup.mono (Nat.le_refl _) (Nat.mul_le_mul (Nat.le_refl _) l)
theorem lt2_small {x : Int} {n : Nat} (h : x.natAbs < n) (hn : n ≤ 2 ^ 250) : Lt2 350 x := Lt2.mono (m := 250) (Nat.lt_of_lt_of_le h hn) (by decide)
theorem zs_sz {n : Nat} {q : F} (h : Zs n q) (e : n ≤ 38) : Sz q := by
  have h2 := h.mono e
  obtain ⟨o, t, v, l⟩ := h2
  have d := vl_dvd o v
  have p := six_pos 38
  have s : q.2 ≤ 6 ^ 38 := Int.le_of_dvd p d
  obtain ⟨x, hx⟩ := d
  have x0 : 0 < x := by
    rw [hx] at p
    exact Int.pos_of_mul_pos_right p o.1 |> id
  have et : q.1 * x = t := by
    unfold Vl at v
    refine mul_cancel (m := q.2) (by have := o.1; omega) ?_
    rw [← v, hx]
    grind
  have b : 2 ^ (9 * 38) < 2 ^ 350 := by decide
  refine ⟨?_, ?_⟩
  · refine Nat.lt_of_le_of_lt (Nat.le_trans ?_ l) b
    rw [← et, Int.natAbs_mul]
    exact Nat.le_mul_of_pos_right _ (by omega)
  · have c : (6 : Int) ^ 38 < 2 ^ 350 := by decide
    have := o.1
    show q.2.natAbs < 2 ^ 350
    omega
theorem za_sz {n : Nat} {l : List F} (h : Za n l) (e : n ≤ 38) : SzA l := fun q hq => zs_sz (h q hq) e
theorem ft_bool (b : Bool) : Ft 0 1 (.bool b) := by
  refine ⟨rfl, rfl, by simp [PyData.depth], ?_, by simp [PyData.weight]⟩
  cases b <;> decide
theorem ft_polys : ∀ {ps : List (List F)}, (∀ p ∈ ps, SzA p ∧ p.length ≤ 6) → FtA 2 (4219 * ps.length) (ps.map dP)
  | [], _ => FtA.nil
  | p :: ps, h => by
    have hp := h p List.mem_cons_self
    have a := FtA.cons (ft_poly hp.1 hp.2) (ft_polys (ps := ps) fun r hr => h r (List.mem_cons_of_mem _ hr))
    refine a.mono (Nat.le_refl _) ?_
    rw [List.length_cons]
    omega
/-- what is told of a ladder -/
def dT (T : F) (ls ss : List F) : PyData := .list [.tuple ((rungs ls ss).map dP), dP (nrms T ss), .bool (endB ss), dL T ls ss]
theorem sh_told {T : F} {ls ss : List F} (h : DrL T ls ss) : Sh.Ok (dT T ls ss) := by
  have l3 := h.l3
  have m3 : ss.length ≤ 3 := by rcases h.sh with ⟨_, e⟩ | ⟨e, _⟩ <;> omega
  have a : FtA 2 (4219 * 4) ((rungs ls ss).map dP) := by
    refine (ft_polys (ps := rungs ls ss) fun p hp => ?_).mono (Nat.le_refl _) (Nat.mul_le_mul (Nat.le_refl _) ?_)
    · obtain ⟨k, hk, rfl⟩ := List.mem_map.mp hp
      have := List.mem_range.mp hk
      have r := ruled_pf h.zl h.zs k
      exact ⟨za_sz r.z (by omega), by rw [r.l]; omega⟩
    · unfold rungs
      rw [List.length_map, List.length_range]
      omega
  have b : Ft 2 (703 * 4) (dP (nrms T ss)) := by
    refine ft_poly (fun q hq => ?_) (by unfold nrms; rw [List.length_map, List.length_range]; omega)
    obtain ⟨k, hk, rfl⟩ := List.mem_map.mp hq
    have := List.mem_range.mp hk
    exact zs_sz (nrm_ok h.zT h.zs k).1 (by omega)
  have d : Ft 3 (702 + 1 + (703 * 3 + 1 + (703 * 3 + 1 + 0))) (dL T ls ss) := by
    have e1 := ft_frac (zs_sz h.zT (by decide))
    have e2 := ft_poly (m := 3) (za_sz h.zl (by decide)) l3
    have e3 := ft_poly (m := 3) (za_sz h.zs (by decide)) m3
    exact (FtA.cons (e1.mono (m := 2) (by decide) (Nat.le_refl _)) (FtA.cons e2 (FtA.cons e3 FtA.nil))).tup
  refine (FtA.cons a.tup (FtA.cons (b.mono (m := 3) (by decide) (Nat.le_refl _)) (FtA.cons ((ft_bool (endB ss)).mono (m := 3) (by decide) (Nat.le_refl _)) (FtA.cons d FtA.nil)))).lst.ok (by decide) (by decide)
end Rs


set_option Elab.async false
set_option linter.all false
set_option maxRecDepth 100000
set_option maxHeartbeats 1000000
namespace Rs
open PySem L2 Bs Fq LamX RZ
theorem sqT_kp' {K : PySem.W.Frag} {H H' : Hp} {p c l : Addr} {n : Nat} {t : Int} {a : Addr} {xs : List V} (k : Kp p l H H') (S : Sta H p c l n t) (s : SqT K H a xs) : SqT K H' a xs := by
  obtain ⟨ls, b1, _⟩ := S.ls
  rcases s with (s | ⟨o, s⟩) | s
  · exact .inl (.inl (k a _ s (ne_of s S.d (by intro z; cases z)) (ne_of s b1 (by intro z; cases z))))
  · exact .inl (.inr ⟨o, k a _ s (ne_of s S.d (by intro z; cases z)) (ne_of s b1 (by intro z; cases z))⟩)
  · exact .inr s
theorem Lad.kp {K : PySem.W.Frag} {H H' : Hp} {p c l : Addr} {n : Nat} {t : Int} {v : V} {T : F} {ls ss : List F} (k : Kp p l H H') (S : Sta H p c l n t) (h : Lad K H v T ls ss) : Lad K H' v T ls ss := by
  obtain ⟨a, v1, v2, v3, rfl, s, f, g, q⟩ := h
  exact ⟨a, v1, v2, v3, rfl, sqT_kp' k S s, k.fr S f, g.kp k S, q.kp k S⟩
/-- what stands in the slots -/
structure Gx (K : PySem.W.Frag) (H H1 : Hp) (p c l : Addr) (n : Nat) (u : Int) (vL v2 v3 v4 : V) (L5 L6 : Addr) (T : F) (ls ss : List F) : Prop where
  lad : Lad K H1 vL T ls ss
  f2 : Fr K H1 v2 T
  p3 : Po K H1 v3 ls
  p4 : Po K H1 v4 ss
  g5 : ∃ xs, H1 L5 = some (.lst xs) ∧ LsAll K L5 H1 xs (rungs ls ss)
  g6 : ∃ ns, H1 L6 = some (.lst ns) ∧ FrAll K H1 ns (nrms T ss)
  S : Sta H1 p c l n u
  k : Kp p l H H1
theorem Gx.mono {K : PySem.W.Frag} {H H1 H2 : Hp} {p c l : Addr} {n : Nat} {u : Int} {vL v2 v3 v4 : V} {L5 L6 : Addr} {T : F} {ls ss : List F} (G : Gx K H H1 p c l n u vL v2 v3 v4 L5 L6 T ls ss) (e : Same H1 H2) : Gx K H H2 p c l n u vL v2 v3 v4 L5 L6 T ls ss := by
  obtain ⟨xs, a1, a2⟩ := G.g5
  obtain ⟨ns, b1, b2⟩ := G.g6
  exact ⟨G.lad.mono e, G.f2.mono e, G.p3.mono e, G.p4.mono e, ⟨xs, e _ _ a1, a2.mono e⟩, ⟨ns, e _ _ b1, b2.mono e⟩, G.S.mono e, G.k.trans (Kp.of e)⟩
theorem nrms_succ (T : F) (ss : List F) (i : Nat) : (List.range (i + 1 + 1)).map (nrm T ss) = (List.range (i + 1)).map (nrm T ss) ++ [mul (nrm T ss i) (co ss i)] := by
  rw [List.range_succ, List.map_append]
  rfl
abbrev sGood : Stmt := top 60
def spGood : Sp := fun vs H Q _ => ∃ (p c l : Addr) (n : Nat) (t : Int), vs = [.ref p] ∧ Sta H p c l n t ∧ t ≤ 5000 ∧ ∀ H' t', t ≤ t' → t' ≤ t + 70 → Sta H' p c l n t' → Kp p l H H' → Q (.bl true) H'
theorem eqv_tup_nil (qs : List F) : PyData.eqv (dP qs) (.tuple []) = qs.isEmpty := by
  cases qs <;> rfl
theorem dL_inj {T T' : F} {ls ls' ss ss' : List F} (h : dL T ls ss = dL T' ls' ss') : T = T' ∧ ls = ls' ∧ ss = ss' := by
  simp only [dL, PyData.tuple.injEq, List.cons.injEq, and_true] at h
  exact ⟨dF_inj h.1, dP_inj h.2.1, dP_inj h.2.2⟩
theorem lad_fin {R : V → F → List F → List F → Hp → VK → XK → Prop} {v : V} {T : F} {ls ss : List F} {H : Hp} {Q : VK} {E : XK} (h : R v T ls ss H Q E) : ∀ T' ls' ss', dL T ls ss = dL T' ls' ss' → ladderD (dL T ls ss) = true → R v T' ls' ss' H Q E := by
  intro T' ls' ss' e _
  obtain ⟨rfl, rfl, rfl⟩ := dL_inj e
  exact h
theorem nolad {T : F} {ls ss : List F} (h : DrL T ls ss) {A : Prop} : ladderD (dL T ls ss) = false → A := fun e => by
  rw [h.lad] at e
  cases e
def tpN (ls ss : List F) : Int := if endB ss = true then 8 else (ls.length : Int) + (ss.length : Int)
theorem DrL.s3 {T : F} {ls ss : List F} (h : DrL T ls ss) : ss.length ≤ 3 ∧ ls.length ≤ ss.length + 1 := by
  have := h.l3
  rcases h.sh with ⟨_, e⟩ | ⟨e, _⟩ <;> omega
theorem tp_most {T : F} {ls ss : List F} (h : DrL T ls ss) : 0 ≤ tpN ls ss ∧ tpN ls ss ≤ mostN ls ss ∧ tpN ls ss ≤ 8 := by
  have := h.l3
  have := h.s3
  unfold tpN mostN
  split
  · omega
  · split <;> omega
theorem row_fin {CN : Addr} {K : PySem.W.Frag} {T : F} {ls ss : List F} {n : Int} {H : Hp} {Q : VK} {E : XK} (d : DrL T ls ss) (n0 : 0 ≤ n) (n1 : n ≤ mostN ls ss) (h : ∀ H' v, Same H H' → Po K H' v (rowL T ls ss n.toNat) → Q v H') :
    ∀ T' ls' ss', dL T ls ss = dL T' ls' ss' → ladderD (dL T ls ss) = true → (betwD 0 (mostN ls' ss') (.int n) = false → ∀ H', Same H H' → OutW E CN "given" (.int n) H') ∧
    (∀ m, PyData.int n = .int m → 0 ≤ m → m ≤ mostN ls' ss' → Zs 1 T' ∧ Za 1 ls' ∧ Za 1 ss' ∧ ∀ H' v, Same H H' → Po K H' v (rowL T' ls' ss' m.toNat) → Q v H') := by
  intro T' ls' ss' e _
  obtain ⟨rfl, rfl, rfl⟩ := dL_inj e
  refine ⟨fun z => ?_, fun m e _ _ => ?_⟩
  · have : betwD 0 (mostN ls ss) (.int n) = true := by
      show (decide (0 ≤ n) && decide (n ≤ mostN ls ss)) = true
      rw [decide_eq_true n0, decide_eq_true n1]
      rfl
    rw [this] at z
    cases z
  · cases e
    exact ⟨d.zT, d.zl, d.zs, h⟩
theorem shaped_dP (qs : List F) : SeqAt.shaped (dP qs) = true := by
  unfold SeqAt.shaped
  rw [Bool.and_eq_true_iff]
  refine ⟨?_, decide_eq_true ?_⟩
  · simpa [dP, PyData.canLay0] using can_dFs qs
  · have := dep_dFs qs
    simp only [dP, PyData.depth]
    omega
theorem eqv_dP_self (qs : List F) : PyData.eqv (dP qs) (dP qs) = true := by
  show PyData.eqvAll (qs.map dF) (qs.map dF) = true
  induction qs with
  | nil => rfl
  | cons q qs ih =>
    show (PyData.eqv (dF q) (dF q) && PyData.eqvAll (qs.map dF) (qs.map dF)) = true
    rw [eqv_dF_self, ih]
    rfl
theorem endB_co {ss : List F} (n : ss ≠ []) : endB ss = decide (co ss (ss.length - 1) = (0, 1)) := by
  unfold endB
  refine decide_eq_decide.mpr ⟨fun h => ?_, fun h z => ?_⟩
  · exact Classical.byContradiction fun z => h (.inr z)
  · rcases z with z | z
    · exact n z
    · exact z h
abbrev NG : List Str := ["state", "ladder_so", "total", "levels", "steps", "rungs", "norms_so", "step", "ended", "told", "top", "row", "short", "rung"]
section
variable {P : Program} {w : World} {K : PySem.W.Frag} {mg : Str → Option Value} {base : Heap} {f CL CN : Addr} {fd : FuncData}
theorem scGood : FnScope NG ["state"] (defScope sGood) := ⟨rfl, rfl, rfl, by decide +kernel, rfl, by decide +kernel, by decide +kernel⟩
theorem ok_good (F : Fun K "_law_good" "_law_good" sGood f fd) (T : Blt mg)
    (DR : Cal P w K mg base 2 "_law_draw" spDraw) (DW : Cal P w K mg base 4 "_law_drawn" (spDrawn K)) (RU : Cal P w K mg base 4 "_law_ruled" (spLRuled K)) (lT : Cal P w K mg base 2 "_law_times" (spOp K mul domL)) (RG : Cal P w K mg base 5 "_law_row_good" (spRowGood K)) (MI : Cal P w K mg base 5 "_law_misfits" (spMisfits K))
    (RP : CalX P w K mg base 7 "rung_polys" (spLad K CL (rRungs K))) (NO : CalX P w K mg base 6 "norms" (spLad K CL (rNorms K))) (IE : CalX P w K mg base 6 "is_ended" (spLad K CL rEnded)) (NL : CalX P w K mg base 5 "need_ladder" (spNeedLad K CL)) (RW : CalX P w K mg base 6 "row_of" (spRowOf K CL CN)) :
    FnG P w K mg base 8 f fd ["state"] spGood := by
  refine FnG.ok F scGood (fun vs H Q E h => ?_) (fun cdv A outer s H vs Q E hgd hr h => ?_)
  · obtain ⟨p, c, l, n, t, rfl, _⟩ := h
    rfl
  · obtain ⟨p, c, l, n, t, rfl, S, t5, kk⟩ := h
    refine ⟨_, pss_cons (ps_set (i := 1) scGood.nd rfl (Or.inl rfl) (pe_n DW hr (by decide) (by rfl) (pa_cons (pv 0) pa_nil)))
      (pss_cons (ps_asg (pv 1) (pg_tup rfl (pgs_cons (pg_name (i := 2) scGood.nd rfl (.inl rfl)) (pgs_cons (pg_name (i := 3) scGood.nd rfl (.inl rfl)) (pgs_cons (pg_name (i := 4) scGood.nd rfl (.inl rfl)) pgs_nil)))))
      (pss_cons (ps_par (i := 5) (j := 6) (by rfl) scGood.nd rfl rfl (by decide) rfl rfl (pa_cons (pe_n RU hr (by decide) (by rfl) (pa_cons (pv 1) pa_nil)) (pa_cons (pe_lst (pa_cons (pv 2) pa_nil)) pa_nil)) (by rfl))
      (C8.pss_cut (ps_for PassesOwn.never rfl (pi_tup (pv 4)) (pg_name (i := 7) scGood.nd rfl (.inl rfl))
        (pss_one (ps_expr (pe_bm PySem.F.plainAttrs_list PySem.F.slot_list_append PySem.F.type_list_append mt_append (pv 6) (pa_cons (pe_n lT hr (by decide) (by rfl) (pa_cons (pe_ix ix_list (pv 6) (pe_un un_neg pe_int) (fun _ _ => rfl)) (pa_cons (pv 7) pa_nil))) pa_nil)))))
      (C8.pss_cut (ps_set (i := 8) scGood.nd rfl (Or.inl rfl) (pe_and (pe_cmpR (op_neD hr.units) (pv 4) (pe_tup pa_nil) (nomark _)) (pe_one (pe_cmpR (op_eqD hr.units) (pe_ix ix_tup (pv 4) (pe_un un_neg pe_int) (fun _ _ => rfl)) (pe_tup (pa_cons pe_int (pa_cons pe_int pa_nil))) (nomark _)))))
      (C8.pss_cut (ps_set (i := 9) scGood.nd rfl (Or.inl rfl) (pe_lst (pa_cons (pe_x RP hr (by decide) (by rfl) passL (pa_cons (pv 1) pa_nil)) (pa_cons (pe_x NO hr (by decide) (by rfl) passL (pa_cons (pv 1) pa_nil)) (pa_cons (pe_x IE hr (by decide) (by rfl) passL (pa_cons (pv 1) pa_nil)) (pa_cons (pe_x NL hr (by decide) (by rfl) passL (pa_cons (pv 1) pa_nil)) pa_nil))))))
      (C8.pss_cut (ps_if (pt_cmpR op_ne (pe_callB (call_repr hgd hr.units) (by rfl) T.repr (by decide +kernel) (pa_cons (pv 9) pa_nil))
          (pe_callB (call_repr hgd hr.units) (by rfl) T.repr (by decide +kernel) (pa_cons (pe_lst (pa_cons (pe_callTy call_tuple_of (by rfl) T.tuple (by decide +kernel) (pa_cons (pe_lc (own := [("rung", 13)]) (g := gName 13) (tt := tYes) rfl scGood.nd (pi_list (pv 5)) (blkOk_by (N := NG) (sc := defScope sGood) (by decide +kernel))
              (fun _ _ _ _ _ => pg_name (i := 13) scGood.nd rfl (Or.inl rfl)) (fun _ _ _ _ _ => pts_nil) (fun _ _ _ _ _ => pe_callTy (r := fun xs H Q => ∃ p ys, xs = [V.ref p] ∧ ((SqL K H p ys ∧ ∀ l, H l = none → Q (V.ref l) (upd H l (.tup ys))) ∨ (SqT K H p ys ∧ Q (V.ref p) H))) call_tuple_of (by rfl) T.tuple (by decide +kernel) (pa_cons (pv 13) pa_nil))) pa_nil))
            (pa_cons (pe_callTy call_tuple_of (by rfl) T.tuple (by decide +kernel) (pa_cons (pv 6) pa_nil)) (pa_cons (pv 8) (pa_cons (pv 1) pa_nil))))) pa_nil)) (nomark _)) (pss_one (ps_ret pe_bl)) pss_nil)
      (C8.pss_cut (ps_set (i := 10) scGood.nd rfl (Or.inl rfl) (pe_ifExp (pt_val (pv 8)) pe_int (pe_op op_add (pe_callB call_len_seq (by rfl) T.len (by decide +kernel) (pa_cons (pv 3) pa_nil)) (pe_callB call_len_seq (by rfl) T.len (by decide +kernel) (pa_cons (pv 4) pa_nil)))))
      (C8.pss_cut (ps_set (i := 11) scGood.nd rfl (Or.inl rfl) (pe_x RW hr (by decide) (by rfl) passL (pa_cons (pv 1) (pa_cons (pv 10) pa_nil))))
      (C8.pss_cut (ps_if (PW.pt (pw_or (pt_cmpR op_ne (pe_callB call_len_seq (by rfl) T.len (by decide +kernel) (pa_cons (pv 11) pa_nil)) (pe_op op_add (pv 10) pe_int) (nomark _))
          (pw_or (pt_cmpR (op_neD hr.units) (pe_ix ix_tup (pv 11) pe_int (fun _ _ => rfl)) (pv 2) (nomark _)) (pw_or1 (pt_not (pt_val (pe_n RG hr (by decide) (by rfl) (pa_cons (pv 11) (pa_cons (pv 5) (pa_cons (pv 6) pa_nil)))))))))) (pss_one (ps_ret pe_bl)) pss_nil)
      (C8.pss_cut (ps_if (PW.pt (pw_and (pt_val (pv 8)) (pw_and1 (pt_cmpR (op_neD hr.units) (pe_n MI hr (by decide) (by rfl) (pa_cons (pv 11) (pa_cons (pe_ix ix_list (pv 5) (pe_un un_neg pe_int) (fun _ _ => rfl)) pa_nil))) (pe_lst pa_nil) (nomark _))))) (pss_one (ps_ret pe_bl)) pss_nil)
      (C8.pss_cut (ps_set (i := 12) scGood.nd rfl (Or.inl rfl) (pe_n DR hr (by decide) (by rfl) (pa_cons (pv 0) (pa_cons (pe_op op_add (pv 10) pe_int) pa_nil))))
      (pss_one (ps_ret (pe_and (pe_cmpR (op_eqD hr.units) (pe_x RW hr (by decide) (by rfl) passL (pa_cons (pv 1) (pa_cons (pv 12) pa_nil))) (pe_slice sl_tupA (pv 11) po_none (po_some (pe_op op_add (pv 12) pe_int))) (nomark _))
        (pe_one (pe_cmpR (op_eqD hr.units) (pe_x RW hr (by decide) (by rfl) passL (pa_cons (pv 1) (pa_cons (pv 10) pa_nil))) (pv 11) (nomark _))))))))))))))))), ?_⟩
    refine ⟨_, rfl, p, c, l, n, t, rfl, S, by omega, fun H1 vL T0 ls ss u lad dl ua ub S1 k1 => ?_⟩
    obtain ⟨a, v2, v3, v4, rfl, sq, f2, p3, b4, ys, rfl, sy, fy⟩ := id lad
    have ly := fy.len
    have l3 := dl.l3
    obtain ⟨m3, ll⟩ := dl.s3
    have zT := dl.zT
    have zl := dl.zl
    have zs := dl.zs
    refine ⟨_, rfl, a, _, rfl, sq, rfl, _, _, rfl, _, _, rfl, _, _, rfl, rfl, ?_⟩
    refine ⟨_, rfl, V.ref a, T0, ls, ss, rfl, lad, zl, zs, by omega, ll, fun H2 L5 xs s2 n2 g2 la => ⟨_, rfl, (by show 1 ≤ sizeLine; decide), fun L6 h6 => ⟨_, _, rfl, ?_⟩⟩⟩
    have s3 := same_new (o := .lst [v2]) h6
    have g6 : upd H2 L6 (.lst [v2]) L6 = some (.lst [v2]) := upd_same
    have lad2 := lad.mono s2
    have f22 := f2.mono s2
    have p32 := p3.mono s2
    have sy2 := Bs.Same.t s2 sy
    have fy2 := fy.mono s2
    have S2 := S1.mono s2
    have k2 := k1.trans (Kp.of s2)
    -- the norms
    refine ⟨fun σ H3 => ∃ v7, Gx K H H3 p c l n u (V.ref a) v2 v3 (V.ref b4) L5 L6 T0 ls ss ∧ σ = [some (V.ref p), some (V.ref a), some v2, some v3, some (V.ref b4), some (V.ref L5), some (V.ref L6), v7, none, none, none, none, none, none], ?_, ?_⟩
    · refine ⟨_, rfl, b4, rfl, ⟨_, Bs.Same.t s3 sy2⟩, for_tup (K := K) (a := b4) (xs := ys) (fun i σ H3 => Same H2 H3 ∧ ∃ acc v7, H3 L6 = some (.lst acc) ∧ FrAll K H3 acc ((List.range (i + 1)).map (nrm T0 ss)) ∧ σ = [some (V.ref p), some (V.ref a), some v2, some v3, some (V.ref b4), some (V.ref L5), some (V.ref L6), v7, none, none, none, none, none, none])
        ⟨s3, [v2], none, g6, .cons (f22.mono s3) .nil, rfl⟩ (fun i σ H3 _ q => Bs.Same.t q.1 sy2) ?_ ?_⟩
      · rintro i x σ H3 hx ⟨s4, acc, v7, hL3, fa, rfl⟩
        have hi : i < ss.length := by
          have := (List.getElem?_eq_some_iff.mp hx).1
          omega
        obtain ⟨x', q, e1, e2, fq⟩ := fy2.get hi
        rw [hx] at e1
        cases e1
        have lacc : acc.length = i + 1 := by rw [fa.len, List.length_map, List.length_range]
        obtain ⟨w1, r, e3, e4, fu⟩ := fa.get (i := i) (by rw [List.length_map, List.length_range]; omega)
        have er : r = nrm T0 ss i := by
          rw [List.getElem?_map, List.getElem?_range (by omega)] at e4
          cases e4
          rfl
        have eq_ : q = co ss i := (co_get e2).symm
        have an : acc ≠ [] := fun z => by rw [z] at lacc; cases lacc
        have hn := nrm_ok zT zs i
        subst er
        subst eq_
        refine ⟨_, rfl, Or.inl ⟨rfl, _, SqL.of hL3⟩, _, rfl, _, rfl, L6, acc, _, w1, rfl, rfl, SqL.of hL3, atI_neg1 an (by rw [lacc]; exact e3), _, rfl, w1, x, nrm T0 ss i, co ss i, rfl, fu, fq.mono s4, ⟨zs_dl hn.1, zs_dl (zs.co i)⟩, fun p9 hp => ?_⟩
        have s5 := same_new (o := fr (mul (nrm T0 ss i) (co ss i))) hp
        have hL4 := s5 _ _ hL3
        refine ⟨L6, acc, _, rfl, rfl, hL4, small1000 (by omega), ?_⟩
        refine ⟨fun c o e => (upd_ne (ne_of_none e h6)).trans (s5 c o (s4 c o e)), acc ++ [.ref p9], some x, upd_same, ?_, rfl⟩
        rw [nrms_succ]
        exact (FrAll.off hL4 (fa.mono s5)).snoc ((Fr.of upd_same).off hL4)
      · rintro σ H3 ⟨s4, acc, v7, hL3, fa, rfl⟩
        rw [ly] at fa
        exact ⟨v7, ⟨lad2.mono s4, f22.mono s4, p32.mono s4, ⟨b4, ys, rfl, Bs.Same.t s4 sy2, fy2.mono s4⟩, ⟨xs, s4 _ _ g2, la.mono s4⟩, ⟨acc, hL3, fa⟩, S2.mono s4, k2.trans (Kp.of s4)⟩, rfl⟩
    clear lad lad2 f2 f22 p3 p32 sy sy2 fy fy2 S1 S2 k1 k2 la g2 g6 s3 h6 s2 n2 sq
    rintro σ H3 ⟨v7, G3, rfl⟩
    -- ended
    refine ⟨fun σ H4 => Gx K H H4 p c l n u (V.ref a) v2 v3 (V.ref b4) L5 L6 T0 ls ss ∧ σ = [some (V.ref p), some (V.ref a), some v2, some v3, some (V.ref b4), some (V.ref L5), some (V.ref L6), v7, some (V.bl (endB ss)), none, none, none, none, none], ?_, ?_⟩
    · obtain ⟨b, zs', e4, sz, fz⟩ := G3.p4
      cases e4
      have lz := fz.len
      refine ⟨_, rfl, (by show 0 ≤ sizeLine; decide), fun t0 h0 => ?_⟩
      have s4 := same_new (o := .tup []) h0
      refine ⟨dP ss, .tuple [], (G3.p4.mono s4).dp, .tup (SqT.of upd_same) .nil, shaped_dP _, rfl, _, rfl, ?_⟩
      rw [eqv_tup_nil]
      by_cases ne : ss = []
      · subst ne
        exact iteF ⟨G3.mono s4, rfl⟩
      · have et : (!ss.isEmpty) = true := by
          cases ss with
          | nil => exact absurd rfl ne
          | cons _ _ => rfl
        rw [et]
        refine iteT ?_
        have yn : zs' ≠ [] := fun z => ne (List.eq_nil_of_length_eq_zero (by rw [← lz, z]; rfl))
        have rp := List.length_pos_iff.mpr ne
        obtain ⟨w1, q, g1, g2, g3⟩ := fz.get (i := ss.length - 1) (by omega)
        have eq_ : co ss (ss.length - 1) = q := co_get g2
        rw [← lz] at g1
        refine ⟨_, rfl, _, rfl, b4, zs', _, w1, rfl, rfl, Bs.Same.t s4 sz, atI_neg1 yn g1, (by show 2 ≤ sizeLine; decide), fun t1 h1 => ?_⟩
        have s5 := same_new (o := .tup [.int 0, .int 1]) h1
        refine ⟨dF q, dF (0, 1), (g3.mono (s4.trans s5)).dp, (Fr.of (q := (0, 1)) upd_same).dp, rfl, rfl, ?_⟩
        rw [eqv_nought, ← eq_, ← endB_co ne]
        exact ⟨G3.mono (s4.trans s5), rfl⟩
    clear G3
    rintro σ H4 ⟨G4, rfl⟩
    -- told
    refine ⟨fun σ H5 => ∃ L9, Gx K H H5 p c l n u (V.ref a) v2 v3 (V.ref b4) L5 L6 T0 ls ss ∧ Dp K H5 (.ref L9) (dT T0 ls ss) ∧ σ = [some (V.ref p), some (V.ref a), some v2, some v3, some (V.ref b4), some (V.ref L5), some (V.ref L6), v7, some (V.bl (endB ss)), some (V.ref L9), none, none, none, none], ?_, ?_⟩
    · refine ⟨_, rfl, V.ref a, dL T0 ls ss, rfl, G4.lad.dp, nolad dl, lad_fin ?_⟩
      refine ⟨zl, zs, fun Ha w1 sa pt => ?_⟩
      have Ga := G4.mono sa
      refine ⟨_, rfl, V.ref a, dL T0 ls ss, rfl, Ga.lad.dp, nolad dl, lad_fin ?_⟩
      refine ⟨zT, zs, fun Hb w2 sb pn => ?_⟩
      have Gb := Ga.mono sb
      refine ⟨_, rfl, V.ref a, dL T0 ls ss, rfl, Gb.lad.dp, nolad dl, lad_fin (R := rEnded) fun Hc sc => ?_⟩
      have Gc := Gb.mono sc
      refine ⟨_, rfl, V.ref a, dL T0 ls ss, rfl, Gc.lad.dp, fun _ Hd sd => ?_, nolad dl⟩
      have Gd := Gc.mono sd
      refine ⟨(by show 4 ≤ sizeLine; decide), fun L9 h9 => ?_⟩
      have s9 := same_new (o := .lst [w1, w2, V.bl (endB ss), V.ref a]) h9
      obtain ⟨t1, xs1, rfl, sq1, pa1⟩ := pt
      have sall := ((sb.trans sc).trans sd).trans s9
      exact ⟨L9, Gd.mono s9, .lst (SqL.of upd_same) (.cons (.tup (Bs.Same.t sall sq1) (pa1.mono sall).dp) (.cons (pn.mono ((sc.trans sd).trans s9)).dp (.cons (.bl _) (.cons (Gd.mono s9).lad.dp .nil)))), rfl⟩
    clear G4
    rintro σ H5 ⟨L9, G5, d9, rfl⟩
    have sh := sh_told dl
    refine ⟨fun σ H6 => Gx K H H6 p c l n u (V.ref a) v2 v3 (V.ref b4) L5 L6 T0 ls ss ∧ σ = [some (V.ref p), some (V.ref a), some v2, some v3, some (V.ref b4), some (V.ref L5), some (V.ref L6), v7, some (V.bl (endB ss)), some (V.ref L9), none, none, none, none], ?_, ?_⟩
    · refine ⟨_, rfl, L9, dT T0 ls ss, rfl, d9, sh.s, sh.n, sh.dep, sh.l, ?_⟩
      obtain ⟨xs5, g5, la5⟩ := G5.g5
      have l5 := la5.len
      have lr : (rungs ls ss).length = ls.length + 1 := by simp [rungs]
      refine ⟨_, rfl, L5, rfl, ⟨_, SqL.of g5⟩, fun D hD => ?_⟩
      refine lc_list (K := K) (a := L5) (xs := xs5) (fun j H6 => Same H5 H6 ∧ ∃ acc, H6 D = some (.lst acc) ∧ PoAll K H6 acc ((rungs ls ss).take j)) ⟨same_new hD, [], upd_same, .nil⟩ (fun j H6 _ z => SqL.of (z.1 _ _ g5)) ?_ ?_
      · rintro j x H6 hx ⟨s6, acc, hD6, pa⟩
        have hj : j < xs5.length := (List.getElem?_eq_some_iff.mp hx).1
        obtain ⟨r, zs', rg, k1', k2', k3', k4', k5'⟩ := la5.get (i := j) (by omega)
        rw [hx] at k1'
        cases k1'
        refine ⟨rfl, ?_⟩
        refine iteT (B := Same H5 H6 ∧ ∃ acc, H6 D = some (.lst acc) ∧ PoAll K H6 acc ((rungs ls ss).take (j + 1))) ?_
        refine ⟨_, rfl, r, zs', rfl, .inl ⟨SqL.of (s6 _ _ k4'), fun q1 hq1 => ?_⟩⟩
        have s7 := same_new (o := .tup zs') hq1
        refine ⟨acc, s7 _ _ hD6, small1000 (by rw [pa.len, List.length_take]; omega), fun c o e => (upd_ne (ne_of_none e hD)).trans (s7 c o (s6 c o e)), acc ++ [.ref q1], upd_same, ?_⟩
        rw [take_one k2']
        exact (PoAll.off (s7 _ _ hD6) (pa.mono s7)).snoc (Po.off (s7 _ _ hD6) ⟨q1, zs', rfl, SqT.of upd_same, k5'.mono (s6.trans s7)⟩)
      · rintro H6 ⟨s6, acc, hD6, pa⟩
        rw [List.take_of_length_le (by omega)] at pa
        have G6 := G5.mono s6
        refine ⟨D, acc, rfl, .inl ⟨SqL.of hD6, fun q1 hq1 => ?_⟩⟩
        have s7 := same_new (o := .tup acc) hq1
        have G7 := G6.mono s7
        obtain ⟨ns, g6, fn⟩ := G7.g6
        refine ⟨_, rfl, L6, ns, rfl, .inl ⟨SqL.of g6, fun q2 hq2 => ?_⟩⟩
        have s8 := same_new (o := .tup ns) hq2
        have G8 := G7.mono s8
        refine ⟨_, rfl, _, rfl, (by show 4 ≤ sizeLine; decide), fun L10 h10 => ?_⟩
        have s9 := same_new (o := .lst [V.ref q1, V.ref q2, V.bl (endB ss), V.ref a]) h10
        have G9 := G8.mono s9
        have e1 : SqT K (upd (upd (upd H6 q1 (.tup acc)) q2 (.tup ns)) L10 (.lst [V.ref q1, V.ref q2, V.bl (endB ss), V.ref a])) q1 acc := SqT.of (s9 _ _ (s8 _ _ upd_same))
        have e2 : SqT K (upd (upd (upd H6 q1 (.tup acc)) q2 (.tup ns)) L10 (.lst [V.ref q1, V.ref q2, V.bl (endB ss), V.ref a])) q2 ns := SqT.of (s9 _ _ upd_same)
        refine ⟨L10, dT T0 ls ss, rfl, .lst (SqL.of upd_same) (.cons (.tup e1 (pa.mono ((s7.trans s8).trans s9)).dp) (.cons (.tup e2 (fn.mono (s8.trans s9)).dp) (.cons (.bl _) (.cons G9.lad.dp .nil)))), sh.s, sh.n, sh.dep, sh.l, rfl, false, by simp, ?_⟩
        exact ⟨G9, rfl⟩
    clear G5 d9
    rintro σ H6 ⟨G6, rfl⟩
    obtain ⟨tp0, tpm, tp8⟩ := tp_most dl
    -- top
    refine ⟨fun σ H7 => Gx K H H7 p c l n u (V.ref a) v2 v3 (V.ref b4) L5 L6 T0 ls ss ∧ σ = [some (V.ref p), some (V.ref a), some v2, some v3, some (V.ref b4), some (V.ref L5), some (V.ref L6), v7, some (V.bl (endB ss)), some (V.ref L9), some (V.int (tpN ls ss)), none, none, none], ?_, ?_⟩
    · refine ⟨_, rfl, _, rfl, ?_⟩
      unfold tpN
      cases e : endB ss with
      | true =>
        refine iteT ?_
        rw [if_pos rfl]
        exact ⟨G6, rfl⟩
      | false =>
        refine iteF ?_
        obtain ⟨b3, xs3, rfl, sx3, fx3⟩ := id G6.p3
        obtain ⟨b4', ys4, e4, sy4, fy4⟩ := id G6.p4
        cases e4
        rw [if_neg (by decide)]
        refine ⟨_, rfl, b3, xs3, rfl, .inr sx3, _, rfl, b4, ys4, rfl, .inr sy4, _, _, rfl, rfl, ?_⟩
        rw [fx3.len, fy4.len]
        exact ⟨G6, rfl⟩
    clear G6
    rintro σ H7 ⟨G7, rfl⟩
    -- row
    refine ⟨fun σ H8 => ∃ v11, Gx K H H8 p c l n u (V.ref a) v2 v3 (V.ref b4) L5 L6 T0 ls ss ∧ Po K H8 v11 (rowL T0 ls ss (tpN ls ss).toNat) ∧ σ = [some (V.ref p), some (V.ref a), some v2, some v3, some (V.ref b4), some (V.ref L5), some (V.ref L6), v7, some (V.bl (endB ss)), some (V.ref L9), some (V.int (tpN ls ss)), some v11, none, none], ?_, ?_⟩
    · refine ⟨_, rfl, _, rfl, V.ref a, .int (tpN ls ss), dL T0 ls ss, .int (tpN ls ss), rfl, G7.lad.dp, .int _, nolad dl, row_fin dl tp0 tpm fun H8 v11 s8 po => ?_⟩
      exact ⟨v11, G7.mono s8, po, rfl⟩
    clear G7
    rintro σ H8 ⟨v11, G8, po8, rfl⟩
    -- the row's tests
    refine ⟨fun σ H9 => Gx K H H9 p c l n u (V.ref a) v2 v3 (V.ref b4) L5 L6 T0 ls ss ∧ Po K H9 v11 (rowL T0 ls ss (tpN ls ss).toNat) ∧ σ = [some (V.ref p), some (V.ref a), some v2, some v3, some (V.ref b4), some (V.ref L5), some (V.ref L6), v7, some (V.bl (endB ss)), some (V.ref L9), some (V.int (tpN ls ss)), some v11, none, none], ?_, ?_⟩
    · obtain ⟨br, xr, rfl, sr, fr_⟩ := id po8
      have lr := fr_.len
      rw [rowL_len] at lr
      refine ⟨_, rfl, br, xr, rfl, .inr sr, _, rfl, _, _, rfl, rfl, rfl, _, rfl, ?_⟩
      have en : (!decide (V.int (xr.length : Int) = V.int (tpN ls ss + 1))) = false := by
        rw [decide_eq_true (by rw [show (xr.length : Int) = tpN ls ss + 1 by omega])]
        rfl
      refine if_in en (fun z => by cases z) (fun _ => ?_)
      obtain ⟨w1, e1, fw⟩ := Ls.at (i := 0) fr_ (by rw [rowL_len]; omega)
      rw [rowL_zero] at fw
      refine ⟨_, rfl, br, xr, 0, w1, rfl, rfl, sr, atI_nat (j := 0) e1, _, rfl, dF T0, dF T0, fw.dp, G8.f2.dp, rfl, rfl, _, rfl, ?_⟩
      rw [eqv_dF_self]
      refine iteF ?_
      obtain ⟨xs5, g5, la5⟩ := G8.g5
      obtain ⟨ns, g6, fn⟩ := G8.g6
      refine ⟨_, rfl, _, rfl, _, rfl, .ref br, .ref L6, L5, L5, xs5, T0, ls, ss, (tpN ls ss).toNat, rfl, po8, g5, la5, ⟨L6, ns, rfl, SqL.of g6, fn⟩, zT, zl, zs, by omega, by omega, by omega, fun H9 s9 => ⟨_, rfl, ?_⟩⟩
      exact iteF ⟨G8.mono s9, po8.mono s9, rfl⟩
    clear G8 po8
    rintro σ H9 ⟨G9, po9, rfl⟩
    -- the misfits
    refine ⟨fun σ H9 => Gx K H H9 p c l n u (V.ref a) v2 v3 (V.ref b4) L5 L6 T0 ls ss ∧ Po K H9 v11 (rowL T0 ls ss (tpN ls ss).toNat) ∧ σ = [some (V.ref p), some (V.ref a), some v2, some v3, some (V.ref b4), some (V.ref L5), some (V.ref L6), v7, some (V.bl (endB ss)), some (V.ref L9), some (V.int (tpN ls ss)), some v11, none, none], ?_, ?_⟩
    · refine ⟨_, rfl, _, rfl, ?_⟩
      refine if_in (c := endB ss) rfl (fun ee => ?_) (fun _ => ⟨G9, po9, rfl⟩)
      have sn : ss ≠ [] := fun z => by
        subst z
        cases ee
      have ez : co ss (ss.length - 1) = (0, 1) := by
        rw [endB_co sn] at ee
        exact of_decide_eq_true ee
      have sl : ls.length = ss.length := by
        rcases dl.sh with ⟨h1, _⟩ | ⟨h1, _⟩
        · rcases above_pn h1 with z | z
          · exact absurd z sn
          · exact absurd ez z
        · exact h1
      have rp := List.length_pos_iff.mpr sn
      have te : tpN ls ss = 8 := by
        unfold tpN
        rw [if_pos ee]
      obtain ⟨xs5, g5, la5⟩ := G9.g5
      have l5 := la5.len
      have lr : (rungs ls ss).length = ls.length + 1 := by simp [rungs]
      obtain ⟨r, zs', rg, k1', k2', k3', k4', k5'⟩ := la5.get (i := ls.length) (by omega)
      have er : rg = ruled ls ss ss.length := by
        unfold rungs at k2'
        rw [List.getElem?_map, List.getElem?_range (by omega)] at k2'
        cases k2'
        rw [sl]
      subst er
      have hp := ruled_pf zl zs ss.length
      have xn : xs5 ≠ [] := fun z => by rw [z] at l5; simp at l5; omega
      have rn : ruled ls ss ss.length ≠ [] := fun z => by
        have := hp.l
        rw [z] at this
        cases this
      have zr := (rowL_ok zT zl zs (tpN ls ss).toNat).1
      refine ⟨_, rfl, _, rfl, _, rfl, L5, xs5, _, .ref r, rfl, rfl, SqL.of g5, atI_neg1 xn (by rw [show xs5.length - 1 = ls.length by omega]; exact k1'), v11, .ref r, ruled ls ss ss.length, rowL T0 ls ss (tpN ls ss).toNat, _, _, rfl, po9, ⟨r, zs', rfl, SqL.of k4', k5'⟩, hp.z, zr, by rw [rowL_len]; omega, by rw [rowL_len]; omega, by rw [hp.l, rowL_len]; omega, rn, fun k hk => ?_, fun Ha b8 sa g8 => ?_⟩
      · rw [hp.l, rowL_len] at hk
        exact misfit zT zl zs (by omega) ez (by omega)
      · refine ⟨(by show 0 ≤ sizeLine; decide), fun b9 h9 => ?_⟩
        have s9 := same_new (o := .lst []) h9
        refine ⟨.list [], .list [], .lst (SqL.of (s9 _ _ g8)) .nil, .lst (SqL.of upd_same) .nil, rfl, rfl, _, rfl, ?_⟩
        exact iteF ⟨G9.mono (sa.trans s9), po9.mono (sa.trans s9), rfl⟩
    clear G9 po9
    rintro σ HA ⟨GA, poA, rfl⟩
    -- short
    refine ⟨fun σ HB => ∃ k : Int, 0 ≤ k ∧ k ≤ tpN ls ss ∧ Lad K HB (V.ref a) T0 ls ss ∧ Po K HB v11 (rowL T0 ls ss (tpN ls ss).toNat) ∧ Sta HB p c l n (u + 1) ∧ Kp p l H HB ∧ σ = [some (V.ref p), some (V.ref a), some v2, some v3, some (V.ref b4), some (V.ref L5), some (V.ref L6), v7, some (V.bl (endB ss)), some (V.ref L9), some (V.int (tpN ls ss)), some v11, some (V.int k), none], ?_, ?_⟩
    · refine ⟨_, rfl, _, rfl, _, _, rfl, rfl, p, c, l, n, u, _, rfl, GA.S, by omega, by omega, by omega, fun HB k k0 k1 SB kB => ?_⟩
      exact ⟨k, k0, by omega, GA.lad.kp kB GA.S, poA.kp kB GA.S, SB, GA.k.trans kB, rfl⟩
    clear GA poA
    rintro σ HB ⟨k, k0, k1, ladB, poB, SB, kB, rfl⟩
    refine ⟨_, rfl, _, rfl, V.ref a, .int k, dL T0 ls ss, .int k, rfl, ladB.dp, .int _, nolad dl, row_fin dl k0 (by omega) fun HC v12 sC poC => ?_⟩
    obtain ⟨br, xr, rfl, sr, fr_⟩ := id poB
    have lr := fr_.len
    rw [rowL_len] at lr
    have ek : rowL T0 ls ss k.toNat = (rowL T0 ls ss (tpN ls ss).toNat).take (k.toNat + 1) := rowL_take T0 ls ss (by omega)
    obtain ⟨kn, rfl⟩ : ∃ kn : Nat, k = (kn : Int) := ⟨k.toNat, by omega⟩
    rw [Int.toNat_natCast] at ek poC
    refine ⟨_, rfl, _, rfl, _, _, rfl, rfl, (kn : Int) + 1, rfl, br, xr, rfl, Bs.Same.t sC sr, fun z => ?_, fun _ q1 hq1 => ?_⟩
    · have z2 := z.2
      rw [show (kn : Int) + 1 = ((kn + 1 : Nat) : Int) by omega, HT.sIx_nat] at z2
      have ekt : rowL T0 ls ss kn = rowL T0 ls ss (tpN ls ss).toNat := by
        rw [ek, List.take_of_length_le (by rw [rowL_len]; omega)]
      rw [ekt] at poC
      refine ⟨dP _, dP _, poC.dp, (poB.mono sC).dp, shaped_dP _, shaped_dP _, _, rfl, ?_⟩
      rw [eqv_dP_self]
      refine iteT ?_
      refine ⟨_, rfl, _, rfl, V.ref a, .int (tpN ls ss), dL T0 ls ss, .int (tpN ls ss), rfl, (ladB.mono sC).dp, .int _, nolad dl, row_fin dl tp0 tpm fun HD v13 sD poD => ?_⟩
      refine ⟨_, rfl, dP _, dP _, poD.dp, ((poB.mono sC).mono sD).dp, shaped_dP _, shaped_dP _, ?_⟩
      rw [eqv_dP_self]
      exact kk HD (u + 1) (by omega) (by omega) (SB.mono (sC.trans sD)) (kB.trans (Kp.of (sC.trans sD)))
    · have s1 := same_new (o := .tup (cutV xr none (some ((kn : Int) + 1)))) hq1
      have ec : cutV xr none (some ((kn : Int) + 1)) = xr.take (kn + 1) := by
        rw [show (kn : Int) + 1 = ((kn + 1 : Nat) : Int) by omega]
        simp only [cutV, HT.sIx_none, HT.sIx_nat, List.drop_zero, Nat.sub_zero]
        rw [Nat.min_eq_left (by omega)]
      have poE : Po K (upd HC q1 (.tup (cutV xr none (some ((kn : Int) + 1))))) (.ref q1) (rowL T0 ls ss kn) := by
        refine ⟨q1, _, rfl, SqT.of upd_same, ?_⟩
        rw [ek]
        have := (fr_.take (kn + 1)).mono (sC.trans s1)
        rw [← ec] at this
        exact this
      refine ⟨dP _, dP _, (poC.mono s1).dp, poE.dp, shaped_dP _, shaped_dP _, _, rfl, ?_⟩
      rw [eqv_dP_self]
      refine iteT ?_
      have sC1 := sC.trans s1
      refine ⟨_, rfl, _, rfl, V.ref a, .int (tpN ls ss), dL T0 ls ss, .int (tpN ls ss), rfl, (ladB.mono sC1).dp, .int _, nolad dl, row_fin dl tp0 tpm fun HD v13 sD poD => ?_⟩
      refine ⟨_, rfl, dP _, dP _, poD.dp, ((poB.mono sC1).mono sD).dp, shaped_dP _, shaped_dP _, ?_⟩
      rw [eqv_dP_self]
      exact kk HD (u + 1) (by omega) (by omega) (SB.mono (sC1.trans sD)) (kB.trans (Kp.of (sC1.trans sD)))
end
end Rs


set_option Elab.async false
set_option linter.all false
set_option maxRecDepth 100000
set_option maxHeartbeats 1000000
namespace Rs
open PySem L2 Bs Fq LamX LmD RZ
abbrev sRefused : Stmt := top 61
theorem nope {b : Bool} {α : Prop} (h : b = false) (z : b = true) : α := by
  rw [h] at z
  cases z
theorem dpAll_get {K : PySem.W.Frag} {H : Hp} : ∀ {ds : List PyData} {xs : List V} {i : Nat} {x : V}, DpAll K H xs ds → xs[i]? = some x → ∃ d, ds[i]? = some d ∧ d ∈ ds ∧ Dp K H x d
  | _, _, i, x, .nil, h => by simp at h
  | _, _, 0, x, .cons h1 h2, h => by
    simp only [List.getElem?_cons_zero, Option.some.injEq] at h
    rw [← h]
    exact ⟨_, rfl, List.mem_cons_self, h1⟩
  | _, _, i + 1, x, .cons h1 h2, h => by
    simp only [List.getElem?_cons_succ] at h
    obtain ⟨d, g, m, e⟩ := dpAll_get h2 h
    exact ⟨d, g, List.mem_cons_of_mem _ m, e⟩
theorem dpAll_rep {K : PySem.W.Frag} {H : Hp} {v : V} {d : PyData} (h : Dp K H v d) : ∀ n, DpAll K H (List.replicate n v) (List.replicate n d)
  | 0 => .nil
  | n + 1 => .cons h (dpAll_rep h n)
def d11 : PyData := dF (1, 1)
def d01 : PyData := dF (0, 1)
def dW (x : Str) (d : PyData) : PyData := .tuple [.str x, d]
def rsR : List PyData := [.none, .tuple [d11, .tuple []], .list [d11, .tuple [], .tuple []], .tuple [d01, .tuple [], .tuple []], .tuple [.tuple [.int (-1), .int (1)], .tuple [], .tuple []], .tuple [d11, .list [d01], .tuple []], .tuple [.int (1), .tuple [], .tuple []]]
def prs1 : List PyData := [.tuple [.tuple [d01], .tuple [d01, d11]], .tuple [.tuple [d01, d01], .tuple []], .tuple [.tuple [d01], .tuple [.tuple [.int (-1), .int (1)]]], .tuple [.tuple [d01, d01], .tuple [d01, d11]]]
def prs2 : List PyData := [.tuple [.tuple [], .tuple [d11]], .tuple [.tuple [d01, d01], .tuple [d01]], .tuple [.tuple [d01, d01, d01, d01, d01], .tuple [d11, d11, d11, d11, d11]], .tuple [.tuple [d01, d01, d01, d01, d01], .tuple [d11, d11, d11, d11]]]
def prs3 : List PyData := [.tuple [.tuple [d01, d01, d01, d01, d01, d01], .tuple [d11, d11, d11, d11, d11, d01]], .tuple [.tuple [d01, d01, d01], .tuple [d11, d01, d01]], .tuple [.tuple [.tuple [.int (2), .int (2)]], .tuple []]]
def addOne : PyData → PyData
  | .tuple ds => .tuple (d11 :: ds)
  | d => d
def rs4 : List PyData := [.none, .int (-1), .int 9, .bool true, .int 3]
def prs : List PyData := prs1 ++ prs2 ++ prs3
def rsA : List PyData := rsR ++ prs.map addOne
theorem rsA_ok : ∀ d ∈ rsA, ladderD d = false ∧ shB (.list (List.replicate 5 (dW "ladder" d))) = true := by decide +kernel
theorem rs4_ok : ∀ d ∈ rs4, betwD 0 2 d = false ∧ shB (dW "number" d) = true := by decide +kernel
theorem prs_tup : ∀ d ∈ prs, ∃ x y, d = .tuple [x, y] := by
  intro d hd
  simp only [prs, prs1, prs2, prs3, List.mem_append, List.mem_cons, List.not_mem_nil, or_false] at hd
  rcases hd with ((rfl | rfl | rfl | rfl) | (rfl | rfl | rfl | rfl)) | (rfl | rfl | rfl) <;> exact ⟨_, _, rfl⟩
def dGd : PyData := dL (1, 1) [(0, 1)] [(1, 1)]
theorem gd_ok : ladderD dGd = true := by decide +kernel
theorem gd_most : mostN [(0, 1)] [(1, 1)] = 2 := by decide +kernel
theorem nob2 {d : PyData} {k : Int} {α : Prop} (h : betwD 0 2 d = false) (e : d = .int k) (k0 : 0 ≤ k) (k2 : k ≤ 2) : α := by
  rw [e] at h
  simp [betwD, k0, k2] at h
abbrev NR_ : List Str := ["one", "none", "rows", "pairs", "odd", "heard", "good", "pair"]
/-- _law_refused_good() -/
def spRefused (Ts : List (Addr × Str)) : Sp := fun vs H Q _ => vs = [] ∧ Tabs Ts H ∧ ∀ H', ExtN H H' → Tabs Ts H' → Q (.bl true) H'
theorem scRefused : FnScope NR_ [] (defScope sRefused) := ⟨rfl, rfl, rfl, by decide +kernel, rfl, by decide +kernel, by decide +kernel⟩
theorem nown : ∀ i : Nat, NR_[i]? ≠ some "own"
  | 0 => by decide
  | 1 => by decide
  | 2 => by decide
  | 3 => by decide
  | 4 => by decide
  | 5 => by decide
  | 6 => by decide
  | 7 => by decide
  | i + 8 => by simp
/-- what stays throughout -/
structure RI (K : PySem.W.Frag) (Ts : List (Addr × Str)) (H0 H1 : Hp) (oa na : Addr) : Prop where
  x : ExtN H0 H1
  T : Tabs Ts H1
  d1 : Dp K H1 (.ref oa) d11
  d0 : Dp K H1 (.ref na) d01
theorem RI.ext {K : PySem.W.Frag} {Ts : List (Addr × Str)} {H0 H1 H2 : Hp} {oa na : Addr} (R : RI K Ts H0 H1 oa na) (x : ExtN H1 H2) (T : Tabs Ts H2) : RI K Ts H0 H2 oa na := ⟨ExtN.trans R.x x, T, ExtN.t2 x R.d1, ExtN.t2 x R.d0⟩
theorem RI.same {K : PySem.W.Frag} {Ts : List (Addr × Str)} {H0 H1 H2 : Hp} {oa na : Addr} (R : RI K Ts H0 H1 oa na) (s : Same H1 H2) : RI K Ts H0 H2 oa na := R.ext (ExtN.same s) (Tabs.same R.T s)
section
variable {P : Program} {w : World} {K : PySem.W.Frag} {mg : Str → Option Value} {base : Heap} {f c1 P1 g : Addr} {C : Cls} {fd : FuncData} {Ts : List (Addr × Str)}
theorem ok_refused (F : FunC K "_law_refused_good" "_law_refused_good" sRefused f fd c1) (T : Blt mg) (Hk : HeardK K mg g C)
    (Tk : ∀ A outer s H E, TabOk (cxOf CX0 P w K mg base NR_ "_law_refused_good" (defScope sRefused) f (.ref c1) A outer s H E).nox Ts c1 P1)
    (RP : CalX P w K mg base 7 "rung_polys" (spLad K C.L (rRungs K))) (NO : CalX P w K mg base 6 "norms" (spLad K C.L (rNorms K))) (IE : CalX P w K mg base 6 "is_ended" (spLad K C.L rEnded)) (NL : CalX P w K mg base 5 "need_ladder" (spNeedLad K C.L)) (RW : CalX P w K mg base 6 "row_of" (spRowOf K C.L C.N)) :
    FnG P w K mg base 10 f fd [] (spRefused Ts) := by
  refine FnG.okC F scRefused (fun vs H Q E h => ?_) (fun A outer s H vs Q E hgd hr h => ?_)
  · obtain ⟨rfl, _⟩ := h
    rfl
  · obtain ⟨rfl, TT, kk⟩ := h
    refine ⟨_, (C8.pss_cut (ps_asg (pe_tup (pa_cons (pe_tup (pa_cons pe_int (pa_cons pe_int pa_nil))) (pa_cons (pe_tup (pa_cons pe_int (pa_cons pe_int pa_nil))) pa_nil))) (pg_tup rfl (pgs_cons (pg_name (i := 0) scRefused.nd rfl (.inr rfl)) (pgs_cons (pg_name (i := 1) scRefused.nd rfl (.inl rfl)) pgs_nil))))
      (C8.pss_cut (ps_set (i := 2) scRefused.nd rfl (Or.inl rfl) (pe_lst (pa_cons pe_non (pa_cons (pe_tup (pa_cons (pv 0) (pa_cons (pe_tup pa_nil) pa_nil))) (pa_cons (pe_lst (pa_cons (pv 0) (pa_cons (pe_tup pa_nil) (pa_cons (pe_tup pa_nil) pa_nil)))) (pa_cons (pe_tup (pa_cons (pv 1) (pa_cons (pe_tup pa_nil) (pa_cons (pe_tup pa_nil) pa_nil)))) (pa_cons (pe_tup (pa_cons (pe_tup (pa_cons (pe_un un_neg pe_int) (pa_cons pe_int pa_nil))) (pa_cons (pe_tup pa_nil) (pa_cons (pe_tup pa_nil) pa_nil)))) (pa_cons (pe_tup (pa_cons (pv 0) (pa_cons (pe_lst (pa_cons (pv 1) pa_nil)) (pa_cons (pe_tup pa_nil) pa_nil)))) (pa_cons (pe_tup (pa_cons pe_int (pa_cons (pe_tup pa_nil) (pa_cons (pe_tup pa_nil) pa_nil)))) pa_nil)))))))))
      (C8.pss_cut (ps_set (i := 3) scRefused.nd rfl (Or.inl rfl) (pe_lst (pa_cons (pe_tup (pa_cons (pe_tup (pa_cons (pv 1) pa_nil)) (pa_cons (pe_tup (pa_cons (pv 1) (pa_cons (pv 0) pa_nil))) pa_nil))) (pa_cons (pe_tup (pa_cons (pe_tup (pa_cons (pv 1) (pa_cons (pv 1) pa_nil))) (pa_cons (pe_tup pa_nil) pa_nil))) (pa_cons (pe_tup (pa_cons (pe_tup (pa_cons (pv 1) pa_nil)) (pa_cons (pe_tup (pa_cons (pe_tup (pa_cons (pe_un un_neg pe_int) (pa_cons pe_int pa_nil))) pa_nil)) pa_nil))) (pa_cons (pe_tup (pa_cons (pe_op op_repT (pe_tup (pa_cons (pv 1) pa_nil)) pe_int) (pa_cons (pe_tup (pa_cons (pv 1) (pa_cons (pv 0) pa_nil))) pa_nil))) pa_nil))))))
      (C8.pss_cut (ps_set (i := 3) scRefused.nd rfl (Or.inl rfl) (pe_op op_cat (pv 3) (pe_lst (pa_cons (pe_tup (pa_cons (pe_tup pa_nil) (pa_cons (pe_tup (pa_cons (pv 0) pa_nil)) pa_nil))) (pa_cons (pe_tup (pa_cons (pe_op op_repT (pe_tup (pa_cons (pv 1) pa_nil)) pe_int) (pa_cons (pe_tup (pa_cons (pv 1) pa_nil)) pa_nil))) (pa_cons (pe_tup (pa_cons (pe_op op_repT (pe_tup (pa_cons (pv 1) pa_nil)) pe_int) (pa_cons (pe_op op_repT (pe_tup (pa_cons (pv 0) pa_nil)) pe_int) pa_nil))) (pa_cons (pe_tup (pa_cons (pe_op op_repT (pe_tup (pa_cons (pv 1) pa_nil)) pe_int) (pa_cons (pe_op op_repT (pe_tup (pa_cons (pv 0) pa_nil)) pe_int) pa_nil))) pa_nil)))))))
      (C8.pss_cut (ps_set (i := 3) scRefused.nd rfl (Or.inl rfl) (pe_op op_cat (pv 3) (pe_lst (pa_cons (pe_tup (pa_cons (pe_op op_repT (pe_tup (pa_cons (pv 1) pa_nil)) pe_int) (pa_cons (pe_op op_catA (pe_op op_repT (pe_tup (pa_cons (pv 0) pa_nil)) pe_int) (pe_tup (pa_cons (pv 1) pa_nil))) pa_nil))) (pa_cons (pe_tup (pa_cons (pe_op op_repT (pe_tup (pa_cons (pv 1) pa_nil)) pe_int) (pa_cons (pe_tup (pa_cons (pv 0) (pa_cons (pv 1) (pa_cons (pv 1) pa_nil)))) pa_nil))) (pa_cons (pe_tup (pa_cons (pe_tup (pa_cons (pe_tup (pa_cons pe_int (pa_cons pe_int pa_nil))) pa_nil)) (pa_cons (pe_tup pa_nil) pa_nil))) pa_nil))))))
      (C8.pss_cut (ps_for PassesOwn.never rfl (pi_list (pe_op op_cat (pv 2) (pe_lc (own := [("pair", 7)]) (g := gName 7) (tt := tYes) rfl scRefused.nd (pi_list (pv 3)) (blkOk_by (N := NR_) (sc := defScope sRefused) (by decide +kernel)) (fun _ _ _ _ _ => pg_name (i := 7) scRefused.nd rfl (Or.inl rfl)) (fun _ _ _ _ _ => pts_nil) (fun _ _ _ _ _ => pe_op (r := rCatA K) op_catA (pe_tup (pa_cons (pv 0) pa_nil)) (pv 7))))) (pg_name (i := 4) scRefused.nd rfl (Or.inr rfl))
        (C8.pss_cut (ps_set (i := 5) scRefused.nd rfl (Or.inl rfl) (pe_lst (pa_cons (pe_hd (k := 7) (t := (fun E => tCall (spNeedLad K C.L) [] E (tCons (tVar 4) tNil))) Hk (Tk A outer s H E) hr (by rfl) (lamS_by (sc := defScope sRefused) (by decide +kernel)) (fun A' outer' s' H' E' f' c' hr' => pe_x NL hr' (by decide) (by rfl) (passes_call (takes_of rfl rfl rfl rfl) (fun _ _ _ _ h => h)) (pa_cons (pv 4) pa_nil))) (pa_cons (pe_hdD (k := 7) (t := (fun E => tCall (spLad K C.L rEnded) [] E (tCons (tVar 4) tNil))) Hk (Tk A outer s H E) hr (by rfl) (scD_by (sc := defScope sRefused) (by decide +kernel)) nown bindD (fun A' outer' s' H' E' f' c' hr' => pe_x IE hr' (by decide) (by rfl) (passes_call (takes_of rfl rfl rfl rfl) (fun _ _ _ _ h => h)) (pa_cons (pv 4) pa_nil))) pa_nil))))
        (C8.pss_cut (ps_set (i := 5) scRefused.nd rfl (Or.inl rfl) (pe_op op_cat (pv 5) (pe_lst (pa_cons (pe_hd (k := 7) (t := (fun E => tCall (spLad K C.L (rRungs K)) [] E (tCons (tVar 4) tNil))) Hk (Tk A outer s H E) hr (by rfl) (lamS_by (sc := defScope sRefused) (by decide +kernel)) (fun A' outer' s' H' E' f' c' hr' => pe_x RP hr' (by decide) (by rfl) (passes_call (takes_of rfl rfl rfl rfl) (fun _ _ _ _ h => h)) (pa_cons (pv 4) pa_nil))) (pa_cons (pe_hdD (k := 7) (t := (fun E => tCall (spLad K C.L (rNorms K)) [] E (tCons (tVar 4) tNil))) Hk (Tk A outer s H E) hr (by rfl) (scD_by (sc := defScope sRefused) (by decide +kernel)) nown bindD (fun A' outer' s' H' E' f' c' hr' => pe_x NO hr' (by decide) (by rfl) (passes_call (takes_of rfl rfl rfl rfl) (fun _ _ _ _ h => h)) (pa_cons (pv 4) pa_nil))) pa_nil)))))
        (pss_one (ps_if (pt_cmpR op_ne (pe_callB (call_repr hgd hr.units) (by rfl) T.repr (by decide +kernel) (pa_cons (pe_op op_cat (pv 5) (pe_lst (pa_cons (pe_hd (k := 7) (t := (fun E => tCall (spRowOf K C.L C.N) [] E (tCons (tVar 4) (tCons (tC .non) tNil)))) Hk (Tk A outer s H E) hr (by rfl) (lamS_by (sc := defScope sRefused) (by decide +kernel)) (fun A' outer' s' H' E' f' c' hr' => pe_x RW hr' (by decide) (by rfl) (passes_call (takes_of rfl rfl rfl rfl) (fun _ _ _ _ h => h)) (pa_cons (pv 4) (pa_cons pe_non pa_nil)))) pa_nil))) pa_nil)) (pe_callB (call_repr hgd hr.units) (by rfl) T.repr (by decide +kernel) (pa_cons (pe_op op_rep (pe_lst (pa_cons (pe_tup (pa_cons pe_str (pa_cons (pv 4) pa_nil))) pa_nil)) pe_int) pa_nil)) (nomark _)) (pss_one (ps_ret pe_bl)) pss_nil)))))
      (C8.pss_cut (ps_set (i := 6) scRefused.nd rfl (Or.inr rfl) (pe_tup (pa_cons (pv 0) (pa_cons (pe_tup (pa_cons (pv 1) pa_nil)) (pa_cons (pe_tup (pa_cons (pv 0) pa_nil)) pa_nil)))))
      (C8.pss_cut (ps_for PassesOwn.never rfl (pi_tup (pe_tup (pa_cons pe_non (pa_cons (pe_un un_neg pe_int) (pa_cons pe_int (pa_cons pe_bl (pa_cons pe_int pa_nil))))))) (pg_name (i := 4) scRefused.nd rfl (Or.inr rfl))
        (pss_one (ps_if (pt_cmpR op_ne (pe_callB (call_repr hgd hr.units) (by rfl) T.repr (by decide +kernel) (pa_cons (pe_hd (k := 7) (t := (fun E => tCall (spRowOf K C.L C.N) [] E (tCons (tVar 6) (tCons (tVar 4) tNil)))) Hk (Tk A outer s H E) hr (by rfl) (lamS_by (sc := defScope sRefused) (by decide +kernel)) (fun A' outer' s' H' E' f' c' hr' => pe_x RW hr' (by decide) (by rfl) (passes_call (takes_of rfl rfl rfl rfl) (fun _ _ _ _ h => h)) (pa_cons (pv 6) (pa_cons (pv 4) pa_nil)))) pa_nil)) (pe_callB (call_repr hgd hr.units) (by rfl) T.repr (by decide +kernel) (pa_cons (pe_tup (pa_cons pe_str (pa_cons (pv 4) pa_nil))) pa_nil)) (nomark _)) (pss_one (ps_ret pe_bl)) pss_nil)))
      (pss_one (ps_ret pe_bl)))))))))), ?_⟩

    refine ⟨fun σ H1 => ∃ oa na : Addr, RI K Ts H H1 oa na ∧ σ = [some (.ref oa), some (.ref na), none, none, none, none, none, none], ?_, ?_⟩
    · refine ⟨(by show 2 ≤ sizeLine; decide), fun t1 h1 => ⟨(by show 2 ≤ sizeLine; decide), fun t2 h2 => ⟨(by show 2 ≤ sizeLine; decide), fun T0 h3 => ⟨T0, _, rfl, SqT.of upd_same, rfl, _, _, rfl, _, _, rfl, rfl, ?_⟩⟩⟩⟩
      have u1 := same_new (o := .tup [.int 1, .int 1]) h1
      have u2 := same_new (o := .tup [.int 0, .int 1]) h2
      have u3 := same_new (o := .tup [.ref t1, .ref t2]) h3
      exact ⟨t1, t2, ⟨ExtN.same (u1.trans (u2.trans u3)), Tabs.same TT (u1.trans (u2.trans u3)), dps (u2.trans u3) dp_lit, dps u3 dp_lit⟩, rfl⟩
    rintro σ H1 ⟨oa, na, R, rfl⟩
    refine ⟨fun σ H2 => ∃ (Lr : Addr) (xr : List V), RI K Ts H H2 oa na ∧ H2 Lr = some (.lst xr) ∧ DpAll K H2 xr rsR ∧ σ = [some (.ref oa), some (.ref na), some (.ref Lr), none, none, none, none, none], ?_, ?_⟩
    · refine ⟨_, rfl, (by show 0 ≤ sizeLine; decide), fun a0 ha0 => ⟨(by show 2 ≤ sizeLine; decide), fun a1 ha1 => ⟨_, rfl, (by show 0 ≤ sizeLine; decide), fun a2 ha2 => ⟨(by show 0 ≤ sizeLine; decide), fun a3 ha3 => ⟨(by show 3 ≤ sizeLine; decide), fun a4 ha4 => ⟨_, rfl, (by show 0 ≤ sizeLine; decide), fun a5 ha5 => ⟨(by show 0 ≤ sizeLine; decide), fun a6 ha6 => ⟨(by show 3 ≤ sizeLine; decide), fun a7 ha7 => ⟨_, rfl, (by show 2 ≤ sizeLine; decide), fun a8 ha8 => ⟨(by show 0 ≤ sizeLine; decide), fun a9 ha9 => ⟨(by show 0 ≤ sizeLine; decide), fun a10 ha10 => ⟨(by show 3 ≤ sizeLine; decide), fun a11 ha11 => ⟨_, rfl, _, rfl, (by show 1 ≤ sizeLine; decide), fun a12 ha12 => ⟨(by show 0 ≤ sizeLine; decide), fun a13 ha13 => ⟨(by show 3 ≤ sizeLine; decide), fun a14 ha14 => ⟨(by show 0 ≤ sizeLine; decide), fun a15 ha15 => ⟨(by show 0 ≤ sizeLine; decide), fun a16 ha16 => ⟨(by show 3 ≤ sizeLine; decide), fun a17 ha17 => ⟨(by show 7 ≤ sizeLine; decide), fun a18 ha18 => ?_⟩⟩⟩⟩⟩⟩⟩⟩⟩⟩⟩⟩⟩⟩⟩⟩⟩⟩⟩
      have ua0 := same_new (o := .tup []) ha0
      have ua1 := same_new (o := .tup [.ref oa, .ref a0]) ha1
      have ua2 := same_new (o := .tup []) ha2
      have ua3 := same_new (o := .tup []) ha3
      have ua4 := same_new (o := .lst [.ref oa, .ref a2, .ref a3]) ha4
      have ua5 := same_new (o := .tup []) ha5
      have ua6 := same_new (o := .tup []) ha6
      have ua7 := same_new (o := .tup [.ref na, .ref a5, .ref a6]) ha7
      have ua8 := same_new (o := .tup [.int (-1), .int (1)]) ha8
      have ua9 := same_new (o := .tup []) ha9
      have ua10 := same_new (o := .tup []) ha10
      have ua11 := same_new (o := .tup [.ref a8, .ref a9, .ref a10]) ha11
      have ua12 := same_new (o := .lst [.ref na]) ha12
      have ua13 := same_new (o := .tup []) ha13
      have ua14 := same_new (o := .tup [.ref oa, .ref a12, .ref a13]) ha14
      have ua15 := same_new (o := .tup []) ha15
      have ua16 := same_new (o := .tup []) ha16
      have ua17 := same_new (o := .tup [.int (1), .ref a15, .ref a16]) ha17
      have ua18 := same_new (o := .lst [.non, .ref a1, .ref a4, .ref a7, .ref a11, .ref a14, .ref a17]) ha18
      have mm := (ua0.trans (ua1.trans (ua2.trans (ua3.trans (ua4.trans (ua5.trans (ua6.trans (ua7.trans (ua8.trans (ua9.trans (ua10.trans (ua11.trans (ua12.trans (ua13.trans (ua14.trans (ua15.trans (ua16.trans (ua17.trans ua18))))))))))))))))))
      exact ⟨a18, _, R.same mm, upd_same, (show DpAll K _ _ rsR from (.cons .non (.cons (dps (ua2.trans (ua3.trans (ua4.trans (ua5.trans (ua6.trans (ua7.trans (ua8.trans (ua9.trans (ua10.trans (ua11.trans (ua12.trans (ua13.trans (ua14.trans (ua15.trans (ua16.trans (ua17.trans ua18)))))))))))))))) (show Dp K _ (.ref a1) (.tuple [d11, .tuple []]) from (.tup (SqT.of upd_same) (.cons (dps (ua0.trans ua1) R.d1) (.cons (dps ua1 (show Dp K _ (.ref a0) (.tuple []) from (.tup (SqT.of upd_same) .nil))) .nil))))) (.cons (dps (ua5.trans (ua6.trans (ua7.trans (ua8.trans (ua9.trans (ua10.trans (ua11.trans (ua12.trans (ua13.trans (ua14.trans (ua15.trans (ua16.trans (ua17.trans ua18))))))))))))) (show Dp K _ (.ref a4) (.list [d11, .tuple [], .tuple []]) from (.lst (SqL.of upd_same) (.cons (dps (ua0.trans (ua1.trans (ua2.trans (ua3.trans ua4)))) R.d1) (.cons (dps (ua3.trans ua4) (show Dp K _ (.ref a2) (.tuple []) from (.tup (SqT.of upd_same) .nil))) (.cons (dps ua4 (show Dp K _ (.ref a3) (.tuple []) from (.tup (SqT.of upd_same) .nil))) .nil)))))) (.cons (dps (ua8.trans (ua9.trans (ua10.trans (ua11.trans (ua12.trans (ua13.trans (ua14.trans (ua15.trans (ua16.trans (ua17.trans ua18)))))))))) (show Dp K _ (.ref a7) (.tuple [d01, .tuple [], .tuple []]) from (.tup (SqT.of upd_same) (.cons (dps (ua0.trans (ua1.trans (ua2.trans (ua3.trans (ua4.trans (ua5.trans (ua6.trans ua7))))))) R.d0) (.cons (dps (ua6.trans ua7) (show Dp K _ (.ref a5) (.tuple []) from (.tup (SqT.of upd_same) .nil))) (.cons (dps ua7 (show Dp K _ (.ref a6) (.tuple []) from (.tup (SqT.of upd_same) .nil))) .nil)))))) (.cons (dps (ua12.trans (ua13.trans (ua14.trans (ua15.trans (ua16.trans (ua17.trans ua18)))))) (show Dp K _ (.ref a11) (.tuple [.tuple [.int (-1), .int (1)], .tuple [], .tuple []]) from (.tup (SqT.of upd_same) (.cons (dps (ua9.trans (ua10.trans ua11)) (show Dp K _ (.ref a8) (.tuple [.int (-1), .int (1)]) from (.tup (SqT.of upd_same) (.cons (.int _) (.cons (.int _) .nil))))) (.cons (dps (ua10.trans ua11) (show Dp K _ (.ref a9) (.tuple []) from (.tup (SqT.of upd_same) .nil))) (.cons (dps ua11 (show Dp K _ (.ref a10) (.tuple []) from (.tup (SqT.of upd_same) .nil))) .nil)))))) (.cons (dps (ua15.trans (ua16.trans (ua17.trans ua18))) (show Dp K _ (.ref a14) (.tuple [d11, .list [d01], .tuple []]) from (.tup (SqT.of upd_same) (.cons (dps (ua0.trans (ua1.trans (ua2.trans (ua3.trans (ua4.trans (ua5.trans (ua6.trans (ua7.trans (ua8.trans (ua9.trans (ua10.trans (ua11.trans (ua12.trans (ua13.trans ua14)))))))))))))) R.d1) (.cons (dps (ua13.trans ua14) (show Dp K _ (.ref a12) (.list [d01]) from (.lst (SqL.of upd_same) (.cons (dps (ua0.trans (ua1.trans (ua2.trans (ua3.trans (ua4.trans (ua5.trans (ua6.trans (ua7.trans (ua8.trans (ua9.trans (ua10.trans (ua11.trans ua12)))))))))))) R.d0) .nil)))) (.cons (dps ua14 (show Dp K _ (.ref a13) (.tuple []) from (.tup (SqT.of upd_same) .nil))) .nil)))))) (.cons (dps ua18 (show Dp K _ (.ref a17) (.tuple [.int (1), .tuple [], .tuple []]) from (.tup (SqT.of upd_same) (.cons (.int _) (.cons (dps (ua16.trans ua17) (show Dp K _ (.ref a15) (.tuple []) from (.tup (SqT.of upd_same) .nil))) (.cons (dps ua17 (show Dp K _ (.ref a16) (.tuple []) from (.tup (SqT.of upd_same) .nil))) .nil)))))) .nil)))))))), rfl⟩
    clear R
    rintro σ H2 ⟨Lr, xr, R, gr, dr, rfl⟩
    refine ⟨fun σ H2 => ∃ (Lp : Addr) (xp : List V), RI K Ts H H2 oa na ∧ H2 Lr = some (.lst xr) ∧ DpAll K H2 xr rsR ∧ H2 Lp = some (.lst xp) ∧ DpAll K H2 xp prs1 ∧ σ = [some (.ref oa), some (.ref na), some (.ref Lr), some (.ref Lp), none, none, none, none], ?_, ?_⟩
    · refine ⟨_, rfl, (by show 1 ≤ sizeLine; decide), fun b0 hb0 => ⟨_, rfl, _, rfl, (by show 2 ≤ sizeLine; decide), fun b1 hb1 => ⟨(by show 2 ≤ sizeLine; decide), fun b2 hb2 => ⟨_, rfl, _, rfl, (by show 2 ≤ sizeLine; decide), fun b3 hb3 => ⟨(by show 0 ≤ sizeLine; decide), fun b4 hb4 => ⟨(by show 2 ≤ sizeLine; decide), fun b5 hb5 => ⟨_, rfl, (by show 1 ≤ sizeLine; decide), fun b6 hb6 => ⟨_, rfl, (by show 2 ≤ sizeLine; decide), fun b7 hb7 => ⟨(by show 1 ≤ sizeLine; decide), fun b8 hb8 => ⟨(by show 2 ≤ sizeLine; decide), fun b9 hb9 => ⟨_, rfl, (by show 1 ≤ sizeLine; decide), fun b10 hb10 => ⟨b10, 2, _, rfl, rfl, SqT.of upd_same, by simp, by decide, by decide, (by show 1 ≤ 1000; decide), fun b11 hb11 => ⟨_, rfl, _, rfl, (by show 2 ≤ sizeLine; decide), fun b12 hb12 => ⟨(by show 2 ≤ sizeLine; decide), fun b13 hb13 => ⟨(by show 4 ≤ sizeLine; decide), fun b14 hb14 => ?_⟩⟩⟩⟩⟩⟩⟩⟩⟩⟩⟩⟩⟩⟩⟩
      have ub0 := same_new (o := .tup [.ref na]) hb0
      have ub1 := same_new (o := .tup [.ref na, .ref oa]) hb1
      have ub2 := same_new (o := .tup [.ref b0, .ref b1]) hb2
      have ub3 := same_new (o := .tup [.ref na, .ref na]) hb3
      have ub4 := same_new (o := .tup []) hb4
      have ub5 := same_new (o := .tup [.ref b3, .ref b4]) hb5
      have ub6 := same_new (o := .tup [.ref na]) hb6
      have ub7 := same_new (o := .tup [.int (-1), .int (1)]) hb7
      have ub8 := same_new (o := .tup [.ref b7]) hb8
      have ub9 := same_new (o := .tup [.ref b6, .ref b8]) hb9
      have ub10 := same_new (o := .tup [.ref na]) hb10
      have ub11 := same_new (o := .tup [.ref na, .ref na]) hb11
      have ub12 := same_new (o := .tup [.ref na, .ref oa]) hb12
      have ub13 := same_new (o := .tup [.ref b11, .ref b12]) hb13
      have ub14 := same_new (o := .lst [.ref b2, .ref b5, .ref b9, .ref b13]) hb14
      have mm := (ub0.trans (ub1.trans (ub2.trans (ub3.trans (ub4.trans (ub5.trans (ub6.trans (ub7.trans (ub8.trans (ub9.trans (ub10.trans (ub11.trans (ub12.trans (ub13.trans ub14))))))))))))))
      exact ⟨b14, _, R.same mm, mm _ _ gr, dpAll_ext (ExtN.same mm) _ _ dr, upd_same, (show DpAll K _ _ prs1 from (.cons (dps (ub3.trans (ub4.trans (ub5.trans (ub6.trans (ub7.trans (ub8.trans (ub9.trans (ub10.trans (ub11.trans (ub12.trans (ub13.trans ub14))))))))))) (show Dp K _ (.ref b2) (.tuple [.tuple [d01], .tuple [d01, d11]]) from (.tup (SqT.of upd_same) (.cons (dps (ub1.trans ub2) (show Dp K _ (.ref b0) (.tuple [d01]) from (.tup (SqT.of upd_same) (.cons (dps ub0 R.d0) .nil)))) (.cons (dps ub2 (show Dp K _ (.ref b1) (.tuple [d01, d11]) from (.tup (SqT.of upd_same) (.cons (dps (ub0.trans ub1) R.d0) (.cons (dps (ub0.trans ub1) R.d1) .nil))))) .nil))))) (.cons (dps (ub6.trans (ub7.trans (ub8.trans (ub9.trans (ub10.trans (ub11.trans (ub12.trans (ub13.trans ub14)))))))) (show Dp K _ (.ref b5) (.tuple [.tuple [d01, d01], .tuple []]) from (.tup (SqT.of upd_same) (.cons (dps (ub4.trans ub5) (show Dp K _ (.ref b3) (.tuple [d01, d01]) from (.tup (SqT.of upd_same) (.cons (dps (ub0.trans (ub1.trans (ub2.trans ub3))) R.d0) (.cons (dps (ub0.trans (ub1.trans (ub2.trans ub3))) R.d0) .nil))))) (.cons (dps ub5 (show Dp K _ (.ref b4) (.tuple []) from (.tup (SqT.of upd_same) .nil))) .nil))))) (.cons (dps (ub10.trans (ub11.trans (ub12.trans (ub13.trans ub14)))) (show Dp K _ (.ref b9) (.tuple [.tuple [d01], .tuple [.tuple [.int (-1), .int (1)]]]) from (.tup (SqT.of upd_same) (.cons (dps (ub7.trans (ub8.trans ub9)) (show Dp K _ (.ref b6) (.tuple [d01]) from (.tup (SqT.of upd_same) (.cons (dps (ub0.trans (ub1.trans (ub2.trans (ub3.trans (ub4.trans (ub5.trans ub6)))))) R.d0) .nil)))) (.cons (dps ub9 (show Dp K _ (.ref b8) (.tuple [.tuple [.int (-1), .int (1)]]) from (.tup (SqT.of upd_same) (.cons (dps ub8 (show Dp K _ (.ref b7) (.tuple [.int (-1), .int (1)]) from (.tup (SqT.of upd_same) (.cons (.int _) (.cons (.int _) .nil))))) .nil)))) .nil))))) (.cons (dps ub14 (show Dp K _ (.ref b13) (.tuple [.tuple [d01, d01], .tuple [d01, d11]]) from (.tup (SqT.of upd_same) (.cons (dps (ub12.trans ub13) (show Dp K _ (.ref b11) (.tuple [d01, d01]) from (.tup (SqT.of upd_same) (.cons (dps (ub0.trans (ub1.trans (ub2.trans (ub3.trans (ub4.trans (ub5.trans (ub6.trans (ub7.trans (ub8.trans (ub9.trans (ub10.trans ub11))))))))))) R.d0) (.cons (dps (ub0.trans (ub1.trans (ub2.trans (ub3.trans (ub4.trans (ub5.trans (ub6.trans (ub7.trans (ub8.trans (ub9.trans (ub10.trans ub11))))))))))) R.d0) .nil))))) (.cons (dps ub13 (show Dp K _ (.ref b12) (.tuple [d01, d11]) from (.tup (SqT.of upd_same) (.cons (dps (ub0.trans (ub1.trans (ub2.trans (ub3.trans (ub4.trans (ub5.trans (ub6.trans (ub7.trans (ub8.trans (ub9.trans (ub10.trans (ub11.trans ub12)))))))))))) R.d0) (.cons (dps (ub0.trans (ub1.trans (ub2.trans (ub3.trans (ub4.trans (ub5.trans (ub6.trans (ub7.trans (ub8.trans (ub9.trans (ub10.trans (ub11.trans ub12)))))))))))) R.d1) .nil))))) .nil))))) .nil))))), rfl⟩
    clear R gr dr
    rintro σ H2 ⟨Lp, xp, R, gr, dr, gp, dp_, rfl⟩
    refine ⟨fun σ H2 => ∃ (Lp : Addr) (xp : List V), RI K Ts H H2 oa na ∧ H2 Lr = some (.lst xr) ∧ DpAll K H2 xr rsR ∧ H2 Lp = some (.lst xp) ∧ DpAll K H2 xp (prs1 ++ prs2) ∧ σ = [some (.ref oa), some (.ref na), some (.ref Lr), some (.ref Lp), none, none, none, none], ?_, ?_⟩
    · refine ⟨_, rfl, (by show 0 ≤ sizeLine; decide), fun c0 hc0 => ⟨_, rfl, (by show 1 ≤ sizeLine; decide), fun c1 hc1 => ⟨(by show 2 ≤ sizeLine; decide), fun c2 hc2 => ⟨_, rfl, (by show 1 ≤ sizeLine; decide), fun c3 hc3 => ⟨c3, 2, _, rfl, rfl, SqT.of upd_same, by simp, by decide, by decide, (by show 1 ≤ 1000; decide), fun c4 hc4 => ⟨_, rfl, (by show 1 ≤ sizeLine; decide), fun c5 hc5 => ⟨(by show 2 ≤ sizeLine; decide), fun c6 hc6 => ⟨_, rfl, (by show 1 ≤ sizeLine; decide), fun c7 hc7 => ⟨c7, 5, _, rfl, rfl, SqT.of upd_same, by simp, by decide, by decide, (by show 1 ≤ 1000; decide), fun c8 hc8 => ⟨_, rfl, (by show 1 ≤ sizeLine; decide), fun c9 hc9 => ⟨c9, 5, _, rfl, rfl, SqT.of upd_same, by simp, by decide, by decide, (by show 1 ≤ 1000; decide), fun c10 hc10 => ⟨(by show 2 ≤ sizeLine; decide), fun c11 hc11 => ⟨_, rfl, (by show 1 ≤ sizeLine; decide), fun c12 hc12 => ⟨c12, 5, _, rfl, rfl, SqT.of upd_same, by simp, by decide, by decide, (by show 1 ≤ 1000; decide), fun c13 hc13 => ⟨_, rfl, (by show 1 ≤ sizeLine; decide), fun c14 hc14 => ⟨c14, 4, _, rfl, rfl, SqT.of upd_same, by simp, by decide, by decide, (by show 1 ≤ 1000; decide), fun c15 hc15 => ⟨(by show 2 ≤ sizeLine; decide), fun c16 hc16 => ⟨(by show 4 ≤ sizeLine; decide), fun c17 hc17 => ?_⟩⟩⟩⟩⟩⟩⟩⟩⟩⟩⟩⟩⟩⟩⟩⟩⟩⟩
      have uc0 := same_new (o := .tup []) hc0
      have uc1 := same_new (o := .tup [.ref oa]) hc1
      have uc2 := same_new (o := .tup [.ref c0, .ref c1]) hc2
      have uc3 := same_new (o := .tup [.ref na]) hc3
      have uc4 := same_new (o := .tup [.ref na, .ref na]) hc4
      have uc5 := same_new (o := .tup [.ref na]) hc5
      have uc6 := same_new (o := .tup [.ref c4, .ref c5]) hc6
      have uc7 := same_new (o := .tup [.ref na]) hc7
      have uc8 := same_new (o := .tup [.ref na, .ref na, .ref na, .ref na, .ref na]) hc8
      have uc9 := same_new (o := .tup [.ref oa]) hc9
      have uc10 := same_new (o := .tup [.ref oa, .ref oa, .ref oa, .ref oa, .ref oa]) hc10
      have uc11 := same_new (o := .tup [.ref c8, .ref c10]) hc11
      have uc12 := same_new (o := .tup [.ref na]) hc12
      have uc13 := same_new (o := .tup [.ref na, .ref na, .ref na, .ref na, .ref na]) hc13
      have uc14 := same_new (o := .tup [.ref oa]) hc14
      have uc15 := same_new (o := .tup [.ref oa, .ref oa, .ref oa, .ref oa]) hc15
      have uc16 := same_new (o := .tup [.ref c13, .ref c15]) hc16
      have uc17 := same_new (o := .lst [.ref c2, .ref c6, .ref c11, .ref c16]) hc17
      have mm := (uc0.trans (uc1.trans (uc2.trans (uc3.trans (uc4.trans (uc5.trans (uc6.trans (uc7.trans (uc8.trans (uc9.trans (uc10.trans (uc11.trans (uc12.trans (uc13.trans (uc14.trans (uc15.trans (uc16.trans uc17)))))))))))))))))
      have ln : xp.length = 4 := dpAll_len dp_
      have dn : DpAll K _ _ prs2 := (.cons (dps (uc3.trans (uc4.trans (uc5.trans (uc6.trans (uc7.trans (uc8.trans (uc9.trans (uc10.trans (uc11.trans (uc12.trans (uc13.trans (uc14.trans (uc15.trans (uc16.trans uc17)))))))))))))) (show Dp K _ (.ref c2) (.tuple [.tuple [], .tuple [d11]]) from (.tup (SqT.of upd_same) (.cons (dps (uc1.trans uc2) (show Dp K _ (.ref c0) (.tuple []) from (.tup (SqT.of upd_same) .nil))) (.cons (dps uc2 (show Dp K _ (.ref c1) (.tuple [d11]) from (.tup (SqT.of upd_same) (.cons (dps (uc0.trans uc1) R.d1) .nil)))) .nil))))) (.cons (dps (uc7.trans (uc8.trans (uc9.trans (uc10.trans (uc11.trans (uc12.trans (uc13.trans (uc14.trans (uc15.trans (uc16.trans uc17)))))))))) (show Dp K _ (.ref c6) (.tuple [.tuple [d01, d01], .tuple [d01]]) from (.tup (SqT.of upd_same) (.cons (dps (uc5.trans uc6) (show Dp K _ (.ref c4) (.tuple [d01, d01]) from (.tup (SqT.of upd_same) (.cons (dps (uc0.trans (uc1.trans (uc2.trans (uc3.trans uc4)))) R.d0) (.cons (dps (uc0.trans (uc1.trans (uc2.trans (uc3.trans uc4)))) R.d0) .nil))))) (.cons (dps uc6 (show Dp K _ (.ref c5) (.tuple [d01]) from (.tup (SqT.of upd_same) (.cons (dps (uc0.trans (uc1.trans (uc2.trans (uc3.trans (uc4.trans uc5))))) R.d0) .nil)))) .nil))))) (.cons (dps (uc12.trans (uc13.trans (uc14.trans (uc15.trans (uc16.trans uc17))))) (show Dp K _ (.ref c11) (.tuple [.tuple [d01, d01, d01, d01, d01], .tuple [d11, d11, d11, d11, d11]]) from (.tup (SqT.of upd_same) (.cons (dps (uc9.trans (uc10.trans uc11)) (show Dp K _ (.ref c8) (.tuple [d01, d01, d01, d01, d01]) from (.tup (SqT.of upd_same) (.cons (dps (uc0.trans (uc1.trans (uc2.trans (uc3.trans (uc4.trans (uc5.trans (uc6.trans (uc7.trans uc8)))))))) R.d0) (.cons (dps (uc0.trans (uc1.trans (uc2.trans (uc3.trans (uc4.trans (uc5.trans (uc6.trans (uc7.trans uc8)))))))) R.d0) (.cons (dps (uc0.trans (uc1.trans (uc2.trans (uc3.trans (uc4.trans (uc5.trans (uc6.trans (uc7.trans uc8)))))))) R.d0) (.cons (dps (uc0.trans (uc1.trans (uc2.trans (uc3.trans (uc4.trans (uc5.trans (uc6.trans (uc7.trans uc8)))))))) R.d0) (.cons (dps (uc0.trans (uc1.trans (uc2.trans (uc3.trans (uc4.trans (uc5.trans (uc6.trans (uc7.trans uc8)))))))) R.d0) .nil)))))))) (.cons (dps uc11 (show Dp K _ (.ref c10) (.tuple [d11, d11, d11, d11, d11]) from (.tup (SqT.of upd_same) (.cons (dps (uc0.trans (uc1.trans (uc2.trans (uc3.trans (uc4.trans (uc5.trans (uc6.trans (uc7.trans (uc8.trans (uc9.trans uc10)))))))))) R.d1) (.cons (dps (uc0.trans (uc1.trans (uc2.trans (uc3.trans (uc4.trans (uc5.trans (uc6.trans (uc7.trans (uc8.trans (uc9.trans uc10)))))))))) R.d1) (.cons (dps (uc0.trans (uc1.trans (uc2.trans (uc3.trans (uc4.trans (uc5.trans (uc6.trans (uc7.trans (uc8.trans (uc9.trans uc10)))))))))) R.d1) (.cons (dps (uc0.trans (uc1.trans (uc2.trans (uc3.trans (uc4.trans (uc5.trans (uc6.trans (uc7.trans (uc8.trans (uc9.trans uc10)))))))))) R.d1) (.cons (dps (uc0.trans (uc1.trans (uc2.trans (uc3.trans (uc4.trans (uc5.trans (uc6.trans (uc7.trans (uc8.trans (uc9.trans uc10)))))))))) R.d1) .nil)))))))) .nil))))) (.cons (dps uc17 (show Dp K _ (.ref c16) (.tuple [.tuple [d01, d01, d01, d01, d01], .tuple [d11, d11, d11, d11]]) from (.tup (SqT.of upd_same) (.cons (dps (uc14.trans (uc15.trans uc16)) (show Dp K _ (.ref c13) (.tuple [d01, d01, d01, d01, d01]) from (.tup (SqT.of upd_same) (.cons (dps (uc0.trans (uc1.trans (uc2.trans (uc3.trans (uc4.trans (uc5.trans (uc6.trans (uc7.trans (uc8.trans (uc9.trans (uc10.trans (uc11.trans (uc12.trans uc13))))))))))))) R.d0) (.cons (dps (uc0.trans (uc1.trans (uc2.trans (uc3.trans (uc4.trans (uc5.trans (uc6.trans (uc7.trans (uc8.trans (uc9.trans (uc10.trans (uc11.trans (uc12.trans uc13))))))))))))) R.d0) (.cons (dps (uc0.trans (uc1.trans (uc2.trans (uc3.trans (uc4.trans (uc5.trans (uc6.trans (uc7.trans (uc8.trans (uc9.trans (uc10.trans (uc11.trans (uc12.trans uc13))))))))))))) R.d0) (.cons (dps (uc0.trans (uc1.trans (uc2.trans (uc3.trans (uc4.trans (uc5.trans (uc6.trans (uc7.trans (uc8.trans (uc9.trans (uc10.trans (uc11.trans (uc12.trans uc13))))))))))))) R.d0) (.cons (dps (uc0.trans (uc1.trans (uc2.trans (uc3.trans (uc4.trans (uc5.trans (uc6.trans (uc7.trans (uc8.trans (uc9.trans (uc10.trans (uc11.trans (uc12.trans uc13))))))))))))) R.d0) .nil)))))))) (.cons (dps uc16 (show Dp K _ (.ref c15) (.tuple [d11, d11, d11, d11]) from (.tup (SqT.of upd_same) (.cons (dps (uc0.trans (uc1.trans (uc2.trans (uc3.trans (uc4.trans (uc5.trans (uc6.trans (uc7.trans (uc8.trans (uc9.trans (uc10.trans (uc11.trans (uc12.trans (uc13.trans (uc14.trans uc15))))))))))))))) R.d1) (.cons (dps (uc0.trans (uc1.trans (uc2.trans (uc3.trans (uc4.trans (uc5.trans (uc6.trans (uc7.trans (uc8.trans (uc9.trans (uc10.trans (uc11.trans (uc12.trans (uc13.trans (uc14.trans uc15))))))))))))))) R.d1) (.cons (dps (uc0.trans (uc1.trans (uc2.trans (uc3.trans (uc4.trans (uc5.trans (uc6.trans (uc7.trans (uc8.trans (uc9.trans (uc10.trans (uc11.trans (uc12.trans (uc13.trans (uc14.trans uc15))))))))))))))) R.d1) (.cons (dps (uc0.trans (uc1.trans (uc2.trans (uc3.trans (uc4.trans (uc5.trans (uc6.trans (uc7.trans (uc8.trans (uc9.trans (uc10.trans (uc11.trans (uc12.trans (uc13.trans (uc14.trans uc15))))))))))))))) R.d1) .nil))))))) .nil))))) .nil))))
      refine ⟨Lp, c17, xp, _, rfl, rfl, mm _ _ gp, upd_same, Nat.le_of_lt (small1000 (by rw [ln]; show 8 ≤ 1000; decide)), fun Lq hLq => ?_⟩
      have uq := same_new (o := .lst (xp ++ [.ref c2, .ref c6, .ref c11, .ref c16])) hLq
      have mq := mm.trans uq
      exact ⟨Lq, _, R.same mq, mq _ _ gr, dpAll_ext (ExtN.same mq) _ _ dr, upd_same, dpAll_app (dpAll_ext (ExtN.same mq) _ _ dp_) (dpAll_ext (ExtN.same uq) _ _ dn), rfl⟩
    clear R gr dr gp dp_
    rintro σ H2 ⟨Lp, xp, R, gr, dr, gp, dp_, rfl⟩
    refine ⟨fun σ H2 => ∃ (Lp : Addr) (xp : List V), RI K Ts H H2 oa na ∧ H2 Lr = some (.lst xr) ∧ DpAll K H2 xr rsR ∧ H2 Lp = some (.lst xp) ∧ DpAll K H2 xp ((prs1 ++ prs2) ++ prs3) ∧ σ = [some (.ref oa), some (.ref na), some (.ref Lr), some (.ref Lp), none, none, none, none], ?_, ?_⟩
    · refine ⟨_, rfl, _, rfl, (by show 1 ≤ sizeLine; decide), fun e0 he0 => ⟨e0, 6, _, rfl, rfl, SqT.of upd_same, by simp, by decide, by decide, (by show 1 ≤ 1000; decide), fun e1 he1 => ⟨_, rfl, (by show 1 ≤ sizeLine; decide), fun e2 he2 => ⟨e2, 5, _, rfl, rfl, SqT.of upd_same, by simp, by decide, by decide, (by show 1 ≤ 1000; decide), fun e3 he3 => ⟨_, rfl, (by show 1 ≤ sizeLine; decide), fun e4 he4 => ⟨e3, e4, _, _, rfl, rfl, Bs.Same.t (same_new he4) (SqT.of upd_same), SqT.of upd_same, (by show 6 ≤ sizeLine; decide), (fun e => by cases e), (fun _ e => by cases e), fun _ _ e5 he5 => ⟨(by show 2 ≤ sizeLine; decide), fun e6 he6 => ⟨_, rfl, (by show 1 ≤ sizeLine; decide), fun e7 he7 => ⟨e7, 3, _, rfl, rfl, SqT.of upd_same, by simp, by decide, by decide, (by show 1 ≤ 1000; decide), fun e8 he8 => ⟨_, rfl, _, rfl, _, rfl, (by show 3 ≤ sizeLine; decide), fun e9 he9 => ⟨(by show 2 ≤ sizeLine; decide), fun e10 he10 => ⟨(by show 2 ≤ sizeLine; decide), fun e11 he11 => ⟨(by show 1 ≤ sizeLine; decide), fun e12 he12 => ⟨(by show 0 ≤ sizeLine; decide), fun e13 he13 => ⟨(by show 2 ≤ sizeLine; decide), fun e14 he14 => ⟨(by show 3 ≤ sizeLine; decide), fun e15 he15 => ?_⟩⟩⟩⟩⟩⟩⟩⟩⟩⟩⟩⟩⟩⟩⟩⟩
      have ue0 := same_new (o := .tup [.ref na]) he0
      have ue1 := same_new (o := .tup [.ref na, .ref na, .ref na, .ref na, .ref na, .ref na]) he1
      have ue2 := same_new (o := .tup [.ref oa]) he2
      have ue3 := same_new (o := .tup [.ref oa, .ref oa, .ref oa, .ref oa, .ref oa]) he3
      have ue4 := same_new (o := .tup [.ref na]) he4
      have ue5 := same_new (o := .tup [.ref oa, .ref oa, .ref oa, .ref oa, .ref oa, .ref na]) he5
      have ue6 := same_new (o := .tup [.ref e1, .ref e5]) he6
      have ue7 := same_new (o := .tup [.ref na]) he7
      have ue8 := same_new (o := .tup [.ref na, .ref na, .ref na]) he8
      have ue9 := same_new (o := .tup [.ref oa, .ref na, .ref na]) he9
      have ue10 := same_new (o := .tup [.ref e8, .ref e9]) he10
      have ue11 := same_new (o := .tup [.int (2), .int (2)]) he11
      have ue12 := same_new (o := .tup [.ref e11]) he12
      have ue13 := same_new (o := .tup []) he13
      have ue14 := same_new (o := .tup [.ref e12, .ref e13]) he14
      have ue15 := same_new (o := .lst [.ref e6, .ref e10, .ref e14]) he15
      have mm := (ue0.trans (ue1.trans (ue2.trans (ue3.trans (ue4.trans (ue5.trans (ue6.trans (ue7.trans (ue8.trans (ue9.trans (ue10.trans (ue11.trans (ue12.trans (ue13.trans (ue14.trans ue15)))))))))))))))
      have ln : xp.length = 8 := dpAll_len dp_
      have dn : DpAll K _ _ prs3 := (.cons (dps (ue7.trans (ue8.trans (ue9.trans (ue10.trans (ue11.trans (ue12.trans (ue13.trans (ue14.trans ue15)))))))) (show Dp K _ (.ref e6) (.tuple [.tuple [d01, d01, d01, d01, d01, d01], .tuple [d11, d11, d11, d11, d11, d01]]) from (.tup (SqT.of upd_same) (.cons (dps (ue2.trans (ue3.trans (ue4.trans (ue5.trans ue6)))) (show Dp K _ (.ref e1) (.tuple [d01, d01, d01, d01, d01, d01]) from (.tup (SqT.of upd_same) (.cons (dps (ue0.trans ue1) R.d0) (.cons (dps (ue0.trans ue1) R.d0) (.cons (dps (ue0.trans ue1) R.d0) (.cons (dps (ue0.trans ue1) R.d0) (.cons (dps (ue0.trans ue1) R.d0) (.cons (dps (ue0.trans ue1) R.d0) .nil))))))))) (.cons (dps ue6 (show Dp K _ (.ref e5) (.tuple [d11, d11, d11, d11, d11, d01]) from (.tup (SqT.of upd_same) (.cons (dps (ue0.trans (ue1.trans (ue2.trans (ue3.trans (ue4.trans ue5))))) R.d1) (.cons (dps (ue0.trans (ue1.trans (ue2.trans (ue3.trans (ue4.trans ue5))))) R.d1) (.cons (dps (ue0.trans (ue1.trans (ue2.trans (ue3.trans (ue4.trans ue5))))) R.d1) (.cons (dps (ue0.trans (ue1.trans (ue2.trans (ue3.trans (ue4.trans ue5))))) R.d1) (.cons (dps (ue0.trans (ue1.trans (ue2.trans (ue3.trans (ue4.trans ue5))))) R.d1) (.cons (dps (ue0.trans (ue1.trans (ue2.trans (ue3.trans (ue4.trans ue5))))) R.d0) .nil))))))))) .nil))))) (.cons (dps (ue11.trans (ue12.trans (ue13.trans (ue14.trans ue15)))) (show Dp K _ (.ref e10) (.tuple [.tuple [d01, d01, d01], .tuple [d11, d01, d01]]) from (.tup (SqT.of upd_same) (.cons (dps (ue9.trans ue10) (show Dp K _ (.ref e8) (.tuple [d01, d01, d01]) from (.tup (SqT.of upd_same) (.cons (dps (ue0.trans (ue1.trans (ue2.trans (ue3.trans (ue4.trans (ue5.trans (ue6.trans (ue7.trans ue8)))))))) R.d0) (.cons (dps (ue0.trans (ue1.trans (ue2.trans (ue3.trans (ue4.trans (ue5.trans (ue6.trans (ue7.trans ue8)))))))) R.d0) (.cons (dps (ue0.trans (ue1.trans (ue2.trans (ue3.trans (ue4.trans (ue5.trans (ue6.trans (ue7.trans ue8)))))))) R.d0) .nil)))))) (.cons (dps ue10 (show Dp K _ (.ref e9) (.tuple [d11, d01, d01]) from (.tup (SqT.of upd_same) (.cons (dps (ue0.trans (ue1.trans (ue2.trans (ue3.trans (ue4.trans (ue5.trans (ue6.trans (ue7.trans (ue8.trans ue9))))))))) R.d1) (.cons (dps (ue0.trans (ue1.trans (ue2.trans (ue3.trans (ue4.trans (ue5.trans (ue6.trans (ue7.trans (ue8.trans ue9))))))))) R.d0) (.cons (dps (ue0.trans (ue1.trans (ue2.trans (ue3.trans (ue4.trans (ue5.trans (ue6.trans (ue7.trans (ue8.trans ue9))))))))) R.d0) .nil)))))) .nil))))) (.cons (dps ue15 (show Dp K _ (.ref e14) (.tuple [.tuple [.tuple [.int (2), .int (2)]], .tuple []]) from (.tup (SqT.of upd_same) (.cons (dps (ue13.trans ue14) (show Dp K _ (.ref e12) (.tuple [.tuple [.int (2), .int (2)]]) from (.tup (SqT.of upd_same) (.cons (dps ue12 (show Dp K _ (.ref e11) (.tuple [.int (2), .int (2)]) from (.tup (SqT.of upd_same) (.cons (.int _) (.cons (.int _) .nil))))) .nil)))) (.cons (dps ue14 (show Dp K _ (.ref e13) (.tuple []) from (.tup (SqT.of upd_same) .nil))) .nil))))) .nil)))
      refine ⟨Lp, e15, xp, _, rfl, rfl, mm _ _ gp, upd_same, Nat.le_of_lt (small1000 (by rw [ln]; show 11 ≤ 1000; decide)), fun Lq hLq => ?_⟩
      have uq := same_new (o := .lst (xp ++ [.ref e6, .ref e10, .ref e14])) hLq
      have mq := mm.trans uq
      exact ⟨Lq, _, R.same mq, mq _ _ gr, dpAll_ext (ExtN.same mq) _ _ dr, upd_same, dpAll_app (dpAll_ext (ExtN.same mq) _ _ dp_) (dpAll_ext (ExtN.same uq) _ _ dn), rfl⟩
    clear R gr dr gp dp_
    rintro σ H2 ⟨Lp, xp, R, gr, dr, gp, dp_, rfl⟩
    have dp' : DpAll K H2 xp prs := dp_
    have lp : xp.length = 11 := dpAll_len dp_
    have lr : xr.length = 7 := dpAll_len dr
    clear dp_
    -- the first loop
    refine ⟨fun σ H3 => ∃ v4 v5 : Option V, RI K Ts H H3 oa na ∧ σ = [some (.ref oa), some (.ref na), some (.ref Lr), some (.ref Lp), v4, v5, none, none], ?_, ?_⟩
    · refine ⟨_, rfl, _, rfl, Lp, rfl, ⟨_, SqL.of gp⟩, fun D hD => ?_⟩
      refine lc_list (K := K) (a := Lp) (xs := xp) (fun j H3 => Same H2 H3 ∧ KL D H2 H3 ∧ ∃ acc, H3 D = some (.lst acc) ∧ acc.length = min j 11 ∧ ∀ H', KL D H3 H' → DpAll K H' acc ((prs.map addOne).take j)) ⟨same_new hD, KL.upd, [], upd_same, by simp, fun _ _ => .nil⟩ (fun j H3 _ z => SqL.of (z.1 _ _ gp)) ?_ ?_
      · rintro j x H3 hx ⟨s3, kl3, acc, hD3, la, da⟩
        obtain ⟨d, gd, md, dx⟩ := dpAll_get dp' hx
        have hj : j < 11 := by
          have := (List.getElem?_eq_some_iff.mp hx).1
          omega
        obtain ⟨y1, y2, rfl⟩ := prs_tup d md
        have et : (prs.map addOne)[j]? = some (.tuple [d11, y1, y2]) := by
          rw [List.getElem?_map, gd]
          rfl
        refine ⟨rfl, ?_⟩
        refine iteT (B := Same H2 H3 ∧ KL D H2 H3 ∧ ∃ acc, H3 D = some (.lst acc) ∧ acc.length = min (j + 1) 11 ∧ ∀ H', KL D H3 H' → DpAll K H' acc ((prs.map addOne).take (j + 1))) ?_
        cases dx with
        | tup sx ax =>
        obtain ⟨w1, w2, _, _, rfl, e12, a1, a2⟩ := two_of ax (dpAll_len ax)
        cases e12
        refine ⟨_, rfl, (by show 1 ≤ sizeLine; decide), fun t1 h1 => ?_⟩
        have u1 := same_new (o := .tup [.ref oa]) h1
        refine ⟨_, rfl, t1, _, _, _, rfl, rfl, SqT.of upd_same, Bs.Same.t (s3.trans u1) sx, (by show 3 ≤ sizeLine; decide), (fun e => by cases e), (fun _ e => by cases e), fun _ _ t2 h2 => ?_⟩
        have u2 := same_new (o := .tup [.ref oa, w1, w2]) h2
        have u12 := u1.trans u2
        have hD4 := u12 _ _ hD3
        refine ⟨acc, hD4, small1000 (by omega), fun b o z => (upd_ne (ne_of_none z hD)).trans (u12 b o (s3 b o z)), KL.trans kl3 (KL.trans (KL.of (ExtN.same u12)) KL.upd), acc ++ [.ref t2], upd_same, by rw [List.length_append, la, List.length_singleton]; omega, fun H' k5 => ?_⟩
        have k4 := KL.trans (KL.upd (l := D)) k5
        have x5 : ExtN H2 H' := KL.ext (ExtN.refl H2) hD (KL.trans (KL.trans kl3 (KL.of (ExtN.same u12))) k4)
        rw [take_one et]
        exact dpAll_app (da H' (KL.trans (KL.of (ExtN.same u12)) k4)) (.cons (.tup (SqT.of (KL.tp k4 hD4 upd_same)) (.cons (ExtN.t2 x5 R.d1) (.cons (ExtN.t2 x5 a1) (.cons (ExtN.t2 x5 a2) .nil)))) .nil)
      · rintro H3 ⟨s3, _, acc, hD3, _, da0⟩
        have da := da0 H3 (KL.of (ExtN.refl H3))
        have da' : DpAll K H3 acc (prs.map addOne) := by
          rw [List.take_of_length_le (by rw [List.length_map, lp]; decide)] at da
          exact da
        have lacc : acc.length = 11 := dpAll_len da'
        refine ⟨Lr, D, xr, acc, rfl, rfl, s3 _ _ gr, hD3, Nat.le_of_lt (small1000 (by omega)), fun La hLa => ?_⟩
        have u4 := same_new (o := .lst (xr ++ acc)) hLa
        have s34 := s3.trans u4
        have dA : DpAll K _ (xr ++ acc) rsA := dpAll_app (dpAll_ext (ExtN.same s34) _ _ dr) (dpAll_ext (ExtN.same u4) _ _ da')
        refine ⟨La, rfl, ⟨_, SqL.of upd_same⟩, for_list (xs := xr ++ acc) (fun i σ H4 => ∃ v4 v5 : Option V, RI K Ts H H4 oa na ∧ H4 La = some (.lst (xr ++ acc)) ∧ DpAll K H4 (xr ++ acc) rsA ∧ σ = [some (.ref oa), some (.ref na), some (.ref Lr), some (.ref Lp), v4, v5, none, none])
          ⟨none, none, R.same s34, upd_same, dA, rfl⟩ (fun i σ H4 _ p => ?_) ?_ ?_⟩
        · obtain ⟨_, _, _, z, _, _⟩ := p
          exact SqL.of z
        · rintro i x σ H4 hx ⟨v4, v5, R4, g4, d4, rfl⟩
          obtain ⟨d, _, md, dx⟩ := dpAll_get d4 hx
          obtain ⟨bf, shd0⟩ := rsA_ok d md
          have shd := sh_by shd0
          have big : ∀ n : Nat, n ≤ 1000 → n ≤ sizeLine := fun n h => Nat.le_of_lt (small1000 h)
          refine ⟨fun σ H5 => ∃ (l : Addr) (ys : List V), ExtN H4 H5 ∧ Tabs Ts H5 ∧ H5 l = some (.lst ys) ∧ DpAll K H5 ys (List.replicate 2 (dW "ladder" d)) ∧ σ = [some (.ref oa), some (.ref na), some (.ref Lr), some (.ref Lp), some x, some (.ref l), none, none], ?_, ?_⟩
          · refine ⟨R4.T, fun Ha1 xa1 Ta1 => ⟨_, rfl, _, d, rfl, ExtN.t2 xa1 dx, (fun z => nope bf z), (fun _ Hb1 sb1 => out_of Hk .l (fun p1 H5 s1 q1 => ?_))⟩⟩
            have y1 : ExtN H4 H5 := ExtN.trans xa1 (ExtN.same (sb1.trans s1))
            have T1 := Tabs.same Ta1 (sb1.trans s1)
            refine ⟨T1, fun Ha2 xa2 Ta2 => ⟨_, rfl, _, d, rfl, ExtN.t2 (ExtN.trans y1 xa2) dx, (fun _ Hb2 sb2 => out_of Hk .l (fun p2 H6 s2 q2 => ?_)), (fun _ _ _ _ z => nope bf z)⟩⟩
            have y2 : ExtN H5 H6 := ExtN.trans xa2 (ExtN.same (sb2.trans s2))
            have T2 := Tabs.same Ta2 (sb2.trans s2)
            refine ⟨big 2 (by decide), fun l hl => ?_⟩
            have s3 := same_new (o := .lst [.ref p1, .ref p2]) hl
            have e1 : Dp K H6 (.ref p1) (dW "ladder" d) := dp_word (ExtN.tp y2 q1) (ExtN.t2 (ExtN.trans y1 y2) dx)
            have e2 : Dp K H6 (.ref p2) (dW "ladder" d) := dp_word q2 (ExtN.t2 (ExtN.trans y1 y2) dx)
            exact ⟨l, _, ExtN.trans (ExtN.trans y1 y2) (ExtN.same s3), Tabs.same T2 s3, upd_same, .cons (dps s3 e1) (.cons (dps s3 e2) .nil), rfl⟩
          rintro σ H5 ⟨l, ys, x5, T5, g5, d5, rfl⟩
          have ln := dpAll_len d5
          rw [List.length_replicate] at ln
          refine ⟨fun σ H5 => ∃ (l : Addr) (ys : List V), ExtN H4 H5 ∧ Tabs Ts H5 ∧ H5 l = some (.lst ys) ∧ DpAll K H5 ys (List.replicate 4 (dW "ladder" d)) ∧ σ = [some (.ref oa), some (.ref na), some (.ref Lr), some (.ref Lp), some x, some (.ref l), none, none], ?_, ?_⟩
          · refine ⟨_, rfl, T5, fun Ha1 xa1 Ta1 => ⟨_, rfl, _, d, rfl, ExtN.t2 (ExtN.trans x5 xa1) dx, (fun _ Hb1 sb1 => out_of Hk .l (fun p1 H6 s1 q1 => ?_)), (fun _ _ _ _ z => nope bf z)⟩⟩
            have y1 : ExtN H5 H6 := ExtN.trans xa1 (ExtN.same (sb1.trans s1))
            have T1 := Tabs.same Ta1 (sb1.trans s1)
            refine ⟨T1, fun Ha2 xa2 Ta2 => ⟨_, rfl, _, d, rfl, ExtN.t2 (ExtN.trans (ExtN.trans x5 y1) xa2) dx, (fun _ Hb2 sb2 => out_of Hk .l (fun p2 H7 s2 q2 => ?_)), (fun _ _ _ _ z => nope bf z)⟩⟩
            have y2 : ExtN H6 H7 := ExtN.trans xa2 (ExtN.same (sb2.trans s2))
            have T2 := Tabs.same Ta2 (sb2.trans s2)
            have y12 := ExtN.trans y1 y2
            have x7 := ExtN.trans x5 y12
            refine ⟨big 2 (by decide), fun l2 hl2 => ?_⟩
            have s3 := same_new (o := .lst [.ref p1, .ref p2]) hl2
            have e1 : Dp K H7 (.ref p1) (dW "ladder" d) := dp_word (ExtN.tp y2 q1) (ExtN.t2 x7 dx)
            have e2 : Dp K H7 (.ref p2) (dW "ladder" d) := dp_word q2 (ExtN.t2 x7 dx)
            refine ⟨l, l2, ys, _, rfl, rfl, s3 _ _ (ExtN.l y12 g5), upd_same, big _ (by rw [ln]; show 4 ≤ 1000; decide), fun l3 hl3 => ?_⟩
            have s4 := same_new (o := .lst (ys ++ [.ref p1, .ref p2])) hl3
            have s34 := s3.trans s4
            exact ⟨l3, _, ExtN.trans x7 (ExtN.same s34), Tabs.same T2 s34, upd_same, dpAll_app (ds := List.replicate 2 (dW "ladder" d)) (es := [dW "ladder" d, dW "ladder" d]) (dpAll_ext (ExtN.trans y12 (ExtN.same s34)) _ _ d5) (.cons (dps s34 e1) (.cons (dps s34 e2) .nil)), rfl⟩
          clear x5 T5 g5 d5 ln
          rintro σ H5 ⟨l, ys, x5, T5, g5, d5, rfl⟩
          have ln := dpAll_len d5
          rw [List.length_replicate] at ln
          refine ⟨_, rfl, T5, fun Ha1 xa1 Ta1 => ⟨_, rfl, _, _, d, .none, rfl, ExtN.t2 (ExtN.trans x5 xa1) dx, .non, (fun _ Hb1 sb1 => out_of Hk .l (fun p1 H6 s1 q1 => ?_)), (fun _ _ _ _ z => nope bf z)⟩⟩
          have y1 : ExtN H5 H6 := ExtN.trans xa1 (ExtN.same (sb1.trans s1))
          have T1 := Tabs.same Ta1 (sb1.trans s1)
          have x6 := ExtN.trans x5 y1
          refine ⟨big 1 (by decide), fun l2 hl2 => ?_⟩
          have s3 := same_new (o := .lst [.ref p1]) hl2
          have e1 : Dp K H6 (.ref p1) (dW "ladder" d) := dp_word q1 (ExtN.t2 x6 dx)
          refine ⟨l, l2, ys, _, rfl, rfl, s3 _ _ (ExtN.l y1 g5), upd_same, big _ (by rw [ln]; show 5 ≤ 1000; decide), fun l3 hl3 => ?_⟩
          have s4 := same_new (o := .lst (ys ++ [.ref p1])) hl3
          have s34 := s3.trans s4
          have dH : DpAll K _ (ys ++ [.ref p1]) (List.replicate 5 (dW "ladder" d)) := dpAll_app (ds := List.replicate 4 (dW "ladder" d)) (es := [dW "ladder" d]) (dpAll_ext (ExtN.trans y1 (ExtN.same s34)) _ _ d5) (.cons (dps s34 e1) .nil)
          refine ⟨l3, .list (List.replicate 5 (dW "ladder" d)), rfl, .lst (SqL.of upd_same) dH, shd.s, shd.n, shd.dep, shd.l, ?_⟩
          refine ⟨_, rfl, big 2 (by decide), fun p4 hp4 => ⟨big 1 (by decide), fun l4 hl4 => ?_⟩⟩
          have s7 := same_new (o := .tup [.str "ladder", x]) hp4
          have s8 := same_new (o := .lst [.ref p4]) hl4
          refine ⟨l4, 5, _, rfl, rfl, upd_same, by decide, by decide, (by show 5 ≤ sizeLine; decide), fun l5 hl5 => ?_⟩
          have s9 := same_new (o := .lst (List.replicate 5 (.ref p4))) hl5
          have x34 := ExtN.trans x6 (ExtN.same s34)
          have e4 := dps (s8.trans s9) (dp_word upd_same (dps s7 (ExtN.t2 x34 dx)))
          refine ⟨l5, .list (List.replicate 5 (dW "ladder" d)), rfl, .lst (SqL.of upd_same) (dpAll_rep e4 5), shd.s, shd.n, shd.dep, shd.l, rfl, false, by simp, ?_⟩
          have s79 := s7.trans (s8.trans s9)
          have xe := ExtN.trans x34 (ExtN.same s79)
          have Te := Tabs.same (Tabs.same T1 s34) s79
          exact ⟨some x, some (.ref l), R4.ext xe Te, ExtN.l xe g4, dpAll_ext xe _ _ d4, rfl⟩
        · rintro σ H4 ⟨v4, v5, R4, _, _, rfl⟩
          exact ⟨v4, v5, R4, rfl⟩
    clear R gr dr gp dp'
    rintro σ H3 ⟨v4, v5, R, rfl⟩
    refine ⟨fun σ H2 => ∃ ga : Addr, RI K Ts H H2 oa na ∧ Dp K H2 (.ref ga) dGd ∧ σ = [some (.ref oa), some (.ref na), some (.ref Lr), some (.ref Lp), v4, v5, some (.ref ga), none], ?_, ?_⟩
    · refine ⟨_, rfl, _, rfl, (by show 1 ≤ sizeLine; decide), fun f0 hf0 => ⟨_, rfl, (by show 1 ≤ sizeLine; decide), fun f1 hf1 => ⟨(by show 3 ≤ sizeLine; decide), fun f2 hf2 => ?_⟩⟩⟩
      have uf0 := same_new (o := .tup [.ref na]) hf0
      have uf1 := same_new (o := .tup [.ref oa]) hf1
      have uf2 := same_new (o := .tup [.ref oa, .ref f0, .ref f1]) hf2
      have mm := (uf0.trans (uf1.trans uf2))
      exact ⟨f2, R.same mm, (show Dp K _ _ dGd from (show Dp K _ (.ref f2) (.tuple [d11, .tuple [d01], .tuple [d11]]) from (.tup (SqT.of upd_same) (.cons (dps (uf0.trans (uf1.trans uf2)) R.d1) (.cons (dps (uf1.trans uf2) (show Dp K _ (.ref f0) (.tuple [d01]) from (.tup (SqT.of upd_same) (.cons (dps uf0 R.d0) .nil)))) (.cons (dps uf2 (show Dp K _ (.ref f1) (.tuple [d11]) from (.tup (SqT.of upd_same) (.cons (dps (uf0.trans uf1) R.d1) .nil)))) .nil)))))), rfl⟩
    clear R
    rintro σ H4 ⟨ga, R, dg, rfl⟩
    refine ⟨fun σ H5 => ∃ v4 : Option V, RI K Ts H H5 oa na ∧ σ = [some (.ref oa), some (.ref na), some (.ref Lr), some (.ref Lp), v4, v5, some (.ref ga), none], ?_, ?_⟩
    · refine ⟨_, rfl, (by show 5 ≤ sizeLine; decide), fun a ha => ?_⟩
      have s1 := same_new (o := .tup [.non, .int (-1), .int 9, .bl true, .int 3]) ha
      refine ⟨a, rfl, ⟨_, SqT.of upd_same⟩, ?_⟩
      refine for_tup (K := K) (a := a) (xs := [.non, .int (-1), .int 9, .bl true, .int 3]) (fun i σ H5 => ∃ v4 : Option V, RI K Ts H H5 oa na ∧ SqT K H5 a [.non, .int (-1), .int 9, .bl true, .int 3] ∧ Dp K H5 (.ref ga) dGd ∧ σ = [some (.ref oa), some (.ref na), some (.ref Lr), some (.ref Lp), v4, v5, some (.ref ga), none])
        ⟨v4, R.same s1, SqT.of upd_same, dps s1 dg, rfl⟩ (fun i σ H5 _ p => ?_) ?_ ?_
      · obtain ⟨_, _, z, _, _⟩ := p
        exact z
      · rintro i x σ H5 hx ⟨v4, R5, sa, dg5, rfl⟩
        have da : DpAll K H5 [.non, .int (-1), .int 9, .bl true, .int 3] rs4 := .cons .non (.cons (.int _) (.cons (.int _) (.cons (.bl _) (.cons (.int _) .nil))))
        obtain ⟨d, _, md, dx⟩ := dpAll_get da hx
        obtain ⟨bf, shd0⟩ := rs4_ok d md
        have shd := sh_by shd0
        refine ⟨R5.T, fun Ha1 xa1 Ta1 => ⟨_, rfl, _, rfl, _, _, dGd, d, rfl, ExtN.t2 xa1 dg5, ExtN.t2 xa1 dx, (fun z => nope z gd_ok), fun T0 ls0 ss0 e0 _ => ⟨fun _ Hb1 sb1 => out_of Hk .n (fun p1 H6 s6 q1 => ?_), fun m e2 m0 m1 => ?_⟩⟩⟩
        · have y1 : ExtN H5 H6 := ExtN.trans xa1 (ExtN.same (sb1.trans s6))
          have T1 := Tabs.same Ta1 (sb1.trans s6)
          refine ⟨p1, dW "number" d, rfl, dp_word q1 (ExtN.t2 y1 dx), shd.s, shd.n, shd.dep, shd.l, ?_⟩
          refine ⟨_, rfl, (by show 2 ≤ sizeLine; decide), fun t2 h2 => ?_⟩
          have s7 := same_new (o := .tup [.str "number", x]) h2
          have xe := ExtN.trans y1 (ExtN.same s7)
          refine ⟨t2, dW "number" d, rfl, dp_word upd_same (ExtN.t2 xe dx), shd.s, shd.n, shd.dep, shd.l, rfl, false, by simp, ?_⟩
          exact ⟨some x, R5.ext xe (Tabs.same T1 s7), ExtN.t xe sa, ExtN.t2 xe dg5, rfl⟩
        · obtain ⟨rfl, rfl, rfl⟩ := dL_inj e0
          rw [gd_most] at m1
          exact nob2 bf e2 m0 m1
      · rintro σ H5 ⟨v4, R5, _, _, rfl⟩
        exact ⟨v4, R5, rfl⟩
    clear R dg
    rintro σ H5 ⟨v4', R, rfl⟩
    exact kk H5 R.x R.T
end
end Rs


set_option Elab.async false
set_option linter.all false
set_option maxRecDepth 100000
set_option maxHeartbeats 1000000
namespace Rs
open PySem L2 Bs Fq LamX LmD RZ
abbrev sLaw : Stmt := top 62
abbrev NL : List Str := ["script", "one", "none", "wide", "state", "turn"]
/-- law(script) -/
def spLaw (K : PySem.W.Frag) (Ts : List (Addr × Str)) : Sp := fun vs H Q _ => ∃ (a : Addr) (ns : List Int), vs = [.ref a] ∧ SqL K H a (ns.map V.int) ∧ ns.length ≤ 63 ∧ Tabs Ts H ∧ ∀ H', Q (.bl true) H'
theorem scLaw : FnScope NL ["script"] (defScope sLaw) := ⟨rfl, rfl, rfl, by decide +kernel, rfl, by decide +kernel, by decide +kernel⟩
/-! ### ground facts -/
def zB (q : F) : Bool := decide (0 < q.2) && decide (Nat.gcd q.1.natAbs q.2.natAbs = 1) && decide (6 % q.2 = 0) && decide (q.1.natAbs ≤ 85)
theorem zB_zs {q : F} (h : zB q = true) : Zs 1 q := by
  simp only [zB, Bool.and_eq_true, decide_eq_true_eq] at h
  exact Zs.of ⟨h.1.1.1, h.1.1.2⟩ (Int.dvd_of_emod_eq_zero h.1.2) h.2
theorem zB_all {qs : List F} (h : qs.all zB = true) : Za 1 qs := fun q hq => zB_zs (List.all_eq_true.mp h q hq)
theorem nolad' {d : PyData} (h : ladderD d = true) {A : Prop} : ladderD d = false → A := fun e => by
  rw [h] at e
  cases e
theorem row_fin' {CN : Addr} {K : PySem.W.Frag} {T : F} {ls ss : List F} {n : Int} {H : Hp} {Q : VK} {E : XK} (h1 : zB T = true) (h2 : ls.all zB = true) (h3 : ss.all zB = true) (n0 : 0 ≤ n) (n1 : n ≤ mostN ls ss) (h : ∀ H' v, Same H H' → Po K H' v (rowL T ls ss n.toNat) → Q v H') :
    ∀ T' ls' ss', dL T ls ss = dL T' ls' ss' → ladderD (dL T ls ss) = true → (betwD 0 (mostN ls' ss') (.int n) = false → ∀ H', Same H H' → OutW E CN "given" (.int n) H') ∧
    (∀ m, PyData.int n = .int m → 0 ≤ m → m ≤ mostN ls' ss' → Zs 1 T' ∧ Za 1 ls' ∧ Za 1 ss' ∧ ∀ H' v, Same H H' → Po K H' v (rowL T' ls' ss' m.toNat) → Q v H') := by
  intro T' ls' ss' e _
  obtain ⟨rfl, rfl, rfl⟩ := dL_inj e
  refine ⟨fun z => ?_, fun m e _ _ => ?_⟩
  · have : betwD 0 (mostN ls ss) (.int n) = true := by
      show (decide (0 ≤ n) && decide (n ≤ mostN ls ss)) = true
      rw [decide_eq_true n0, decide_eq_true n1]
      rfl
    rw [this] at z
    cases z
  · cases e
    exact ⟨zB_zs h1, zB_all h2, zB_all h3, h⟩
def wls : List F := List.replicate 5 (0, 1)
def wss : List F := [(1, 1), (1, 1), (1, 1), (1, 1), (0, 1)]
def dWide : PyData := dL (1, 1) wls wss
theorem shaped_lad (T : F) (ls ss : List F) (h : SeqAt.shaped (dL T ls ss) = true) : SeqAt.shaped (dL T ls ss) = true := h
section
variable {P : Program} {w : World} {K : PySem.W.Frag} {mg : Str → Option Value} {base : Heap} {f CL CN : Addr} {fd : FuncData} {Ts : List (Addr × Str)}
theorem ok_law (F : Fun K "law" "law" sLaw f fd) (T : Blt mg)
    (RP : CalX P w K mg base 7 "rung_polys" (spLad K CL (rRungs K))) (NO : CalX P w K mg base 6 "norms" (spLad K CL (rNorms K))) (IE : CalX P w K mg base 6 "is_ended" (spLad K CL rEnded)) (NL : CalX P w K mg base 5 "need_ladder" (spNeedLad K CL)) (RW : CalX P w K mg base 6 "row_of" (spRowOf K CL CN))
    (RF : CalG P w K mg base 10 "_law_refused_good" (spRefused Ts)) (BG : Cal P w K mg base 2 "_law_begin" (spBegin K)) (GD : CalG P w K mg base 8 "_law_good" spGood) :
    FnG P w K mg base 11 f fd ["script"] (spLaw K Ts) := by
  refine FnG.ok F scLaw (fun vs H Q E h => ?_) (fun cdv A outer s H vs Q E hgd hr h => ?_)
  · obtain ⟨a, ns, rfl, _⟩ := h
    rfl
  · obtain ⟨a, ns, rfl, sq, ln, TT, kk⟩ := h
    refine ⟨_, (C8.pss_cut (ps_asg (pe_tup (pa_cons (pe_tup (pa_cons pe_int (pa_cons pe_int pa_nil))) (pa_cons (pe_tup (pa_cons pe_int (pa_cons pe_int pa_nil))) pa_nil))) (pg_tup rfl (pgs_cons (pg_name (i := 1) scLaw.nd rfl (.inl rfl)) (pgs_cons (pg_name (i := 2) scLaw.nd rfl (.inl rfl)) pgs_nil))))
      (C8.pss_cut (ps_if (pt_cmpR (op_neD hr.units) (pe_x RW hr (by decide) (by rfl) passL (pa_cons (pe_tup (pa_cons (pv 1) (pa_cons (pe_op op_repT (pe_tup (pa_cons (pv 2) pa_nil)) pe_int) (pa_cons (pe_op op_repT (pe_tup (pa_cons (pv 1) pa_nil)) pe_int) pa_nil)))) (pa_cons pe_int pa_nil))) (pe_tup (pa_cons (pv 1) (pa_cons (pv 2) (pa_cons (pv 1) (pa_cons (pv 2) (pa_cons (pe_tup (pa_cons pe_int (pa_cons pe_int pa_nil))) (pa_cons (pv 2) (pa_cons (pe_tup (pa_cons pe_int (pa_cons pe_int pa_nil))) (pa_cons (pv 2) (pa_cons (pe_tup (pa_cons pe_int (pa_cons pe_int pa_nil))) pa_nil)))))))))) (nomark _)) (pss_one (ps_ret pe_bl)) pss_nil)
      (C8.pss_cut (ps_if (pt_cmpR (op_neD hr.units) (pe_x RW hr (by decide) (by rfl) passL (pa_cons (pe_tup (pa_cons (pe_tup (pa_cons pe_int (pa_cons pe_int pa_nil))) (pa_cons (pe_tup (pa_cons (pe_tup (pa_cons pe_int (pa_cons pe_int pa_nil))) pa_nil)) (pa_cons (pe_tup (pa_cons (pv 2) pa_nil)) pa_nil)))) (pa_cons pe_int pa_nil))) (pe_tup (pa_cons (pe_tup (pa_cons pe_int (pa_cons pe_int pa_nil))) (pa_cons (pe_tup (pa_cons pe_int (pa_cons pe_int pa_nil))) (pa_cons (pe_tup (pa_cons pe_int (pa_cons pe_int pa_nil))) (pa_cons (pe_tup (pa_cons pe_int (pa_cons pe_int pa_nil))) pa_nil))))) (nomark _)) (pss_one (ps_ret pe_bl)) pss_nil)
      (C8.pss_cut (ps_if (pt_cmpR (op_neD hr.units) (pe_x RW hr (by decide) (by rfl) passL (pa_cons (pe_tup (pa_cons (pv 1) (pa_cons (pe_tup pa_nil) (pa_cons (pe_tup pa_nil) pa_nil)))) (pa_cons pe_int pa_nil))) (pe_tup (pa_cons (pv 1) pa_nil)) (nomark _)) (pss_one (ps_ret pe_bl)) pss_nil)
      (C8.pss_cut (ps_if (pt_cmpR (op_neD hr.units) (pe_x RP hr (by decide) (by rfl) passL (pa_cons (pe_tup (pa_cons (pv 1) (pa_cons (pe_tup (pa_cons (pv 1) (pa_cons (pv 2) pa_nil))) (pa_cons (pe_tup (pa_cons (pe_tup (pa_cons pe_int (pa_cons pe_int pa_nil))) pa_nil)) pa_nil)))) pa_nil)) (pe_tup (pa_cons (pe_tup (pa_cons (pv 1) pa_nil)) (pa_cons (pe_tup (pa_cons (pe_tup (pa_cons (pe_un un_neg pe_int) (pa_cons pe_int pa_nil))) (pa_cons (pv 1) pa_nil))) (pa_cons (pe_tup (pa_cons (pe_tup (pa_cons (pe_un un_neg pe_int) (pa_cons pe_int pa_nil))) (pa_cons (pe_tup (pa_cons (pe_un un_neg pe_int) (pa_cons pe_int pa_nil))) (pa_cons (pv 1) pa_nil)))) pa_nil)))) (nomark _)) (pss_one (ps_ret pe_bl)) pss_nil)
      (C8.pss_cut (ps_set (i := 3) scLaw.nd rfl (Or.inl rfl) (pe_tup (pa_cons (pv 1) (pa_cons (pe_op op_repT (pe_tup (pa_cons (pv 2) pa_nil)) pe_int) (pa_cons (pe_op op_catA (pe_op op_repT (pe_tup (pa_cons (pv 1) pa_nil)) pe_int) (pe_tup (pa_cons (pv 2) pa_nil))) pa_nil)))))
      (C8.pss_cut (ps_if (PW.pt (pw_or (pt_cmpR (op_neD hr.units) (pe_x NL hr (by decide) (by rfl) passL (pa_cons (pv 3) pa_nil)) (pv 3) (nomark _)) (pw_or (pt_cmpR (op_neD hr.units) (pe_x NO hr (by decide) (by rfl) passL (pa_cons (pv 3) pa_nil)) (pe_op op_catA (pe_op op_repT (pe_tup (pa_cons (pv 1) pa_nil)) pe_int) (pe_tup (pa_cons (pv 2) pa_nil))) (nomark _)) (pw_or1 (pt_cmpR op_ne (pe_callB call_len_seq (by rfl) T.len (by decide +kernel) (pa_cons (pe_x RP hr (by decide) (by rfl) passL (pa_cons (pv 3) pa_nil)) pa_nil)) pe_int (nomark _)))))) (pss_one (ps_ret pe_bl)) pss_nil)
      (C8.pss_cut (ps_if (pt_cmpR (op_neD hr.units) (pe_x RW hr (by decide) (by rfl) passL (pa_cons (pv 3) (pa_cons pe_int pa_nil))) (pe_tup (pa_cons (pv 1) (pa_cons (pv 2) (pa_cons (pv 1) (pa_cons (pv 2) (pa_cons (pe_tup (pa_cons pe_int (pa_cons pe_int pa_nil))) (pa_cons (pv 2) (pa_cons (pe_tup (pa_cons pe_int (pa_cons pe_int pa_nil))) (pa_cons (pv 2) (pa_cons (pe_tup (pa_cons pe_int (pa_cons pe_int pa_nil))) pa_nil)))))))))) (nomark _)) (pss_one (ps_ret pe_bl)) pss_nil)
      (C8.pss_cut (ps_if (pt_cmpR (op_neD hr.units) (pe_x RW hr (by decide) (by rfl) passL (pa_cons (pe_tup (pa_cons (pv 1) (pa_cons (pe_tup (pa_cons (pv 2) (pa_cons (pv 2) pa_nil))) (pa_cons (pe_tup (pa_cons (pe_tup (pa_cons pe_int (pa_cons pe_int pa_nil))) pa_nil)) pa_nil)))) (pa_cons pe_int pa_nil))) (pe_tup (pa_cons (pv 1) (pa_cons (pv 2) (pa_cons (pe_tup (pa_cons pe_int (pa_cons pe_int pa_nil))) (pa_cons (pv 2) pa_nil))))) (nomark _)) (pss_one (ps_ret pe_bl)) pss_nil)
      (C8.pss_cut (ps_if (pt_cmpR op_isnot_bl (pe_x IE hr (by decide) (by rfl) passL (pa_cons (pe_tup (pa_cons (pv 1) (pa_cons (pe_tup pa_nil) (pa_cons (pe_tup pa_nil) pa_nil)))) pa_nil)) pe_bl (nomark _)) (pss_one (ps_ret pe_bl)) pss_nil)
      (C8.pss_cut (ps_if (pt_not (pt_val (pe_g0 RF hgd hr (by decide) (by rfl)))) (pss_one (ps_ret pe_bl)) pss_nil)
      (C8.pss_cut (ps_set (i := 4) scLaw.nd rfl (Or.inl rfl) (pe_n BG hr (by decide) (by rfl) (pa_cons (pv 0) pa_nil)))
      (C8.pss_cut (ps_for PassesOwn.never rfl (pi_range1 rfl T.range (pa_cons (pe_op op_add pe_int (pe_callB (call_min2 rfl) (by rfl) T.min (by decide +kernel) (pa_cons (pe_callB call_len_seq (by rfl) T.len (by decide +kernel) (pa_cons (pv 0) pa_nil)) (pa_cons pe_int pa_nil)))) pa_nil)) (pg_name (i := 5) scLaw.nd rfl (Or.inl rfl)) (pss_one (ps_if (pt_not (pt_val ((pe_g GD hgd hr (by decide) (by rfl) (pa_cons (pv 4) pa_nil))))) (pss_one (ps_ret pe_bl)) pss_nil)))
      (pss_one (ps_ret pe_bl))))))))))))))), ?_⟩

    refine ⟨fun σ H1 => ∃ oa na : Addr, RI K Ts H H1 oa na ∧ σ = [some (.ref a), some (.ref oa), some (.ref na), none, none, none], ?_, ?_⟩
    · refine ⟨(by show 2 ≤ sizeLine; decide), fun t1 h1 => ⟨(by show 2 ≤ sizeLine; decide), fun t2 h2 => ⟨(by show 2 ≤ sizeLine; decide), fun T0 h3 => ⟨T0, _, rfl, SqT.of upd_same, rfl, _, _, rfl, _, _, rfl, rfl, ?_⟩⟩⟩⟩
      have u1 := same_new (o := .tup [.int 1, .int 1]) h1
      have u2 := same_new (o := .tup [.int 0, .int 1]) h2
      have u3 := same_new (o := .tup [.ref t1, .ref t2]) h3
      exact ⟨t1, t2, ⟨ExtN.same (u1.trans (u2.trans u3)), Tabs.same TT (u1.trans (u2.trans u3)), dps (u2.trans u3) dp_lit, dps u3 dp_lit⟩, rfl⟩
    rintro σ H1 ⟨oa, na, R, rfl⟩
    refine ⟨fun σ H2 => RI K Ts H H2 oa na ∧ σ = [some (.ref a), some (.ref oa), some (.ref na), none, none, none], ?_, ?_⟩
    · skip
      refine ⟨_, rfl, _, rfl, (by show 1 ≤ sizeLine; decide), fun q1_0 hq1_0 => ⟨q1_0, 4, _, rfl, rfl, SqT.of upd_same, by simp, by decide, by decide, (by show 1 ≤ 1000; decide), fun q1_1 hq1_1 => ⟨_, rfl, (by show 1 ≤ sizeLine; decide), fun q1_2 hq1_2 => ⟨q1_2, 4, _, rfl, rfl, SqT.of upd_same, by simp, by decide, by decide, (by show 1 ≤ 1000; decide), fun q1_3 hq1_3 => ⟨(by show 3 ≤ sizeLine; decide), fun q1_4 hq1_4 => ?_⟩⟩⟩⟩⟩
      have uq1_0 := same_new (o := .tup [.ref na]) hq1_0
      have uq1_1 := same_new (o := .tup [.ref na, .ref na, .ref na, .ref na]) hq1_1
      have uq1_2 := same_new (o := .tup [.ref oa]) hq1_2
      have uq1_3 := same_new (o := .tup [.ref oa, .ref oa, .ref oa, .ref oa]) hq1_3
      have uq1_4 := same_new (o := .tup [.ref oa, .ref q1_1, .ref q1_3]) hq1_4
      have mx := (uq1_0.trans (uq1_1.trans (uq1_2.trans (uq1_3.trans uq1_4))))
      have dx : Dp K _ (.ref q1_4) (dL (1, 1) [(0, 1), (0, 1), (0, 1), (0, 1)] [(1, 1), (1, 1), (1, 1), (1, 1)]) := (show Dp K _ (.ref q1_4) (.tuple [d11, .tuple [d01, d01, d01, d01], .tuple [d11, d11, d11, d11]]) from (.tup (SqT.of upd_same) (.cons (dps (uq1_0.trans (uq1_1.trans (uq1_2.trans (uq1_3.trans uq1_4)))) R.d1) (.cons (dps (uq1_2.trans (uq1_3.trans uq1_4)) (show Dp K _ (.ref q1_1) (.tuple [d01, d01, d01, d01]) from (.tup (SqT.of upd_same) (.cons (dps (uq1_0.trans uq1_1) R.d0) (.cons (dps (uq1_0.trans uq1_1) R.d0) (.cons (dps (uq1_0.trans uq1_1) R.d0) (.cons (dps (uq1_0.trans uq1_1) R.d0) .nil))))))) (.cons (dps uq1_4 (show Dp K _ (.ref q1_3) (.tuple [d11, d11, d11, d11]) from (.tup (SqT.of upd_same) (.cons (dps (uq1_0.trans (uq1_1.trans (uq1_2.trans uq1_3))) R.d1) (.cons (dps (uq1_0.trans (uq1_1.trans (uq1_2.trans uq1_3))) R.d1) (.cons (dps (uq1_0.trans (uq1_1.trans (uq1_2.trans uq1_3))) R.d1) (.cons (dps (uq1_0.trans (uq1_1.trans (uq1_2.trans uq1_3))) R.d1) .nil))))))) .nil)))))
      refine ⟨.ref q1_4, .int 8, dL (1, 1) [(0, 1), (0, 1), (0, 1), (0, 1)] [(1, 1), (1, 1), (1, 1), (1, 1)], .int 8, rfl, dx, .int _, nolad' (by decide +kernel), row_fin' (by decide +kernel) (by decide +kernel) (by decide +kernel) (by decide) (by decide +kernel) fun Ha v sa po => ?_⟩
      rw [show rowL (1, 1) [(0, 1), (0, 1), (0, 1), (0, 1)] [(1, 1), (1, 1), (1, 1), (1, 1)] (8 : Int).toNat = [(1, 1), (0, 1), (1, 1), (0, 1), (2, 1), (0, 1), (5, 1), (0, 1), (14, 1)] from by decide +kernel] at po
      have R2 := R.same (mx.trans sa)
      refine ⟨_, rfl, _, rfl, _, rfl, _, rfl, (by show 2 ≤ sizeLine; decide), fun q2_0 hq2_0 => ⟨_, rfl, (by show 2 ≤ sizeLine; decide), fun q2_1 hq2_1 => ⟨_, rfl, (by show 2 ≤ sizeLine; decide), fun q2_2 hq2_2 => ⟨(by show 9 ≤ sizeLine; decide), fun q2_3 hq2_3 => ?_⟩⟩⟩⟩
      have uq2_0 := same_new (o := .tup [.int (2), .int (1)]) hq2_0
      have uq2_1 := same_new (o := .tup [.int (5), .int (1)]) hq2_1
      have uq2_2 := same_new (o := .tup [.int (14), .int (1)]) hq2_2
      have uq2_3 := same_new (o := .tup [.ref oa, .ref na, .ref oa, .ref na, .ref q2_0, .ref na, .ref q2_1, .ref na, .ref q2_2]) hq2_3
      have my := (uq2_0.trans (uq2_1.trans (uq2_2.trans uq2_3)))
      have dy : Dp K _ (.ref q2_3) (dP [(1, 1), (0, 1), (1, 1), (0, 1), (2, 1), (0, 1), (5, 1), (0, 1), (14, 1)]) := (show Dp K _ (.ref q2_3) (.tuple [d11, d01, d11, d01, .tuple [.int (2), .int (1)], d01, .tuple [.int (5), .int (1)], d01, .tuple [.int (14), .int (1)]]) from (.tup (SqT.of upd_same) (.cons (dps (uq2_0.trans (uq2_1.trans (uq2_2.trans uq2_3))) R2.d1) (.cons (dps (uq2_0.trans (uq2_1.trans (uq2_2.trans uq2_3))) R2.d0) (.cons (dps (uq2_0.trans (uq2_1.trans (uq2_2.trans uq2_3))) R2.d1) (.cons (dps (uq2_0.trans (uq2_1.trans (uq2_2.trans uq2_3))) R2.d0) (.cons (dps (uq2_1.trans (uq2_2.trans uq2_3)) (show Dp K _ (.ref q2_0) (.tuple [.int (2), .int (1)]) from (.tup (SqT.of upd_same) (.cons (.int _) (.cons (.int _) .nil))))) (.cons (dps (uq2_0.trans (uq2_1.trans (uq2_2.trans uq2_3))) R2.d0) (.cons (dps (uq2_2.trans uq2_3) (show Dp K _ (.ref q2_1) (.tuple [.int (5), .int (1)]) from (.tup (SqT.of upd_same) (.cons (.int _) (.cons (.int _) .nil))))) (.cons (dps (uq2_0.trans (uq2_1.trans (uq2_2.trans uq2_3))) R2.d0) (.cons (dps uq2_3 (show Dp K _ (.ref q2_2) (.tuple [.int (14), .int (1)]) from (.tup (SqT.of upd_same) (.cons (.int _) (.cons (.int _) .nil))))) .nil)))))))))))
      refine ⟨dP [(1, 1), (0, 1), (1, 1), (0, 1), (2, 1), (0, 1), (5, 1), (0, 1), (14, 1)], dP [(1, 1), (0, 1), (1, 1), (0, 1), (2, 1), (0, 1), (5, 1), (0, 1), (14, 1)], (po.mono my).dp, dy, shaped_dP _, shaped_dP _, _, rfl, ?_⟩
      rw [eqv_dP_self]
      exact iteF ⟨R2.same my, rfl⟩
    clear R
    rintro σ H1 ⟨R, rfl⟩
    refine ⟨fun σ H2 => RI K Ts H H2 oa na ∧ σ = [some (.ref a), some (.ref oa), some (.ref na), none, none, none], ?_, ?_⟩
    · skip
      refine ⟨(by show 2 ≤ sizeLine; decide), fun q3_0 hq3_0 => ⟨(by show 2 ≤ sizeLine; decide), fun q3_1 hq3_1 => ⟨(by show 1 ≤ sizeLine; decide), fun q3_2 hq3_2 => ⟨_, rfl, (by show 1 ≤ sizeLine; decide), fun q3_3 hq3_3 => ⟨(by show 3 ≤ sizeLine; decide), fun q3_4 hq3_4 => ?_⟩⟩⟩⟩⟩
      have uq3_0 := same_new (o := .tup [.int (2), .int (1)]) hq3_0
      have uq3_1 := same_new (o := .tup [.int (3), .int (1)]) hq3_1
      have uq3_2 := same_new (o := .tup [.ref q3_1]) hq3_2
      have uq3_3 := same_new (o := .tup [.ref na]) hq3_3
      have uq3_4 := same_new (o := .tup [.ref q3_0, .ref q3_2, .ref q3_3]) hq3_4
      have mx := (uq3_0.trans (uq3_1.trans (uq3_2.trans (uq3_3.trans uq3_4))))
      have dx : Dp K _ (.ref q3_4) (dL (2, 1) [(3, 1)] [(0, 1)]) := (show Dp K _ (.ref q3_4) (.tuple [.tuple [.int (2), .int (1)], .tuple [.tuple [.int (3), .int (1)]], .tuple [d01]]) from (.tup (SqT.of upd_same) (.cons (dps (uq3_1.trans (uq3_2.trans (uq3_3.trans uq3_4))) (show Dp K _ (.ref q3_0) (.tuple [.int (2), .int (1)]) from (.tup (SqT.of upd_same) (.cons (.int _) (.cons (.int _) .nil))))) (.cons (dps (uq3_3.trans uq3_4) (show Dp K _ (.ref q3_2) (.tuple [.tuple [.int (3), .int (1)]]) from (.tup (SqT.of upd_same) (.cons (dps uq3_2 (show Dp K _ (.ref q3_1) (.tuple [.int (3), .int (1)]) from (.tup (SqT.of upd_same) (.cons (.int _) (.cons (.int _) .nil))))) .nil)))) (.cons (dps uq3_4 (show Dp K _ (.ref q3_3) (.tuple [d01]) from (.tup (SqT.of upd_same) (.cons (dps (uq3_0.trans (uq3_1.trans (uq3_2.trans uq3_3))) R.d0) .nil)))) .nil)))))
      refine ⟨.ref q3_4, .int 3, dL (2, 1) [(3, 1)] [(0, 1)], .int 3, rfl, dx, .int _, nolad' (by decide +kernel), row_fin' (by decide +kernel) (by decide +kernel) (by decide +kernel) (by decide) (by decide +kernel) fun Ha v sa po => ?_⟩
      rw [show rowL (2, 1) [(3, 1)] [(0, 1)] (3 : Int).toNat = [(2, 1), (6, 1), (18, 1), (54, 1)] from by decide +kernel] at po
      have R2 := R.same (mx.trans sa)
      refine ⟨(by show 2 ≤ sizeLine; decide), fun q4_0 hq4_0 => ⟨(by show 2 ≤ sizeLine; decide), fun q4_1 hq4_1 => ⟨(by show 2 ≤ sizeLine; decide), fun q4_2 hq4_2 => ⟨(by show 2 ≤ sizeLine; decide), fun q4_3 hq4_3 => ⟨(by show 4 ≤ sizeLine; decide), fun q4_4 hq4_4 => ?_⟩⟩⟩⟩⟩
      have uq4_0 := same_new (o := .tup [.int (2), .int (1)]) hq4_0
      have uq4_1 := same_new (o := .tup [.int (6), .int (1)]) hq4_1
      have uq4_2 := same_new (o := .tup [.int (18), .int (1)]) hq4_2
      have uq4_3 := same_new (o := .tup [.int (54), .int (1)]) hq4_3
      have uq4_4 := same_new (o := .tup [.ref q4_0, .ref q4_1, .ref q4_2, .ref q4_3]) hq4_4
      have my := (uq4_0.trans (uq4_1.trans (uq4_2.trans (uq4_3.trans uq4_4))))
      have dy : Dp K _ (.ref q4_4) (dP [(2, 1), (6, 1), (18, 1), (54, 1)]) := (show Dp K _ (.ref q4_4) (.tuple [.tuple [.int (2), .int (1)], .tuple [.int (6), .int (1)], .tuple [.int (18), .int (1)], .tuple [.int (54), .int (1)]]) from (.tup (SqT.of upd_same) (.cons (dps (uq4_1.trans (uq4_2.trans (uq4_3.trans uq4_4))) (show Dp K _ (.ref q4_0) (.tuple [.int (2), .int (1)]) from (.tup (SqT.of upd_same) (.cons (.int _) (.cons (.int _) .nil))))) (.cons (dps (uq4_2.trans (uq4_3.trans uq4_4)) (show Dp K _ (.ref q4_1) (.tuple [.int (6), .int (1)]) from (.tup (SqT.of upd_same) (.cons (.int _) (.cons (.int _) .nil))))) (.cons (dps (uq4_3.trans uq4_4) (show Dp K _ (.ref q4_2) (.tuple [.int (18), .int (1)]) from (.tup (SqT.of upd_same) (.cons (.int _) (.cons (.int _) .nil))))) (.cons (dps uq4_4 (show Dp K _ (.ref q4_3) (.tuple [.int (54), .int (1)]) from (.tup (SqT.of upd_same) (.cons (.int _) (.cons (.int _) .nil))))) .nil))))))
      refine ⟨dP [(2, 1), (6, 1), (18, 1), (54, 1)], dP [(2, 1), (6, 1), (18, 1), (54, 1)], (po.mono my).dp, dy, shaped_dP _, shaped_dP _, _, rfl, ?_⟩
      rw [eqv_dP_self]
      exact iteF ⟨R2.same my, rfl⟩
    clear R
    rintro σ H1 ⟨R, rfl⟩
    refine ⟨fun σ H2 => RI K Ts H H2 oa na ∧ σ = [some (.ref a), some (.ref oa), some (.ref na), none, none, none], ?_, ?_⟩
    · skip
      refine ⟨_, rfl, (by show 0 ≤ sizeLine; decide), fun q5_0 hq5_0 => ⟨(by show 0 ≤ sizeLine; decide), fun q5_1 hq5_1 => ⟨(by show 3 ≤ sizeLine; decide), fun q5_2 hq5_2 => ?_⟩⟩⟩
      have uq5_0 := same_new (o := .tup []) hq5_0
      have uq5_1 := same_new (o := .tup []) hq5_1
      have uq5_2 := same_new (o := .tup [.ref oa, .ref q5_0, .ref q5_1]) hq5_2
      have mx := (uq5_0.trans (uq5_1.trans uq5_2))
      have dx : Dp K _ (.ref q5_2) (dL (1, 1) [] []) := (show Dp K _ (.ref q5_2) (.tuple [d11, .tuple [], .tuple []]) from (.tup (SqT.of upd_same) (.cons (dps (uq5_0.trans (uq5_1.trans uq5_2)) R.d1) (.cons (dps (uq5_1.trans uq5_2) (show Dp K _ (.ref q5_0) (.tuple []) from (.tup (SqT.of upd_same) .nil))) (.cons (dps uq5_2 (show Dp K _ (.ref q5_1) (.tuple []) from (.tup (SqT.of upd_same) .nil))) .nil)))))
      refine ⟨.ref q5_2, .int 0, dL (1, 1) [] [], .int 0, rfl, dx, .int _, nolad' (by decide +kernel), row_fin' (by decide +kernel) (by decide +kernel) (by decide +kernel) (by decide) (by decide +kernel) fun Ha v sa po => ?_⟩
      rw [show rowL (1, 1) [] [] (0 : Int).toNat = [(1, 1)] from by decide +kernel] at po
      have R2 := R.same (mx.trans sa)
      refine ⟨_, rfl, (by show 1 ≤ sizeLine; decide), fun q6_0 hq6_0 => ?_⟩
      have uq6_0 := same_new (o := .tup [.ref oa]) hq6_0
      have my := uq6_0
      have dy : Dp K _ (.ref q6_0) (dP [(1, 1)]) := (show Dp K _ (.ref q6_0) (.tuple [d11]) from (.tup (SqT.of upd_same) (.cons (dps uq6_0 R2.d1) .nil)))
      refine ⟨dP [(1, 1)], dP [(1, 1)], (po.mono my).dp, dy, shaped_dP _, shaped_dP _, _, rfl, ?_⟩
      rw [eqv_dP_self]
      exact iteF ⟨R2.same my, rfl⟩
    clear R
    rintro σ H1 ⟨R, rfl⟩
    refine ⟨fun σ H2 => RI K Ts H H2 oa na ∧ σ = [some (.ref a), some (.ref oa), some (.ref na), none, none, none], ?_, ?_⟩
    · skip
      refine ⟨_, rfl, _, rfl, _, rfl, (by show 2 ≤ sizeLine; decide), fun q7_0 hq7_0 => ⟨(by show 2 ≤ sizeLine; decide), fun q7_1 hq7_1 => ⟨(by show 1 ≤ sizeLine; decide), fun q7_2 hq7_2 => ⟨(by show 3 ≤ sizeLine; decide), fun q7_3 hq7_3 => ?_⟩⟩⟩⟩
      have uq7_0 := same_new (o := .tup [.ref oa, .ref na]) hq7_0
      have uq7_1 := same_new (o := .tup [.int (2), .int (1)]) hq7_1
      have uq7_2 := same_new (o := .tup [.ref q7_1]) hq7_2
      have uq7_3 := same_new (o := .tup [.ref oa, .ref q7_0, .ref q7_2]) hq7_3
      have mx := (uq7_0.trans (uq7_1.trans (uq7_2.trans uq7_3)))
      have dx : Dp K _ (.ref q7_3) (dL (1, 1) [(1, 1), (0, 1)] [(2, 1)]) := (show Dp K _ (.ref q7_3) (.tuple [d11, .tuple [d11, d01], .tuple [.tuple [.int (2), .int (1)]]]) from (.tup (SqT.of upd_same) (.cons (dps (uq7_0.trans (uq7_1.trans (uq7_2.trans uq7_3))) R.d1) (.cons (dps (uq7_1.trans (uq7_2.trans uq7_3)) (show Dp K _ (.ref q7_0) (.tuple [d11, d01]) from (.tup (SqT.of upd_same) (.cons (dps uq7_0 R.d1) (.cons (dps uq7_0 R.d0) .nil))))) (.cons (dps uq7_3 (show Dp K _ (.ref q7_2) (.tuple [.tuple [.int (2), .int (1)]]) from (.tup (SqT.of upd_same) (.cons (dps uq7_2 (show Dp K _ (.ref q7_1) (.tuple [.int (2), .int (1)]) from (.tup (SqT.of upd_same) (.cons (.int _) (.cons (.int _) .nil))))) .nil)))) .nil)))))
      refine ⟨.ref q7_3, dL (1, 1) [(1, 1), (0, 1)] [(2, 1)], rfl, dx, nolad' (by decide +kernel), lad_fin (R := rRungs K) ?_⟩
      refine ⟨zB_all (by decide +kernel), zB_all (by decide +kernel), fun Ha v sa pt => ?_⟩
      rw [show rungs [(1, 1), (0, 1)] [(2, 1)] = [[(1, 1)], [(-1, 1), (1, 1)], [(-2, 1), (-1, 1), (1, 1)]] from by decide +kernel] at pt
      have R2 := R.same (mx.trans sa)
      obtain ⟨tp, xt, rfl, st, pa⟩ := pt
      have dv : Dp K Ha (.ref tp) (.tuple [dP [(1, 1)], dP [(-1, 1), (1, 1)], dP [(-2, 1), (-1, 1), (1, 1)]]) := .tup st pa.dp
      refine ⟨_, rfl, (by show 1 ≤ sizeLine; decide), fun q8_0 hq8_0 => ⟨_, rfl, (by show 2 ≤ sizeLine; decide), fun q8_1 hq8_1 => ⟨_, rfl, (by show 2 ≤ sizeLine; decide), fun q8_2 hq8_2 => ⟨_, rfl, (by show 2 ≤ sizeLine; decide), fun q8_3 hq8_3 => ⟨_, rfl, (by show 2 ≤ sizeLine; decide), fun q8_4 hq8_4 => ⟨_, rfl, (by show 3 ≤ sizeLine; decide), fun q8_5 hq8_5 => ⟨(by show 3 ≤ sizeLine; decide), fun q8_6 hq8_6 => ?_⟩⟩⟩⟩⟩⟩⟩
      have uq8_0 := same_new (o := .tup [.ref oa]) hq8_0
      have uq8_1 := same_new (o := .tup [.int (-1), .int (1)]) hq8_1
      have uq8_2 := same_new (o := .tup [.ref q8_1, .ref oa]) hq8_2
      have uq8_3 := same_new (o := .tup [.int (-2), .int (1)]) hq8_3
      have uq8_4 := same_new (o := .tup [.int (-1), .int (1)]) hq8_4
      have uq8_5 := same_new (o := .tup [.ref q8_3, .ref q8_4, .ref oa]) hq8_5
      have uq8_6 := same_new (o := .tup [.ref q8_0, .ref q8_2, .ref q8_5]) hq8_6
      have my := (uq8_0.trans (uq8_1.trans (uq8_2.trans (uq8_3.trans (uq8_4.trans (uq8_5.trans uq8_6))))))
      have dy : Dp K _ (.ref q8_6) (.tuple [dP [(1, 1)], dP [(-1, 1), (1, 1)], dP [(-2, 1), (-1, 1), (1, 1)]]) := (show Dp K _ (.ref q8_6) (.tuple [.tuple [d11], .tuple [.tuple [.int (-1), .int (1)], d11], .tuple [.tuple [.int (-2), .int (1)], .tuple [.int (-1), .int (1)], d11]]) from (.tup (SqT.of upd_same) (.cons (dps (uq8_1.trans (uq8_2.trans (uq8_3.trans (uq8_4.trans (uq8_5.trans uq8_6))))) (show Dp K _ (.ref q8_0) (.tuple [d11]) from (.tup (SqT.of upd_same) (.cons (dps uq8_0 R2.d1) .nil)))) (.cons (dps (uq8_3.trans (uq8_4.trans (uq8_5.trans uq8_6))) (show Dp K _ (.ref q8_2) (.tuple [.tuple [.int (-1), .int (1)], d11]) from (.tup (SqT.of upd_same) (.cons (dps uq8_2 (show Dp K _ (.ref q8_1) (.tuple [.int (-1), .int (1)]) from (.tup (SqT.of upd_same) (.cons (.int _) (.cons (.int _) .nil))))) (.cons (dps (uq8_0.trans (uq8_1.trans uq8_2)) R2.d1) .nil))))) (.cons (dps uq8_6 (show Dp K _ (.ref q8_5) (.tuple [.tuple [.int (-2), .int (1)], .tuple [.int (-1), .int (1)], d11]) from (.tup (SqT.of upd_same) (.cons (dps (uq8_4.trans uq8_5) (show Dp K _ (.ref q8_3) (.tuple [.int (-2), .int (1)]) from (.tup (SqT.of upd_same) (.cons (.int _) (.cons (.int _) .nil))))) (.cons (dps uq8_5 (show Dp K _ (.ref q8_4) (.tuple [.int (-1), .int (1)]) from (.tup (SqT.of upd_same) (.cons (.int _) (.cons (.int _) .nil))))) (.cons (dps (uq8_0.trans (uq8_1.trans (uq8_2.trans (uq8_3.trans (uq8_4.trans uq8_5))))) R2.d1) .nil)))))) .nil)))))
      refine ⟨.tuple [dP [(1, 1)], dP [(-1, 1), (1, 1)], dP [(-2, 1), (-1, 1), (1, 1)]], .tuple [dP [(1, 1)], dP [(-1, 1), (1, 1)], dP [(-2, 1), (-1, 1), (1, 1)]], dps my dv, dy, by decide +kernel, by decide +kernel, _, rfl, ?_⟩
      rw [show PyData.eqv (.tuple [dP [(1, 1)], dP [(-1, 1), (1, 1)], dP [(-2, 1), (-1, 1), (1, 1)]]) (.tuple [dP [(1, 1)], dP [(-1, 1), (1, 1)], dP [(-2, 1), (-1, 1), (1, 1)]]) = true from by decide +kernel]
      exact iteF ⟨R2.same my, rfl⟩
    clear R
    rintro σ H1 ⟨R, rfl⟩
    refine ⟨fun σ H2 => ∃ wa : Addr, RI K Ts H H2 oa na ∧ Dp K H2 (.ref wa) dWide ∧ σ = [some (.ref a), some (.ref oa), some (.ref na), some (.ref wa), none, none], ?_, ?_⟩
    · skip
      refine ⟨_, rfl, _, rfl, (by show 1 ≤ sizeLine; decide), fun q9_0 hq9_0 => ⟨q9_0, 5, _, rfl, rfl, SqT.of upd_same, by simp, by decide, by decide, (by show 1 ≤ 1000; decide), fun q9_1 hq9_1 => ⟨_, rfl, (by show 1 ≤ sizeLine; decide), fun q9_2 hq9_2 => ⟨q9_2, 4, _, rfl, rfl, SqT.of upd_same, by simp, by decide, by decide, (by show 1 ≤ 1000; decide), fun q9_3 hq9_3 => ⟨_, rfl, (by show 1 ≤ sizeLine; decide), fun q9_4 hq9_4 => ⟨q9_3, q9_4, _, _, rfl, rfl, Bs.Same.t (same_new hq9_4) (SqT.of upd_same), SqT.of upd_same, (by show 5 ≤ sizeLine; decide), (fun e => by cases e), (fun _ e => by cases e), fun _ _ q9_5 hq9_5 => ⟨(by show 3 ≤ sizeLine; decide), fun q9_6 hq9_6 => ?_⟩⟩⟩⟩⟩⟩⟩
      have uq9_0 := same_new (o := .tup [.ref na]) hq9_0
      have uq9_1 := same_new (o := .tup [.ref na, .ref na, .ref na, .ref na, .ref na]) hq9_1
      have uq9_2 := same_new (o := .tup [.ref oa]) hq9_2
      have uq9_3 := same_new (o := .tup [.ref oa, .ref oa, .ref oa, .ref oa]) hq9_3
      have uq9_4 := same_new (o := .tup [.ref na]) hq9_4
      have uq9_5 := same_new (o := .tup [.ref oa, .ref oa, .ref oa, .ref oa, .ref na]) hq9_5
      have uq9_6 := same_new (o := .tup [.ref oa, .ref q9_1, .ref q9_5]) hq9_6
      have mx := (uq9_0.trans (uq9_1.trans (uq9_2.trans (uq9_3.trans (uq9_4.trans (uq9_5.trans uq9_6))))))
      have dx : Dp K _ (.ref q9_6) (dWide) := (show Dp K _ (.ref q9_6) (.tuple [d11, .tuple [d01, d01, d01, d01, d01], .tuple [d11, d11, d11, d11, d01]]) from (.tup (SqT.of upd_same) (.cons (dps (uq9_0.trans (uq9_1.trans (uq9_2.trans (uq9_3.trans (uq9_4.trans (uq9_5.trans uq9_6)))))) R.d1) (.cons (dps (uq9_2.trans (uq9_3.trans (uq9_4.trans (uq9_5.trans uq9_6)))) (show Dp K _ (.ref q9_1) (.tuple [d01, d01, d01, d01, d01]) from (.tup (SqT.of upd_same) (.cons (dps (uq9_0.trans uq9_1) R.d0) (.cons (dps (uq9_0.trans uq9_1) R.d0) (.cons (dps (uq9_0.trans uq9_1) R.d0) (.cons (dps (uq9_0.trans uq9_1) R.d0) (.cons (dps (uq9_0.trans uq9_1) R.d0) .nil)))))))) (.cons (dps uq9_6 (show Dp K _ (.ref q9_5) (.tuple [d11, d11, d11, d11, d01]) from (.tup (SqT.of upd_same) (.cons (dps (uq9_0.trans (uq9_1.trans (uq9_2.trans (uq9_3.trans (uq9_4.trans uq9_5))))) R.d1) (.cons (dps (uq9_0.trans (uq9_1.trans (uq9_2.trans (uq9_3.trans (uq9_4.trans uq9_5))))) R.d1) (.cons (dps (uq9_0.trans (uq9_1.trans (uq9_2.trans (uq9_3.trans (uq9_4.trans uq9_5))))) R.d1) (.cons (dps (uq9_0.trans (uq9_1.trans (uq9_2.trans (uq9_3.trans (uq9_4.trans uq9_5))))) R.d1) (.cons (dps (uq9_0.trans (uq9_1.trans (uq9_2.trans (uq9_3.trans (uq9_4.trans uq9_5))))) R.d0) .nil)))))))) .nil)))))
      exact ⟨q9_6, R.same mx, dx, rfl⟩
    clear R
    rintro σ H1 ⟨wa, R, dw, rfl⟩
    refine ⟨fun σ H2 => RI K Ts H H2 oa na ∧ Dp K H2 (.ref wa) dWide ∧ σ = [some (.ref a), some (.ref oa), some (.ref na), some (.ref wa), none, none], ?_, ?_⟩
    · refine ⟨_, rfl, .ref wa, dWide, rfl, dw, (fun _ Ha sa => ?_), nolad' (by decide +kernel)⟩
      refine ⟨_, rfl, dWide, dWide, dps sa dw, dps sa dw, by decide +kernel, by decide +kernel, _, rfl, ?_⟩
      rw [show PyData.eqv dWide dWide = true from by decide +kernel]
      refine iteF ?_
      refine ⟨_, rfl, .ref wa, dL (1, 1) wls wss, rfl, dps sa dw, nolad' (by decide +kernel), lad_fin (R := rNorms K) ?_⟩
      refine ⟨zB_zs (by decide +kernel), zB_all (by decide +kernel), fun Hb v sb po => ?_⟩
      rw [show nrms (1, 1) wss = [(1, 1), (1, 1), (1, 1), (1, 1), (1, 1), (0, 1)] from by decide +kernel] at po
      have R2 := R.same (sa.trans sb)
      refine ⟨_, rfl, (by show 1 ≤ sizeLine; decide), fun q10_0 hq10_0 => ⟨q10_0, 5, _, rfl, rfl, SqT.of upd_same, by simp, by decide, by decide, (by show 1 ≤ 1000; decide), fun q10_1 hq10_1 => ⟨_, rfl, (by show 1 ≤ sizeLine; decide), fun q10_2 hq10_2 => ⟨q10_1, q10_2, _, _, rfl, rfl, Bs.Same.t (same_new hq10_2) (SqT.of upd_same), SqT.of upd_same, (by show 6 ≤ sizeLine; decide), (fun e => by cases e), (fun _ e => by cases e), fun _ _ q10_3 hq10_3 => ?_⟩⟩⟩⟩
      have uq10_0 := same_new (o := .tup [.ref oa]) hq10_0
      have uq10_1 := same_new (o := .tup [.ref oa, .ref oa, .ref oa, .ref oa, .ref oa]) hq10_1
      have uq10_2 := same_new (o := .tup [.ref na]) hq10_2
      have uq10_3 := same_new (o := .tup [.ref oa, .ref oa, .ref oa, .ref oa, .ref oa, .ref na]) hq10_3
      have my := (uq10_0.trans (uq10_1.trans (uq10_2.trans uq10_3)))
      have dy : Dp K _ (.ref q10_3) (dP [(1, 1), (1, 1), (1, 1), (1, 1), (1, 1), (0, 1)]) := (show Dp K _ (.ref q10_3) (.tuple [d11, d11, d11, d11, d11, d01]) from (.tup (SqT.of upd_same) (.cons (dps (uq10_0.trans (uq10_1.trans (uq10_2.trans uq10_3))) R2.d1) (.cons (dps (uq10_0.trans (uq10_1.trans (uq10_2.trans uq10_3))) R2.d1) (.cons (dps (uq10_0.trans (uq10_1.trans (uq10_2.trans uq10_3))) R2.d1) (.cons (dps (uq10_0.trans (uq10_1.trans (uq10_2.trans uq10_3))) R2.d1) (.cons (dps (uq10_0.trans (uq10_1.trans (uq10_2.trans uq10_3))) R2.d1) (.cons (dps (uq10_0.trans (uq10_1.trans (uq10_2.trans uq10_3))) R2.d0) .nil))))))))
      refine ⟨dP [(1, 1), (1, 1), (1, 1), (1, 1), (1, 1), (0, 1)], dP [(1, 1), (1, 1), (1, 1), (1, 1), (1, 1), (0, 1)], (po.mono my).dp, dy, shaped_dP _, shaped_dP _, _, rfl, ?_⟩
      rw [eqv_dP_self]
      refine iteF ?_
      have say := (sa.trans sb).trans my
      refine ⟨_, rfl, .ref wa, dL (1, 1) wls wss, rfl, dps say dw, nolad' (by decide +kernel), lad_fin (R := rRungs K) ?_⟩
      refine ⟨zB_all (by decide +kernel), zB_all (by decide +kernel), fun Hc v sc pt => ?_⟩
      obtain ⟨tp, xt, rfl, st, pa⟩ := pt
      refine ⟨tp, xt, rfl, .inr st, rfl, _, rfl, ?_⟩
      have lx : xt.length = 6 := pa.len
      rw [lx]
      exact iteF ⟨R.same (say.trans sc), dps (say.trans sc) dw, rfl⟩
    clear R dw
    rintro σ H1 ⟨R, dw, rfl⟩
    refine ⟨fun σ H2 => RI K Ts H H2 oa na ∧ Dp K H2 (.ref wa) dWide ∧ σ = [some (.ref a), some (.ref oa), some (.ref na), some (.ref wa), none, none], ?_, ?_⟩
    · refine ⟨_, rfl, .ref wa, .int 8, dL (1, 1) wls wss, .int 8, rfl, dw, .int _, nolad' (by decide +kernel), row_fin' (by decide +kernel) (by decide +kernel) (by decide +kernel) (by decide) (by decide +kernel) fun Ha v sa po => ?_⟩
      have mx := fun (b : Addr) (o : HO) (z : H1 b = some o) => z
      rw [show rowL (1, 1) wls wss (8 : Int).toNat = [(1, 1), (0, 1), (1, 1), (0, 1), (2, 1), (0, 1), (5, 1), (0, 1), (14, 1)] from by decide +kernel] at po
      have R2 := R.same sa
      refine ⟨_, rfl, _, rfl, _, rfl, _, rfl, (by show 2 ≤ sizeLine; decide), fun q11_0 hq11_0 => ⟨_, rfl, (by show 2 ≤ sizeLine; decide), fun q11_1 hq11_1 => ⟨_, rfl, (by show 2 ≤ sizeLine; decide), fun q11_2 hq11_2 => ⟨(by show 9 ≤ sizeLine; decide), fun q11_3 hq11_3 => ?_⟩⟩⟩⟩
      have uq11_0 := same_new (o := .tup [.int (2), .int (1)]) hq11_0
      have uq11_1 := same_new (o := .tup [.int (5), .int (1)]) hq11_1
      have uq11_2 := same_new (o := .tup [.int (14), .int (1)]) hq11_2
      have uq11_3 := same_new (o := .tup [.ref oa, .ref na, .ref oa, .ref na, .ref q11_0, .ref na, .ref q11_1, .ref na, .ref q11_2]) hq11_3
      have my := (uq11_0.trans (uq11_1.trans (uq11_2.trans uq11_3)))
      have dy : Dp K _ (.ref q11_3) (dP [(1, 1), (0, 1), (1, 1), (0, 1), (2, 1), (0, 1), (5, 1), (0, 1), (14, 1)]) := (show Dp K _ (.ref q11_3) (.tuple [d11, d01, d11, d01, .tuple [.int (2), .int (1)], d01, .tuple [.int (5), .int (1)], d01, .tuple [.int (14), .int (1)]]) from (.tup (SqT.of upd_same) (.cons (dps (uq11_0.trans (uq11_1.trans (uq11_2.trans uq11_3))) R2.d1) (.cons (dps (uq11_0.trans (uq11_1.trans (uq11_2.trans uq11_3))) R2.d0) (.cons (dps (uq11_0.trans (uq11_1.trans (uq11_2.trans uq11_3))) R2.d1) (.cons (dps (uq11_0.trans (uq11_1.trans (uq11_2.trans uq11_3))) R2.d0) (.cons (dps (uq11_1.trans (uq11_2.trans uq11_3)) (show Dp K _ (.ref q11_0) (.tuple [.int (2), .int (1)]) from (.tup (SqT.of upd_same) (.cons (.int _) (.cons (.int _) .nil))))) (.cons (dps (uq11_0.trans (uq11_1.trans (uq11_2.trans uq11_3))) R2.d0) (.cons (dps (uq11_2.trans uq11_3) (show Dp K _ (.ref q11_1) (.tuple [.int (5), .int (1)]) from (.tup (SqT.of upd_same) (.cons (.int _) (.cons (.int _) .nil))))) (.cons (dps (uq11_0.trans (uq11_1.trans (uq11_2.trans uq11_3))) R2.d0) (.cons (dps uq11_3 (show Dp K _ (.ref q11_2) (.tuple [.int (14), .int (1)]) from (.tup (SqT.of upd_same) (.cons (.int _) (.cons (.int _) .nil))))) .nil)))))))))))
      refine ⟨dP [(1, 1), (0, 1), (1, 1), (0, 1), (2, 1), (0, 1), (5, 1), (0, 1), (14, 1)], dP [(1, 1), (0, 1), (1, 1), (0, 1), (2, 1), (0, 1), (5, 1), (0, 1), (14, 1)], (po.mono my).dp, dy, shaped_dP _, shaped_dP _, _, rfl, ?_⟩
      rw [eqv_dP_self]
      exact iteF ⟨R2.same my, dps (sa.trans my) dw, rfl⟩
    clear R dw
    rintro σ H1 ⟨R, dw, rfl⟩
    refine ⟨fun σ H2 => RI K Ts H H2 oa na ∧ σ = [some (.ref a), some (.ref oa), some (.ref na), some (.ref wa), none, none], ?_, ?_⟩
    · skip
      refine ⟨_, rfl, _, rfl, _, rfl, (by show 2 ≤ sizeLine; decide), fun q12_0 hq12_0 => ⟨(by show 2 ≤ sizeLine; decide), fun q12_1 hq12_1 => ⟨(by show 1 ≤ sizeLine; decide), fun q12_2 hq12_2 => ⟨(by show 3 ≤ sizeLine; decide), fun q12_3 hq12_3 => ?_⟩⟩⟩⟩
      have uq12_0 := same_new (o := .tup [.ref na, .ref na]) hq12_0
      have uq12_1 := same_new (o := .tup [.int (2), .int (1)]) hq12_1
      have uq12_2 := same_new (o := .tup [.ref q12_1]) hq12_2
      have uq12_3 := same_new (o := .tup [.ref oa, .ref q12_0, .ref q12_2]) hq12_3
      have mx := (uq12_0.trans (uq12_1.trans (uq12_2.trans uq12_3)))
      have dx : Dp K _ (.ref q12_3) (dL (1, 1) [(0, 1), (0, 1)] [(2, 1)]) := (show Dp K _ (.ref q12_3) (.tuple [d11, .tuple [d01, d01], .tuple [.tuple [.int (2), .int (1)]]]) from (.tup (SqT.of upd_same) (.cons (dps (uq12_0.trans (uq12_1.trans (uq12_2.trans uq12_3))) R.d1) (.cons (dps (uq12_1.trans (uq12_2.trans uq12_3)) (show Dp K _ (.ref q12_0) (.tuple [d01, d01]) from (.tup (SqT.of upd_same) (.cons (dps uq12_0 R.d0) (.cons (dps uq12_0 R.d0) .nil))))) (.cons (dps uq12_3 (show Dp K _ (.ref q12_2) (.tuple [.tuple [.int (2), .int (1)]]) from (.tup (SqT.of upd_same) (.cons (dps uq12_2 (show Dp K _ (.ref q12_1) (.tuple [.int (2), .int (1)]) from (.tup (SqT.of upd_same) (.cons (.int _) (.cons (.int _) .nil))))) .nil)))) .nil)))))
      refine ⟨.ref q12_3, .int 3, dL (1, 1) [(0, 1), (0, 1)] [(2, 1)], .int 3, rfl, dx, .int _, nolad' (by decide +kernel), row_fin' (by decide +kernel) (by decide +kernel) (by decide +kernel) (by decide) (by decide +kernel) fun Ha v sa po => ?_⟩
      rw [show rowL (1, 1) [(0, 1), (0, 1)] [(2, 1)] (3 : Int).toNat = [(1, 1), (0, 1), (2, 1), (0, 1)] from by decide +kernel] at po
      have R2 := R.same (mx.trans sa)
      refine ⟨_, rfl, _, rfl, (by show 2 ≤ sizeLine; decide), fun q13_0 hq13_0 => ⟨_, rfl, (by show 4 ≤ sizeLine; decide), fun q13_1 hq13_1 => ?_⟩⟩
      have uq13_0 := same_new (o := .tup [.int (2), .int (1)]) hq13_0
      have uq13_1 := same_new (o := .tup [.ref oa, .ref na, .ref q13_0, .ref na]) hq13_1
      have my := (uq13_0.trans uq13_1)
      have dy : Dp K _ (.ref q13_1) (dP [(1, 1), (0, 1), (2, 1), (0, 1)]) := (show Dp K _ (.ref q13_1) (.tuple [d11, d01, .tuple [.int (2), .int (1)], d01]) from (.tup (SqT.of upd_same) (.cons (dps (uq13_0.trans uq13_1) R2.d1) (.cons (dps (uq13_0.trans uq13_1) R2.d0) (.cons (dps uq13_1 (show Dp K _ (.ref q13_0) (.tuple [.int (2), .int (1)]) from (.tup (SqT.of upd_same) (.cons (.int _) (.cons (.int _) .nil))))) (.cons (dps (uq13_0.trans uq13_1) R2.d0) .nil))))))
      refine ⟨dP [(1, 1), (0, 1), (2, 1), (0, 1)], dP [(1, 1), (0, 1), (2, 1), (0, 1)], (po.mono my).dp, dy, shaped_dP _, shaped_dP _, _, rfl, ?_⟩
      rw [eqv_dP_self]
      exact iteF ⟨R2.same my, rfl⟩
    clear R
    rintro σ H1 ⟨R, rfl⟩
    refine ⟨fun σ H2 => RI K Ts H H2 oa na ∧ σ = [some (.ref a), some (.ref oa), some (.ref na), some (.ref wa), none, none], ?_, ?_⟩
    · skip
      refine ⟨_, rfl, (by show 0 ≤ sizeLine; decide), fun q14_0 hq14_0 => ⟨(by show 0 ≤ sizeLine; decide), fun q14_1 hq14_1 => ⟨(by show 3 ≤ sizeLine; decide), fun q14_2 hq14_2 => ?_⟩⟩⟩
      have uq14_0 := same_new (o := .tup []) hq14_0
      have uq14_1 := same_new (o := .tup []) hq14_1
      have uq14_2 := same_new (o := .tup [.ref oa, .ref q14_0, .ref q14_1]) hq14_2
      have mx := (uq14_0.trans (uq14_1.trans uq14_2))
      have dx : Dp K _ (.ref q14_2) (dL (1, 1) [] []) := (show Dp K _ (.ref q14_2) (.tuple [d11, .tuple [], .tuple []]) from (.tup (SqT.of upd_same) (.cons (dps (uq14_0.trans (uq14_1.trans uq14_2)) R.d1) (.cons (dps (uq14_1.trans uq14_2) (show Dp K _ (.ref q14_0) (.tuple []) from (.tup (SqT.of upd_same) .nil))) (.cons (dps uq14_2 (show Dp K _ (.ref q14_1) (.tuple []) from (.tup (SqT.of upd_same) .nil))) .nil)))))
      refine ⟨.ref q14_2, dL (1, 1) [] [], rfl, dx, nolad' (by decide +kernel), lad_fin (R := rEnded) fun Ha sa => ?_⟩
      refine ⟨endB [], false, rfl, rfl, _, rfl, ?_⟩
      rw [show (!decide (endB [] = false)) = false from by decide +kernel]
      exact iteF ⟨R.same (mx.trans sa), rfl⟩
    clear R
    rintro σ H1 ⟨R, rfl⟩
    refine ⟨fun σ H2 => RI K Ts H H2 oa na ∧ σ = [some (.ref a), some (.ref oa), some (.ref na), some (.ref wa), none, none], ?_, ?_⟩
    · refine ⟨rfl, R.T, fun Ha xa Ta => ⟨_, rfl, ?_⟩⟩
      exact iteF ⟨R.ext xa Ta, rfl⟩
    clear R
    rintro σ H8 ⟨R, rfl⟩
    -- state
    refine ⟨fun σ H9 => ∃ (p c l : Addr) (n : Nat), Sta H9 p c l n 0 ∧ SqL K H9 a (ns.map V.int) ∧ σ = [some (.ref a), some (.ref oa), some (.ref na), some (.ref wa), some (.ref p), none], ?_, ?_⟩
    · have sq8 := sqL_ext R.x sq
      exact ⟨_, rfl, a, ns, rfl, sq8, ln, fun H9 p c l n s9 _ _ S => ⟨p, c, l, n, S, sqL_same s9 sq8, rfl⟩⟩
    rintro σ H9 ⟨p, c, l, n, S, sq9, rfl⟩
    -- the turns
    refine ⟨fun σ H1 => True, ?_, fun σ H1 _ => kk H1⟩
    have hm : ∀ m : Nat, 0 ≤ (2 : Int) + (if (3 : Int) < (m : Int) then 3 else (m : Int)) ∧ (2 : Int) + (if (3 : Int) < (m : Int) then 3 else (m : Int)) ≤ 5 := by
      intro m
      split <;> omega
    have hm2 := hm (ns.map V.int).length
    refine ⟨_, rfl, a, _, rfl, Or.inl sq9, _, _, rfl, _, _, rfl, rfl, _, rfl, ?_⟩
    generalize (2 : Int) + (if (3 : Int) < ((ns.map V.int).length : Int) then 3 else ((ns.map V.int).length : Int)) = m at hm2 ⊢
    refine ⟨by omega, by omega, for_range (n := m.toNat) (fun i σ H1 => ∃ (v : Option V) (t : Int), Sta H1 p c l n t ∧ t ≤ 70 * i ∧ σ = [some (.ref a), some (.ref oa), some (.ref na), some (.ref wa), some (.ref p), v]) ⟨none, 0, S, by omega, rfl⟩ ?_ (fun _ _ _ => trivial)⟩
    rintro i σ Hi hi ⟨v, t, Si, ti, rfl⟩
    exact ⟨_, rfl, p, c, l, n, t, rfl, Si, by omega, fun Hj t' _ tb Sj _ => ⟨true, rfl, _, t', Sj, by omega, rfl⟩⟩
end
end Rs


set_option Elab.async false
set_option linter.all false
set_option maxRecDepth 100000
set_option maxHeartbeats 400000
namespace Rs
open PySem PySem.Spec PyProof.Rows L2 Bs Fq LamX RZ
abbrev sIL : Stmt := inClass (top 16) 0
section
variable {P : Program} {w : World} {K : PySem.W.Frag} {mg : Str → Option Value} {base : Heap} {f : Addr} {fd : FuncData}
theorem scIL : FnScope ["self", "given"] ["self", "given"] (defScope sIL) := ⟨rfl, rfl, rfl, by decide +kernel, rfl, by decide +kernel, by decide +kernel⟩
theorem ok_iL {C : Addr} {q : Str} (F : Fun K "__init__" q sIL f fd) (T : OexC K C) (no : PySem.W.findIn K (.ref C) "given" = some none) : FnOk P w K mg base CX0 1 f fd ["self", "given"] (spInitW K C "given") := by
  refine F.ok scIL (fun vs H Q E h => ?_) (fun cdv A outer s H vs Q E hr h => ?_)
  · obtain ⟨a, y, rfl, _⟩ := h
    rfl
  · obtain ⟨a, y, rfl, ha, k⟩ := h
    exact ⟨_, pss_one (ps_ost (pv 0) (pv 1)), _, rfl, _, rfl, a, C, rfl, T, no, .inl ⟨ha, fun dx n1 n2 => k dx n1 n2⟩⟩
theorem ErrW.okL {x q : Str} {C : Addr} (T : ErrW K mg x q "given" sIL C) : ErrOkW P w K mg base x "given" C := by
  obtain ⟨fI, fd, a, b, F, bi⟩ := T.ini
  exact ⟨T.gC, T.oex, fI, fd, a, b, ok_iL F T.oex T.no, bi⟩
end
end Rs


set_option Elab.async false
set_option linter.all false
set_option maxRecDepth 100000
set_option maxHeartbeats 1000000
/-! the end of a law with tables of lambdas, for a promise that wants no guards -/
namespace Rs
open PySem PySem.Spec PyProof.Rows L2 Bs LamX
/-- what is tracked at the law's call: the empty tables; the script, if t -/
def hof (ts : List Addr) (a : Addr) (t : Bool) (u : HO) : Hp := fun b => if b ∈ ts then some (.tbl #[]) else if b = a ∧ t = true then some u else none
section
variable {ts : List Addr} {a b : Addr} {t : Bool} {u x : HO}
theorem hof_some (h : hof ts a t u b = some x) : (b ∈ ts ∧ x = .tbl #[]) ∨ (b = a ∧ t = true ∧ x = u) := by
  unfold hof at h
  split at h
  · rename_i m
    cases h
    exact .inl ⟨m, rfl⟩
  · split at h
    · rename_i z
      cases h
      exact .inr ⟨z.1, z.2, rfl⟩
    · cases h
theorem hof_tab (m : b ∈ ts) : hof ts a t u b = some (.tbl #[]) := if_pos m
theorem hof_at (n : a ∉ ts) (e : t = true) : hof ts a t u a = some u := (if_neg n).trans (if_pos ⟨rfl, e⟩)
end
section
variable {P : Program} {w : World} {K : PySem.W.Frag} {mg mb : Str → Option Value} {k : Nat} {fa a : Addr} {cs : List (Addr × Addr)} {fd : FuncData} {x : Str} {sp : Sp} {s0 : Shared} {vs : List Value} {ns : List Int}
theorem callG (inK : K.In s0.heap) (gM : s0.heap.Ns mainGlobals mg) (gB : s0.heap.Ns builtinsNs mb) (gV : ∀ y : Str, y ≠ "__name__" → mb y = bootBuiltins y) (gL : s0.heap.NoLimit) (gG : s0.gens = #[])
    (tE : ∀ q ∈ cs, s0.heap.get? q.2 = some (PySem.W.tabObj #[])) (tK : ∀ q ∈ cs, K.lookup q.2 = none) (tH : ∀ q ∈ cs, PySem.W.codeHdIn K q.1 q.2 = true)
    (gb : ∃ (m : Addr) (o : Obj), mg "__builtins__" = some (.ref m) ∧ m ≠ builtinsNs ∧ s0.heap.get? m = some o ∧ o.cls = .type "module" ∧ o.dict = some builtinsNs ∧ o.data = .plain)
    (sc : s0.heap.get? a = some { cls := .type "list", data := .seq vs.toArray }) (si : IntsAre vs ns) (sl : ns.length ≤ sizeLine) (room : Room k callerA)
    (prom : ∀ base : Heap, K.In base → base.Ns mainGlobals mg → (∀ q ∈ cs, TabB base mg q.1 q.2) → FnG P w K mg base k fa fd [x] sp) (bnd : ∀ (s : Shared) (u : Value), BindsTo s fd ⟨[u], []⟩ [(x, u)])
    (wish : ∀ H : Hp, (∀ q ∈ cs, H q.2 = some (.tbl #[])) → SqL K H a (ns.map V.int) → sp [.ref a] H (fun v _ => v = .bl true) fun _ _ _ => False) :
    codeAny (model P w) callerA (.call (.ref fa) ⟨[.ref a], []⟩) (fun r s' => r = .ok (.ret (.bool true)) ∧ OldK s0.heap s'.heap ∧ s'.os = s0.os ∧ AllBare s'.gens) s0 := by
  have rv := vals_ints si
  have lv := si.length
  generalize hts : cs.map (·.2) = ts
  have inT : ∀ b ∈ ts, ∃ c, (c, b) ∈ cs := fun b hb => by
    rw [← hts] at hb
    obtain ⟨⟨c, b'⟩, h1, h2⟩ := List.mem_map.mp hb
    cases h2
    exact ⟨c, h1⟩
  have toT : ∀ q ∈ cs, q.2 ∈ ts := fun q hq => by
    rw [← hts]
    exact List.mem_map.mpr ⟨q, hq, rfl⟩
  have tab : ∀ b ∈ ts, s0.heap.get? b = some (PySem.W.tabObj #[]) := fun b hb => by
    obtain ⟨c, m⟩ := inT b hb
    exact tE _ m
  have aT : a ∉ ts := fun z => by
    have e := (tab a z).symm.trans sc
    cases e
  -- the script's own record
  generalize hso : ({ cls := .type "list", data := .seq vs.toArray } : Obj) = so at sc
  generalize hH : hof ts a (K.lookup a).isNone (.frz so (.lst (ns.map V.int))) = H
  have why : ∀ {b : Addr} {u : HO}, H b = some u → (b ∈ ts ∧ u = .tbl #[]) ∨ (b = a ∧ K.lookup a = none ∧ u = .frz so (.lst (ns.map V.int))) := fun {b u} e => by
    rw [← hH] at e
    rcases hof_some e with z | ⟨z1, z2, z3⟩
    · exact .inl z
    · exact .inr ⟨z1, Option.isNone_iff_eq_none.mp z2, z3⟩
  have hT : ∀ q ∈ cs, H q.2 = some (.tbl #[]) := fun q hq => by
    rw [← hH]
    exact hof_tab (toT q hq)
  have hS : SqL K H a (ns.map V.int) := by
    cases e : K.lookup a with
    | none =>
      refine .inl (.inr ⟨so, ?_⟩)
      rw [← hH]
      exact hof_at aT (by rw [e]; rfl)
    | some o =>
      have e2 := inK a o e
      rw [sc] at e2
      cases e2
      subst hso
      exact .inr ⟨_, vs.toArray, _, e, rfl, rfl, rfl, by rw [List.size_toArray, lv]; exact sl, by simpa using rv⟩
  have ok0 : HOk P w H s0.heap := fun b u e => by
    rcases why e with ⟨z, rfl⟩ | ⟨rfl, _, rfl⟩
    · exact tab b z
    · refine ⟨sc, ?_⟩
      subst hso
      exact ⟨by rw [List.length_map]; exact sl, vs, _, rv, sc⟩
  -- what is neither a list nor an empty table isn't tracked
  have off : ∀ {b : Addr} {o : Obj}, s0.heap.get? b = some o → (∀ (z : Array Value) (m : Nat), o.data ≠ .seq z m) → o.data ≠ .fields #[] → H b = none := fun {b o} e n1 n2 => by
    cases q : H b with
    | none => rfl
    | some u =>
      rcases why q with ⟨z, _⟩ | ⟨z, _, _⟩
      · rw [tab b z] at e
        cases e
        exact absurd rfl n2
      · rw [z, sc] at e
        cases e
        subst hso
        exact absurd rfl (n1 _ _)
  have low : ∀ {b : Addr} {o : Obj}, s0.heap.get? b = some o → H b = none → (hidT s0.heap H).get? b = some o := fun e n => hidT_get e n
  have offD : ∀ {b : Addr} {m : Str → Option Value}, s0.heap.Ns b m → (hidT s0.heap H).Ns b m := by
    rintro b m ⟨o, es, ep, e, d, r⟩
    exact ⟨o, es, ep, low e (off e (fun z m' q => by rw [d] at q; cases q) fun q => by rw [d] at q; cases q), d, r⟩
  have offK : K.In (hidT s0.heap H) := fun b o e => low (inK b o e) (by
    cases q : H b with
    | none => rfl
    | some u =>
      rcases why q with ⟨z, _⟩ | ⟨z, n, _⟩
      · obtain ⟨c, m⟩ := inT b z
        exact absurd (e.symm.trans (tK _ m)) (by simp)
      · rw [z, n] at e
        cases e)
  have M : L2.Mod K mg (hidT s0.heap H) := by
    obtain ⟨mc, c1, c2⟩ := gL
    exact ⟨offK, offD gM, ⟨mb, offD gB, gV⟩, mc, offD c1, c2⟩
  have TB : ∀ q ∈ cs, TabB (hidT s0.heap H) mg q.1 q.2 := fun q hq => by
    obtain ⟨m, o, m1, m2, m3, m4, m5, m6⟩ := gb
    have pl : ∀ {d : Data}, d = o.data → d = .plain := fun z => z.trans m6
    refine NdefX.tabB_of_K offK (tH q hq) ⟨m, o, m1, m2, fun z => ?_, fun z => ?_, low m3 (off m3 (fun z m' e => by rw [m6] at e; cases e) fun e => by rw [m6] at e; cases e), m4, m5, m6⟩ fun z => ?_
    · obtain ⟨o2, es, ep, e, d, _⟩ := gM
      rw [← z, m3] at e
      cases e
      rw [m6] at d
      cases d
    · have e := tE q hq
      rw [← z, m3] at e
      cases e
      cases m6
    · obtain ⟨o2, es, ep, e, d, _⟩ := gM
      rw [z, tE q hq] at e
      cases e
      cases d
  have E : Env0 P w K mg (hidT s0.heap H) callerA [] s0 H :=
    { frames := rfl, mod := M, bs := fun b o e => of_hidT e, bsz := Nat.le_of_eq (hidT_size _ _), funs := trivial, frf := (fun b hb => nomatch hb), hok := ok0, bare := .of_eq gG }
  refine codeAny_mono ((prom _ offK (offD gM) TB).run callerA [] s0 H ⟨[.ref a], []⟩ [.ref a] [.ref a] _ _ rfl room E (bnd s0 (.ref a)) (.cons rfl .nil) (wish H hT hS)) fun r s' h => ?_
  rcases r with e | fl
  · exact (show False from h).elim
  · cases fl with
    | next => exact (show False from h).elim
    | brk => exact (show False from h).elim
    | cont => exact (show False from h).elim
    | ret u =>
      obtain ⟨v, H2, os, bare, un, ok2, r2, rfl⟩ := h
      obtain rfl : u = Value.bool true := r2
      have more : ∀ b ∈ ts, ∃ m : Array Value, s'.heap.get? b = some (PySem.W.tabObj m) := fun b hb => by
        obtain ⟨c, hm⟩ := inT b hb
        obtain ⟨m, z⟩ := un.tbls b #[] (hT _ hm)
        exact ⟨_, ok2 b _ z⟩
      have same : ∀ b o, b ∉ ts → s0.heap.get? b = some o → s'.heap.get? b = some o := fun b o nb e => by
        cases q : H b with
        | none => exact un.keep b o e q (fun z => nomatch z) fun z => nomatch z
        | some u =>
          rcases why q with ⟨z, _⟩ | ⟨_, _, rfl⟩
          · exact absurd z nb
          · have g1 := (ok0 b _ q).1
            have g2 := (ok2 b _ (un.frzs b _ _ q)).1
            rw [e] at g1
            cases g1
            exact g2
      refine ⟨rfl, ⟨fun b o e => ?_, fun b o e => ?_⟩, os, bare⟩
      · by_cases hb : b ∈ ts
        · obtain ⟨c, hm⟩ := inT b hb
          obtain ⟨m, g⟩ := more b hb
          rw [tab b hb] at e
          cases e
          exact .inr (.inl ⟨((PySem.W.codeHd_of_K inK (tH _ hm)).tab (tab b hb)).isCodeTable, rfl, #[], m, rfl, by rw [Array.empty_append]; exact g⟩)
        · exact .inl (same b o hb e)
      · by_cases hb : b ∈ ts
        · obtain ⟨m, g⟩ := more b hb
          exact ⟨_, g⟩
        · exact ⟨o, same b o hb e⟩
end
end Rs


set_option Elab.async false
set_option linter.all false
set_option maxRecDepth 100000
set_option maxHeartbeats 1000000
namespace Rs
open PySem PySem.Spec PyProof.Rows L2 Bs LamX
section
variable {K : PySem.W.Frag} {h : Heap} {mg : Str → Option Value} {f C c P : Addr} {x q qual : Str} {st : Stmt} {ps : List Str} {oc kV doc pm cdv ct : Value} {od an : Option Addr} {sl : Array (Option Value)}
theorem defN_mk (X : K.In h) (G : h.Ns mainGlobals mg) (a : PySem.W.nsIn K mainGlobals x = some (some (.ref f)))
    (l : K.lookup f = some ⟨oc, od, .func (PySem.W.fnOf x x (defArgs st) (defBody st) (defScope st) .none kV doc pm an cdv ct), sl⟩) (c : PySem.W.codeIn K cdv x = true) (k : PySem.W.keepIn K (.ref f) = true)
    (b : ∀ (kV doc pm : Value) (an : Option Addr) (cdv ct : Value) (us : List Value), us.length = ps.length → bindArgs (PySem.W.fnOf x x (defArgs st) (defBody st) (defScope st) .none kV doc pm an cdv ct) ⟨us, []⟩ = pure (ps.zip us)) : DefN K mg x st ps :=
  ⟨f, _, fun_mk l c k, PySem.W.mg_of X G a, (fun_mk l c k).binds b⟩
theorem defC_mk (X : K.In h) (G : h.Ns mainGlobals mg) (a : PySem.W.nsIn K mainGlobals x = some (some (.ref f)))
    (l : K.lookup f = some ⟨oc, od, .func (PySem.W.fnOf x x (defArgs st) (defBody st) (defScope st) .none kV doc pm an (.ref c) ct), sl⟩) (hc : PySem.W.codeIn K (.ref c) x = true) (k : PySem.W.keepIn K (.ref f) = true)
    (b : ∀ (kV doc pm : Value) (an : Option Addr) (cdv ct : Value) (us : List Value), us.length = ps.length → bindArgs (PySem.W.fnOf x x (defArgs st) (defBody st) (defScope st) .none kV doc pm an cdv ct) ⟨us, []⟩ = pure (ps.zip us)) : DefC K mg x st ps c :=
  ⟨f, _, ⟨oc, od, kV, doc, pm, an, ct, sl, rfl, l, hc⟩, PySem.W.mg_of X G a, k, (fun_mk l hc k).binds b⟩
/-- the table of a def's code, as K has it -/
theorem tab_mk {o1 : Value} {d1 : Option Addr} {vs : Array Value} {s1 : Array (Option Value)} (a : PySem.W.nsIn K mainGlobals x = some (some (.ref f)))
    (l : K.lookup f = some ⟨oc, od, .func (PySem.W.fnOf x x (defArgs st) (defBody st) (defScope st) .none kV doc pm an (.ref c) ct), sl⟩) (k : K.lookup c = some ⟨o1, d1, .fields vs, s1⟩) (v : (vs[11]? : Option Value) = some (.ref P)) : PySem.W.tabIn K x = some (c, P) := by
  unfold PySem.W.tabIn
  rw [a]
  simp only [l]
  show (match K.lookup c with
    | some ⟨_, _, .fields vs, _⟩ => (match (vs[11]? : Option Value) with
      | some (.ref P) => some (c, P)
      | _ => none)
    | _ => none) = _
  simp only [k, v]
end
section
variable {K : PySem.W.Frag} {mg : Str → Option Value} {g c2 P2 : Addr} {C : Cls}
structure Top0 (K : PySem.W.Frag) (mg : Str → Option Value) (C : Cls) (g c2 : Addr) : Prop where
  red : DefN K mg "reduced" sReduced ["top", "bottom"]
  add : DefN K mg "added" sAdded ["one", "other"]
  les : DefN K mg "lessened" sLessened ["one", "other"]
  tim : DefN K mg "timed" sTimed ["one", "other"]
  trm : DefN K mg "trimmed" sTrim ["some"]
  atp : DefN K mg "at_power" sAt ["poly", "number"]
  ple : DefN K mg "poly_lessened" sPLess ["one", "other"]
  psc : DefN K mg "poly_scaled" sScaled ["poly", "factor"]
  psh : DefN K mg "poly_shifted" sShifted ["poly", "number"]
  nxt : DefN K mg "next_rung" sNext ["before", "here", "level", "step"]
  who : DefN K mg "is_whole" sWhole ["thing"]
  bet : DefN K mg "is_between" sBetween ["thing", "low", "high"]
  fra : DefN K mg "is_fraction" sFraction ["thing"]
  pos : DefN K mg "is_positive" sPosi ["thing"]
  arf : DefN K mg "are_fractions" sAreF ["thing", "most"]
  neB : DefN K mg "need_between" sNeedB ["thing", "low", "high"]
  abv : DefN K mg "are_above" sAbove ["some"]
  isl : DefN K mg "is_ladder" sIsLad ["thing"]
  neL : DefN K mg "need_ladder" sNeedLad ["thing"]
  hae : DefN K mg "has_end" sHasEnd ["ladder"]
  ien : DefN K mg "is_ended" sIsEnded ["ladder"]
  clm : DefN K mg "climbed" sClimb ["before", "here", "levels", "steps"]
  rof : DefN K mg "rungs_of" sRungsOf ["ladder"]
  rup : DefN K mg "rung_polys" sRungs ["ladder"]
  nor : DefN K mg "norms" sNorms ["ladder"]
  stp : DefN K mg "stepped" sStepped ["sums", "levels", "steps"]
  rot : DefN K mg "row_to" sRowTo ["ladder", "top"]
  neT : DefN K mg "need_top" sNeedTop ["ladder", "top"]
  rwo : DefN K mg "row_of" sRowOf ["ladder", "top"]
  mix : DefN K mg "_law_mixed" sMixed ["cell", "k"]
  beg : DefN K mg "_law_begin" sBegin ["script"]
  drw : DefN K mg "_law_draw" sDraw ["state", "many"]
  lra : DefN K mg "_law_ratio" sLRatio ["top", "bottom"]
  lpl : DefN K mg "_law_plus" sLPlus ["one", "other"]
  lle : DefN K mg "_law_less" sLLess ["one", "other"]
  lti : DefN K mg "_law_times" sLTimes ["one", "other"]
  lsu : DefN K mg "_law_sum" sLSum ["some"]
  lsb : DefN K mg "_law_sum_by" sLSumBy ["row", "some"]
  lpr : DefN K mg "_law_product" sLProd ["one", "far"]
  lls : DefN K mg "_law_lesser" sLLesser ["one", "far"]
  sma : DefN K mg "_law_small" sSmall ["state"]
  mis : DefN K mg "_law_misfits" sMisfits ["row", "some"]
  dwn : DefN K mg "_law_drawn" sDrawn ["state"]
  rul : DefN K mg "_law_ruled" sLRuled ["ladder_so"]
  rgo : DefN K mg "_law_row_good" sRowGood ["row", "rungs", "norms_so"]
  god : DefN K mg "_law_good" sGood ["state"]
  law : DefN K mg "law" sLaw ["script"]
  ref : DefC K mg "_law_refused_good" sRefused [] c2
  eL : ErrW K mg "BadLadder" "BadLadder.__init__" "given" sIL C.L
  eN : Err K mg "BadNumber" "BadNumber.__init__" sInitN C.N
  hk : HeardK K mg g C
  z : Nou K mg
  t : Blt mg
  og : OneG K mg
  ms : Mosts mg
  zp : mg "zip" = none
  al : mg "all" = none
  mx : mg "max" = none
  en : mg "enumerate" = none
abbrev lamQ (x : Str) : Str := (x ++ ".<locals>.") ++ "<lambda>"
def lamTs (P2 : Addr) : List (Addr × Str) := [(P2, lamQ "_law_refused_good")]
theorem law_prom {P : Program} {w : World} (D : Top0 K mg C g c2)  {fa : Addr} (hfa : mg "law" = some (.ref fa)) :
    ∃ fd : FuncData, (∀ (s : Shared) (u : Value), BindsTo s fd ⟨[u], []⟩ [("script", u)]) ∧
      ∀ base : Heap, (∀ r ∈ [(c2, P2)], TabB base mg r.1 r.2) → FnG P w K mg base 11 fa fd ["script"] (spLaw K (lamTs P2)) := by
  obtain ⟨f, fd, F, m, bi⟩ := D.law.ex
  rw [hfa] at m
  cases m
  refine ⟨fd, ?_, fun base tb => ?_⟩
  · obtain ⟨oc, od, kV, doc, pm, an, cdv, ct, osl, rfl, _, _⟩ := F.ex
    exact fun s u => .of_eq rfl
  have t2 := tb (c2, P2) (by simp)
  have one2 : ∀ p ∈ lamTs P2, p.1 = P2 → p.2 = lamQ "_law_refused_good" := by
    intro p hp e
    simp only [lamTs, List.mem_cons, List.not_mem_nil, or_false] at hp
    rcases hp with rfl
    · rfl
  have in2 : (P2, lamQ "_law_refused_good") ∈ lamTs P2 := .head _
  have T := D.t
  have eL : ErrOkW P w K mg base "BadLadder" "given" C.L := D.eL.okL
  have eN : ErrOk P w K mg base "BadNumber" C.N := D.eN.okN
  have red := D.red.cal (P := P) (w := w) (base := base) fun f fd F => ok_reduced F T
  have add := D.add.cal (P := P) (w := w) (base := base) fun f fd F => ok_added F red
  have les := D.les.cal (P := P) (w := w) (base := base) fun f fd F => ok_lessened F red
  have tim := D.tim.cal (P := P) (w := w) (base := base) fun f fd F => ok_timed F red
  have trm := D.trm.cal (P := P) (w := w) (base := base) fun f fd F => ok_trim F T D.z
  have atp := D.atp.cal (P := P) (w := w) (base := base) fun f fd F => ok_at F T D.z
  have ple := D.ple.cal (P := P) (w := w) (base := base) fun f fd F => ok_pless F T D.mx les atp trm
  have psc := D.psc.cal (P := P) (w := w) (base := base) fun f fd F => ok_scaled F T tim trm
  have psh := D.psh.cal (P := P) (w := w) (base := base) fun f fd F => ok_shifted F D.z
  have nxt := D.nxt.cal (P := P) (w := w) (base := base) fun f fd F => ok_next F ple psc psh
  have who := D.who.cal (P := P) (w := w) (base := base) fun f fd F => ok_whole F T
  have bet := D.bet.cal (P := P) (w := w) (base := base) fun f fd F => ok_between F who
  have fra := D.fra.cal (P := P) (w := w) (base := base) fun f fd F => ok_fraction F T who
  have pos := D.pos.cal (P := P) (w := w) (base := base) fun f fd F => ok_posi F fra
  have arf := D.arf.cal (P := P) (w := w) (base := base) fun f fd F => ok_areF F T D.al fra
  have neB := D.neB.calX (P := P) (w := w) (base := base) fun f fd F => ok_needB F eN bet
  have abv := D.abv.cal (P := P) (w := w) (base := base) fun f fd F => ok_above F D.al
  have isl := D.isl.cal (P := P) (w := w) (base := base) fun f fd F => ok_isLad F T D.ms D.z pos arf abv
  have neL := D.neL.calX (P := P) (w := w) (base := base) fun f fd F => ok_needLad F eL isl
  have hae := D.hae.cal (P := P) (w := w) (base := base) fun f fd F => ok_hasEnd F T D.z
  have ien := D.ien.calX (P := P) (w := w) (base := base) fun f fd F => ok_isEnded F hae neL
  have clm := D.clm.cal (P := P) (w := w) (base := base) fun f fd F => ok_climb F T D.zp nxt
  have rof := D.rof.cal (P := P) (w := w) (base := base) fun f fd F => ok_rungsOf F D.z D.og clm
  have rup := D.rup.calX (P := P) (w := w) (base := base) fun f fd F => ok_rungs F rof neL
  have nor := D.nor.calX (P := P) (w := w) (base := base) fun f fd F => ok_norms F T tim neL
  have stp := D.stp.cal (P := P) (w := w) (base := base) fun f fd F => ok_stepped F T D.z add tim
  have rot := D.rot.cal (P := P) (w := w) (base := base) fun f fd F => ok_rowTo F T D.og stp tim
  have neT := D.neT.calX (P := P) (w := w) (base := base) fun f fd F => ok_needTop F T D.ms hae neB
  have rwo := D.rwo.calX (P := P) (w := w) (base := base) fun f fd F => ok_rowOf F neT neL rot
  have mix := D.mix.cal (P := P) (w := w) (base := base) fun f fd F => ok_mixed F T
  have beg := D.beg.cal (P := P) (w := w) (base := base) fun f fd F => ok_begin F T
  have drw := D.drw.cal (P := P) (w := w) (base := base) fun f fd F => ok_draw F T mix
  have lra := D.lra.cal (P := P) (w := w) (base := base) fun f fd F => ok_lratio F T
  have lpl := D.lpl.cal (P := P) (w := w) (base := base) fun f fd F => ok_lplus F lra
  have lle := D.lle.cal (P := P) (w := w) (base := base) fun f fd F => ok_lless F lra
  have lti := D.lti.cal (P := P) (w := w) (base := base) fun f fd F => ok_ltimes F lra
  have lsu := D.lsu.cal (P := P) (w := w) (base := base) fun f fd F => ok_lsum F lpl
  have lsb := D.lsb.cal (P := P) (w := w) (base := base) fun f fd F => ok_lsumBy F D.zp lti lsu
  have lpr := D.lpr.cal (P := P) (w := w) (base := base) fun f fd F => ok_lprod F T D.en lpl lti
  have lls := D.lls.cal (P := P) (w := w) (base := base) fun f fd F => ok_llesser F T D.en lle
  have sma := D.sma.cal (P := P) (w := w) (base := base) fun f fd F => ok_small F drw lra
  have mis := D.mis.cal (P := P) (w := w) (base := base) fun f fd F => ok_misfits F T lsb
  have dwn := D.dwn.cal (P := P) (w := w) (base := base) fun f fd F => ok_drawn F T drw lra sma
  have rul := D.rul.cal (P := P) (w := w) (base := base) fun f fd F => ok_lruled F D.en lti lls
  have rgo := D.rgo.cal (P := P) (w := w) (base := base) fun f fd F => ok_rowGood F T D.en lpr lsb
  have god := D.god.calG (P := P) (w := w) (base := base) fun f fd F => ok_good F T drw dwn rul lti rgo mis rup nor ien neL rwo
  have ref := D.ref.calG (P := P) (w := w) (base := base) fun f fd F => ok_refused F T D.hk (fun A outer s H E => ⟨t2, rfl, in2, one2⟩) rup nor ien neL rwo
  exact ok_law F T rup nor ien neL rwo ref beg god
theorem walkG {l : PySem.W.OpenLaw} {q : Program} {loose : List Str} {XP : (Str → Option Value) → Heap → Prop} {YP : World → Heap → Prop} {d : DefRec} {KK : Params → PySem.W.Frag} (hn : l.most = some 63) (hd : d.params.defaults = [])
    (hY : ∀ (w : World) (h : Heap), YP w h → (KK w.params).In h)
    (F : ∀ (w : World) (mg : Str → Option Value) (fa : Addr) (h : Heap), (KK w.params).In h → h.Ns mainGlobals mg → mg d.name = some (.ref fa) →
      ∃ (C : Cls) (g c2 P2 : Addr) (e2 : DefRec), Top0 (KK w.params) mg C g c2 ∧ mg "law" = some (.ref fa) ∧ True ∧
        (recsOf q).find? (fun e => e.name == ("_law_refused_good" : Str)) = some e2 ∧
        PySem.W.tabIn (KK w.params) "_law_refused_good" = some (c2, P2) ∧
        (∀ r ∈ [(c2, P2)], List.lookup r.2 (KK w.params) = none ∧ PySem.W.codeHdIn (KK w.params) r.1 r.2 = true)) :
    PySem.W.WalkO q loose XP YP l.row.toRowW d [] (fun f vs => PySem.call f vs) := by
  refine Att.attach_callB hn hd fun w s9 s0 mg mb fa o pm cd doc a vs ns GG Y h1 h2 h3 hm hs hi hl hb hg => ?_
  have inK := hY w _ Y
  obtain ⟨C, g, c2, P2, e2, D, m, _, r2, b2, no⟩ := F w mg fa _ inK GG.T.g hm
  obtain ⟨fd, bnd, pr⟩ := law_prom (P := l.prog) (w := w) D  m
  have z2 := (PySem.W.tab_of GG.T inK r2 b2).2
  refine callG (cs := [(c2, P2)]) inK GG.T.g GG.T.b GG.T.builtins GG.T.nolimit hg ?_ (fun r hr => (no r hr).1) (fun r hr => (no r hr).2) GG.T.bmain hs hi (Nat.le_trans hl (by decide)) ⟨rfl, by decide, by decide⟩ (fun base _ _ tb => pr base tb) bnd fun H ht hq => ?_
  · intro r hr
    simp only [List.mem_cons, List.not_mem_nil, or_false] at hr
    rcases hr with rfl
    · exact z2
  · refine ⟨a, ns, rfl, hq, hl, ?_, fun _ => rfl⟩
    intro r hr
    simp only [lamTs, List.mem_cons, List.not_mem_nil, or_false] at hr
    rcases hr with rfl
    · exact TabS.nil (ht (c2, P2) (by simp))
end
end Rs


set_option Elab.async false
set_option linter.all false
set_option maxRecDepth 100000
set_option maxHeartbeats 1000000
namespace Rs
open PySem PySem.Spec PyProof.Rows L2 Bs LamX
section
variable {K : PySem.W.Frag} {h : Heap} {mg : Str → Option Value}
theorem nou_mk {a : Addr} {t1 t2 : Tok} {n : Nat} {sl : Array (Option Value)} (X : K.In h) (G : h.Ns mainGlobals mg) (e : PySem.W.nsIn K mainGlobals "NOUGHT" = some (some (.ref a)))
    (l : K.lookup a = some ⟨.type "tuple", none, .seq #[.int 0 t1, .int 1 t2] n, sl⟩) : Nou K mg :=
  ⟨a, PySem.W.mg_of X G e, fun H => .inr ⟨_, _, _, l, rfl, rfl, (by show 2 ≤ sizeLine; decide), .cons ⟨_, rfl⟩ (.cons ⟨_, rfl⟩ .nil)⟩⟩
theorem blt_mk (X : K.In h) (G : h.Ns mainGlobals mg) (h1 : PySem.W.nsIn K mainGlobals "isinstance" = some none) (h2 : PySem.W.nsIn K mainGlobals "len" = some none) (h3 : PySem.W.nsIn K mainGlobals "int" = some none)
    (h4 : PySem.W.nsIn K mainGlobals "bool" = some none) (h5 : PySem.W.nsIn K mainGlobals "tuple" = some none) (h6 : PySem.W.nsIn K mainGlobals "range" = some none) (h7 : PySem.W.nsIn K mainGlobals "list" = some none)
    (h8 : PySem.W.nsIn K mainGlobals "abs" = some none) (h9 : PySem.W.nsIn K mainGlobals "min" = some none) (h10 : PySem.W.nsIn K mainGlobals "repr" = some none) (h11 : PySem.W.nsIn K mainGlobals "gcd" = some (some (.builtin "math.gcd"))) : Blt mg :=
  ⟨PySem.W.mg_none_of X G h1, PySem.W.mg_none_of X G h2, PySem.W.mg_none_of X G h3, PySem.W.mg_none_of X G h4, PySem.W.mg_none_of X G h5, PySem.W.mg_none_of X G h6, PySem.W.mg_none_of X G h7, PySem.W.mg_none_of X G h8, PySem.W.mg_none_of X G h9, PySem.W.mg_none_of X G h10, PySem.W.mg_of X G h11⟩
/-- a class of errors with its __init__ -/
structure ErrTxt (K : PySem.W.Frag) (x qual fld : Str) (st : Stmt) (C : Addr) : Prop where
  a : PySem.W.nsIn K mainGlobals x = some (some (.ref C))
  oex : OexC K C
  xf : XfC K C
  no : PySem.W.findIn K (.ref C) fld = some none
  ini : ∃ (fI : Addr) (fd : FuncData), PySem.W.findIn K (.ref C) "__init__" = some (some (.ref fI)) ∧ PySem.W.typeIn K (.ref fI) = some (.type "function") ∧ Fun K "__init__" qual st fI fd ∧ Binds K fd ["self", fld] []
theorem err_mk {x qual fld : Str} {st : Stmt} {C fI N : Addr} {nm q : Str} {bs bm : List Value} {sn : List Str} {sub : List Value} {ab : Bool} {col : Option Bool} {dd : Option Addr} {k0 k1 k2 k3 k5 : Option Value}
    {oc kV doc pm cdv ct : Value} {od an : Option Addr} {sl : Array (Option Value)}
    (a : PySem.W.nsIn K mainGlobals x = some (some (.ref C))) (c : K.lookup C = some (excClassObj nm q C N bs bm true sn sub ab col dd k0 k1 k2 k3 k5 "ValueError.__new__")) (r : PySem.HandSPX.refsVE bm = true)
    (sa : PySem.W.findIn K (.ref C) "__setattr__" = some (some (.builtin "object.__setattr__"))) (ga : PySem.W.findIn K (.ref C) "__getattribute__" = some (some (.builtin "BaseException.__getattribute__")))
    (gg : PySem.W.findIn K (.ref C) "__getattr__" = some none) (no : PySem.W.findIn K (.ref C) fld = some none) (ex : PySem.W.subIn K (.ref C) (.type "BaseException") = some true) (ty : PySem.W.typeIn K (.ref C) = some (.type "type"))
    (kC : PySem.W.keepIn K (.ref C) = true) (hd : PySem.W.hasDictIn K C = true) (i : PySem.W.findIn K (.ref C) "__init__" = some (some (.ref fI))) (t : PySem.W.typeIn K (.ref fI) = some (.type "function"))
    (l : K.lookup fI = some ⟨oc, od, .func (PySem.W.fnOf "__init__" qual (defArgs st) (defBody st) (defScope st) .none kV doc pm an cdv ct), sl⟩) (hc : PySem.W.codeIn K cdv qual = true) (k : PySem.W.keepIn K (.ref fI) = true)
    (b : ∀ (kV doc pm : Value) (an : Option Addr) (cdv ct : Value) (us : List Value), us.length = (["self", fld] : List Str).length → bindArgs (PySem.W.fnOf "__init__" qual (defArgs st) (defBody st) (defScope st) .none kV doc pm an cdv ct) ⟨us, []⟩ = pure ((["self", fld] : List Str).zip us)) :
    ErrTxt K x qual fld st C :=
  ⟨a, ⟨⟨nm, q, N, bs, bm, sn, sub, ab, col, dd, k0, k1, k2, k3, k5, c, r⟩, sa, ex, ty, kC⟩, ⟨ga, gg, ex, hd⟩, no, fI, _, i, t, fun_mk l hc k, (fun_mk l hc k).binds b⟩
theorem ErrTxt.err {x qual : Str} {st : Stmt} {C : Addr} (E : ErrTxt K x qual "given" st C) (X : K.In h) (G : h.Ns mainGlobals mg) : Err K mg x qual st C := ⟨PySem.W.mg_of X G E.a, E.oex, E.xf, E.no, E.ini⟩
theorem ErrTxt.errW {x qual fld : Str} {st : Stmt} {C : Addr} (E : ErrTxt K x qual fld st C) (X : K.In h) (G : h.Ns mainGlobals mg) : ErrW K mg x qual fld st C := ⟨PySem.W.mg_of X G E.a, E.oex, E.xf, E.no, E.ini⟩
theorem heard_mk {g : Addr} {C : Cls} {oc kV doc pm cdv ct : Value} {od an : Option Addr} {sl : Array (Option Value)} (X : K.In h) (G : h.Ns mainGlobals mg) (eL : ErrTxt K "BadLadder" "BadLadder.__init__" "given" sIL C.L) (eN : ErrTxt K "BadNumber" "BadNumber.__init__" "given" sInitN C.N)
    (a : PySem.W.nsIn K mainGlobals "_law_heard" = some (some (.ref g))) (l : K.lookup g = some ⟨oc, od, .func (PySem.W.fnOf "_law_heard" "_law_heard" (defArgs sHeard) (defBody sHeard) (defScope sHeard) .none kV doc pm an cdv ct), sl⟩)
    (c : PySem.W.codeIn K cdv "_law_heard" = true) (k : PySem.W.keepIn K (.ref g) = true) (xLL : PySem.W.exmOne K (.ref C.L) (.ref C.L) = some true) (xNL : PySem.W.exmOne K (.ref C.N) (.ref C.L) = some false) (xNN : PySem.W.exmOne K (.ref C.N) (.ref C.N) = some true) : HeardK K mg g C :=
  ⟨PySem.W.mg_of X G a, k, ⟨oc, od, kV, doc, pm, an, cdv, ct, sl, l, c⟩, PySem.W.mg_of X G eL.a, PySem.W.mg_of X G eN.a, eL.xf, eN.xf, eL.no, eN.no, xLL, xNL, xNN⟩
theorem one_mk {a : Addr} {t1 t2 : Tok} {n : Nat} {sl : Array (Option Value)} (X : K.In h) (G : h.Ns mainGlobals mg) (e : PySem.W.nsIn K mainGlobals "ONE" = some (some (.ref a)))
    (l : K.lookup a = some ⟨.type "tuple", none, .seq #[.int 1 t1, .int 1 t2] n, sl⟩) : OneG K mg :=
  ⟨a, PySem.W.mg_of X G e, fun H => .inr ⟨_, _, _, l, rfl, rfl, (by show 2 ≤ sizeLine; decide), .cons ⟨_, rfl⟩ (.cons ⟨_, rfl⟩ .nil)⟩⟩
theorem mosts_mk {t1 t2 t3 : Tok} (X : K.In h) (G : h.Ns mainGlobals mg) (e1 : PySem.W.nsIn K mainGlobals "MOST_OPEN" = some (some (.int 4 t1))) (e2 : PySem.W.nsIn K mainGlobals "MOST_ENDED" = some (some (.int 5 t2))) (e3 : PySem.W.nsIn K mainGlobals "LAST_MOMENT" = some (some (.int 8 t3))) : Mosts mg := ⟨⟨t1, PySem.W.mg_of X G e1⟩, ⟨t2, PySem.W.mg_of X G e2⟩, ⟨t3, PySem.W.mg_of X G e3⟩⟩
end
/-- all of it -/
theorem all_mk {q : Program} {K : PySem.W.Frag} {h : Heap} {mg : Str → Option Value} {fa c2 P2 : Addr} {CL CN : Addr}
    {f2 : Addr} {oc2 kV2 dc2 pm2 ct2 o2 : Value} {od2 an2 dd2 : Option Addr} {sl2 sm2 : Array (Option Value)} {vs2 : Array Value} {e2 : DefRec}
    {g : Addr} {oc kV doc pm cdv ct : Value} {od an : Option Addr} {sl : Array (Option Value)}
    (X : K.In h) (G : h.Ns mainGlobals mg) (hfa : mg "law" = some (.ref fa))
    (red : DefN K mg "reduced" sReduced ["top", "bottom"])
    (add : DefN K mg "added" sAdded ["one", "other"])
    (les : DefN K mg "lessened" sLessened ["one", "other"])
    (tim : DefN K mg "timed" sTimed ["one", "other"])
    (trm : DefN K mg "trimmed" sTrim ["some"])
    (atp : DefN K mg "at_power" sAt ["poly", "number"])
    (ple : DefN K mg "poly_lessened" sPLess ["one", "other"])
    (psc : DefN K mg "poly_scaled" sScaled ["poly", "factor"])
    (psh : DefN K mg "poly_shifted" sShifted ["poly", "number"])
    (nxt : DefN K mg "next_rung" sNext ["before", "here", "level", "step"])
    (who : DefN K mg "is_whole" sWhole ["thing"])
    (bet : DefN K mg "is_between" sBetween ["thing", "low", "high"])
    (fra : DefN K mg "is_fraction" sFraction ["thing"])
    (pos : DefN K mg "is_positive" sPosi ["thing"])
    (arf : DefN K mg "are_fractions" sAreF ["thing", "most"])
    (neB : DefN K mg "need_between" sNeedB ["thing", "low", "high"])
    (abv : DefN K mg "are_above" sAbove ["some"])
    (isl : DefN K mg "is_ladder" sIsLad ["thing"])
    (neL : DefN K mg "need_ladder" sNeedLad ["thing"])
    (hae : DefN K mg "has_end" sHasEnd ["ladder"])
    (ien : DefN K mg "is_ended" sIsEnded ["ladder"])
    (clm : DefN K mg "climbed" sClimb ["before", "here", "levels", "steps"])
    (rof : DefN K mg "rungs_of" sRungsOf ["ladder"])
    (rup : DefN K mg "rung_polys" sRungs ["ladder"])
    (nor : DefN K mg "norms" sNorms ["ladder"])
    (stp : DefN K mg "stepped" sStepped ["sums", "levels", "steps"])
    (rot : DefN K mg "row_to" sRowTo ["ladder", "top"])
    (neT : DefN K mg "need_top" sNeedTop ["ladder", "top"])
    (rwo : DefN K mg "row_of" sRowOf ["ladder", "top"])
    (mix : DefN K mg "_law_mixed" sMixed ["cell", "k"])
    (beg : DefN K mg "_law_begin" sBegin ["script"])
    (drw : DefN K mg "_law_draw" sDraw ["state", "many"])
    (lra : DefN K mg "_law_ratio" sLRatio ["top", "bottom"])
    (lpl : DefN K mg "_law_plus" sLPlus ["one", "other"])
    (lle : DefN K mg "_law_less" sLLess ["one", "other"])
    (lti : DefN K mg "_law_times" sLTimes ["one", "other"])
    (lsu : DefN K mg "_law_sum" sLSum ["some"])
    (lsb : DefN K mg "_law_sum_by" sLSumBy ["row", "some"])
    (lpr : DefN K mg "_law_product" sLProd ["one", "far"])
    (lls : DefN K mg "_law_lesser" sLLesser ["one", "far"])
    (sma : DefN K mg "_law_small" sSmall ["state"])
    (mis : DefN K mg "_law_misfits" sMisfits ["row", "some"])
    (dwn : DefN K mg "_law_drawn" sDrawn ["state"])
    (rul : DefN K mg "_law_ruled" sLRuled ["ladder_so"])
    (rgo : DefN K mg "_law_row_good" sRowGood ["row", "rungs", "norms_so"])
    (god : DefN K mg "_law_good" sGood ["state"])
    (law : DefN K mg "law" sLaw ["script"])
    (a2 : PySem.W.nsIn K mainGlobals "_law_refused_good" = some (some (.ref f2))) (l2 : K.lookup f2 = some ⟨oc2, od2, .func (PySem.W.fnOf "_law_refused_good" "_law_refused_good" (defArgs sRefused) (defBody sRefused) (defScope sRefused) .none kV2 dc2 pm2 an2 (.ref c2) ct2), sl2⟩) (hc2 : PySem.W.codeIn K (.ref c2) "_law_refused_good" = true) (k2 : PySem.W.keepIn K (.ref f2) = true)
    (u2 : K.lookup c2 = some ⟨o2, dd2, .fields vs2, sm2⟩) (v2 : (vs2[11]? : Option Value) = some (.ref P2)) (p2 : K.lookup P2 = none) (w2 : PySem.W.codeHdIn K c2 P2 = true) (r2 : (recsOf q).find? (fun e => e.name == ("_law_refused_good" : Str)) = some e2)
    (eL : ErrTxt K "BadLadder" "BadLadder.__init__" "given" sIL CL)
    (eN : ErrTxt K "BadNumber" "BadNumber.__init__" "given" sInitN CN)
    (ha : PySem.W.nsIn K mainGlobals "_law_heard" = some (some (.ref g))) (hl : K.lookup g = some ⟨oc, od, .func (PySem.W.fnOf "_law_heard" "_law_heard" (defArgs sHeard) (defBody sHeard) (defScope sHeard) .none kV doc pm an cdv ct), sl⟩) (hc : PySem.W.codeIn K cdv "_law_heard" = true) (hk : PySem.W.keepIn K (.ref g) = true)
    (xLL : PySem.W.exmOne K (.ref CL) (.ref CL) = some true) (xNL : PySem.W.exmOne K (.ref CN) (.ref CL) = some false) (xNN : PySem.W.exmOne K (.ref CN) (.ref CN) = some true) (z : Nou K mg) (t : Blt mg) (og : OneG K mg) (ms : Mosts mg) (zp : mg "zip" = none) (al : mg "all" = none) (mx : mg "max" = none) (en : mg "enumerate" = none)  :
    ∃ (C : Cls) (g c2 P2 : Addr) (e2 : DefRec), Top0 K mg C g c2 ∧ mg "law" = some (.ref fa) ∧ True ∧
        (recsOf q).find? (fun e => e.name == ("_law_refused_good" : Str)) = some e2 ∧
        PySem.W.tabIn K "_law_refused_good" = some (c2, P2) ∧
        (∀ r ∈ [(c2, P2)], List.lookup r.2 K = none ∧ PySem.W.codeHdIn K r.1 r.2 = true) := by
  refine ⟨⟨CL, CN⟩, g, c2, P2, e2, ⟨red, add, les, tim, trm, atp, ple, psc, psh, nxt, who, bet, fra, pos, arf, neB, abv, isl, neL, hae, ien, clm, rof, rup, nor, stp, rot, neT, rwo, mix, beg, drw, lra, lpl, lle, lti, lsu, lsb, lpr, lls, sma, mis, dwn, rul, rgo, god, law, defC_mk X G a2 l2 hc2 k2 (fun _ _ _ _ _ _ us hl => match us, hl with | [], _ => rfl), eL.errW X G, eN.err X G, heard_mk (C := ⟨CL, CN⟩) X G eL eN ha hl hc hk xLL xNL xNN, z, t, og, ms, zp, al, mx, en⟩, hfa, trivial, r2, tab_mk a2 l2 u2 v2, ?_⟩
  intro r hr
  simp only [List.mem_cons, List.not_mem_nil, or_false] at hr
  rcases hr with rfl
  · exact ⟨p2, w2⟩
end Rs


set_option Elab.async false
set_option linter.all false
open PySem PySem.W PyProof.Rows
set_option maxRecDepth 100000 in
set_option maxHeartbeats 0 in
theorem PySem.Challenge.cw_rungshare_k03_whole_ladders_holds : PySem.Challenge.rw_rungshare_k03_whole_ladders.Holds := by
  w_on; o_law; k_head; (case hw => w_witness2)
  k_fill
  refine Rs.walkG (l := PySem.Challenge.rw_rungshare_k03_whole_ladders) rfl rfl (fun w h Y => PySem.W.km_in_of Y) ?F
  case F =>
    intro w mg fa h KX G hmg
    refine' Rs.all_mk KX G hmg ?red ?add ?les ?tim ?trm ?atp ?ple ?psc ?psh ?nxt ?who ?bet ?fra ?pos ?arf ?neB ?abv ?isl ?neL ?hae ?ien ?clm ?rof ?rup ?nor ?stp ?rot ?neT ?rwo ?mix ?beg ?drw ?lra ?lpl ?lle ?lti ?lsu ?lsb ?lpr ?lls ?sma ?mis ?dwn ?rul ?rgo ?god ?law ?a2 ?l2 ?hc2 ?k2 ?u2 ?v2 ?p2 ?w2 ?r2 ?eL ?eN ?gha ?ghl ?ghc ?ghk ?gxLL ?gxNL ?gxNN ?gz ?gt ?gog ?gms ?gzp ?gal ?gmx ?gen
    (case red => refine' Rs.defN_mk KX G ?a ?l ?c ?k (fun _ _ _ _ _ _ us hl => match us, hl with | [_, _], _ => rfl); (case a => k_is); (case l => k_is); (case c => k_is); (case k => k_is))
    (case add => refine' Rs.defN_mk KX G ?a ?l ?c ?k (fun _ _ _ _ _ _ us hl => match us, hl with | [_, _], _ => rfl); (case a => k_is); (case l => k_is); (case c => k_is); (case k => k_is))
    (case les => refine' Rs.defN_mk KX G ?a ?l ?c ?k (fun _ _ _ _ _ _ us hl => match us, hl with | [_, _], _ => rfl); (case a => k_is); (case l => k_is); (case c => k_is); (case k => k_is))
    (case tim => refine' Rs.defN_mk KX G ?a ?l ?c ?k (fun _ _ _ _ _ _ us hl => match us, hl with | [_, _], _ => rfl); (case a => k_is); (case l => k_is); (case c => k_is); (case k => k_is))
    (case trm => refine' Rs.defN_mk KX G ?a ?l ?c ?k (fun _ _ _ _ _ _ us hl => match us, hl with | [_], _ => rfl); (case a => k_is); (case l => k_is); (case c => k_is); (case k => k_is))
    (case atp => refine' Rs.defN_mk KX G ?a ?l ?c ?k (fun _ _ _ _ _ _ us hl => match us, hl with | [_, _], _ => rfl); (case a => k_is); (case l => k_is); (case c => k_is); (case k => k_is))
    (case ple => refine' Rs.defN_mk KX G ?a ?l ?c ?k (fun _ _ _ _ _ _ us hl => match us, hl with | [_, _], _ => rfl); (case a => k_is); (case l => k_is); (case c => k_is); (case k => k_is))
    (case psc => refine' Rs.defN_mk KX G ?a ?l ?c ?k (fun _ _ _ _ _ _ us hl => match us, hl with | [_, _], _ => rfl); (case a => k_is); (case l => k_is); (case c => k_is); (case k => k_is))
    (case psh => refine' Rs.defN_mk KX G ?a ?l ?c ?k (fun _ _ _ _ _ _ us hl => match us, hl with | [_, _], _ => rfl); (case a => k_is); (case l => k_is); (case c => k_is); (case k => k_is))
    (case nxt => refine' Rs.defN_mk KX G ?a ?l ?c ?k (fun _ _ _ _ _ _ us hl => match us, hl with | [_, _, _, _], _ => rfl); (case a => k_is); (case l => k_is); (case c => k_is); (case k => k_is))
    (case who => refine' Rs.defN_mk KX G ?a ?l ?c ?k (fun _ _ _ _ _ _ us hl => match us, hl with | [_], _ => rfl); (case a => k_is); (case l => k_is); (case c => k_is); (case k => k_is))
    (case bet => refine' Rs.defN_mk KX G ?a ?l ?c ?k (fun _ _ _ _ _ _ us hl => match us, hl with | [_, _, _], _ => rfl); (case a => k_is); (case l => k_is); (case c => k_is); (case k => k_is))
    (case fra => refine' Rs.defN_mk KX G ?a ?l ?c ?k (fun _ _ _ _ _ _ us hl => match us, hl with | [_], _ => rfl); (case a => k_is); (case l => k_is); (case c => k_is); (case k => k_is))
    (case pos => refine' Rs.defN_mk KX G ?a ?l ?c ?k (fun _ _ _ _ _ _ us hl => match us, hl with | [_], _ => rfl); (case a => k_is); (case l => k_is); (case c => k_is); (case k => k_is))
    (case arf => refine' Rs.defN_mk KX G ?a ?l ?c ?k (fun _ _ _ _ _ _ us hl => match us, hl with | [_, _], _ => rfl); (case a => k_is); (case l => k_is); (case c => k_is); (case k => k_is))
    (case neB => refine' Rs.defN_mk KX G ?a ?l ?c ?k (fun _ _ _ _ _ _ us hl => match us, hl with | [_, _, _], _ => rfl); (case a => k_is); (case l => k_is); (case c => k_is); (case k => k_is))
    (case abv => refine' Rs.defN_mk KX G ?a ?l ?c ?k (fun _ _ _ _ _ _ us hl => match us, hl with | [_], _ => rfl); (case a => k_is); (case l => k_is); (case c => k_is); (case k => k_is))
    (case isl => refine' Rs.defN_mk KX G ?a ?l ?c ?k (fun _ _ _ _ _ _ us hl => match us, hl with | [_], _ => rfl); (case a => k_is); (case l => k_is); (case c => k_is); (case k => k_is))
    (case neL => refine' Rs.defN_mk KX G ?a ?l ?c ?k (fun _ _ _ _ _ _ us hl => match us, hl with | [_], _ => rfl); (case a => k_is); (case l => k_is); (case c => k_is); (case k => k_is))
    (case hae => refine' Rs.defN_mk KX G ?a ?l ?c ?k (fun _ _ _ _ _ _ us hl => match us, hl with | [_], _ => rfl); (case a => k_is); (case l => k_is); (case c => k_is); (case k => k_is))
    (case ien => refine' Rs.defN_mk KX G ?a ?l ?c ?k (fun _ _ _ _ _ _ us hl => match us, hl with | [_], _ => rfl); (case a => k_is); (case l => k_is); (case c => k_is); (case k => k_is))
    (case clm => refine' Rs.defN_mk KX G ?a ?l ?c ?k (fun _ _ _ _ _ _ us hl => match us, hl with | [_, _, _, _], _ => rfl); (case a => k_is); (case l => k_is); (case c => k_is); (case k => k_is))
    (case rof => refine' Rs.defN_mk KX G ?a ?l ?c ?k (fun _ _ _ _ _ _ us hl => match us, hl with | [_], _ => rfl); (case a => k_is); (case l => k_is); (case c => k_is); (case k => k_is))
    (case rup => refine' Rs.defN_mk KX G ?a ?l ?c ?k (fun _ _ _ _ _ _ us hl => match us, hl with | [_], _ => rfl); (case a => k_is); (case l => k_is); (case c => k_is); (case k => k_is))
    (case nor => refine' Rs.defN_mk KX G ?a ?l ?c ?k (fun _ _ _ _ _ _ us hl => match us, hl with | [_], _ => rfl); (case a => k_is); (case l => k_is); (case c => k_is); (case k => k_is))
    (case stp => refine' Rs.defN_mk KX G ?a ?l ?c ?k (fun _ _ _ _ _ _ us hl => match us, hl with | [_, _, _], _ => rfl); (case a => k_is); (case l => k_is); (case c => k_is); (case k => k_is))
    (case rot => refine' Rs.defN_mk KX G ?a ?l ?c ?k (fun _ _ _ _ _ _ us hl => match us, hl with | [_, _], _ => rfl); (case a => k_is); (case l => k_is); (case c => k_is); (case k => k_is))
    (case neT => refine' Rs.defN_mk KX G ?a ?l ?c ?k (fun _ _ _ _ _ _ us hl => match us, hl with | [_, _], _ => rfl); (case a => k_is); (case l => k_is); (case c => k_is); (case k => k_is))
    (case rwo => refine' Rs.defN_mk KX G ?a ?l ?c ?k (fun _ _ _ _ _ _ us hl => match us, hl with | [_, _], _ => rfl); (case a => k_is); (case l => k_is); (case c => k_is); (case k => k_is))
    (case mix => refine' Rs.defN_mk KX G ?a ?l ?c ?k (fun _ _ _ _ _ _ us hl => match us, hl with | [_, _], _ => rfl); (case a => k_is); (case l => k_is); (case c => k_is); (case k => k_is))
    (case beg => refine' Rs.defN_mk KX G ?a ?l ?c ?k (fun _ _ _ _ _ _ us hl => match us, hl with | [_], _ => rfl); (case a => k_is); (case l => k_is); (case c => k_is); (case k => k_is))
    (case drw => refine' Rs.defN_mk KX G ?a ?l ?c ?k (fun _ _ _ _ _ _ us hl => match us, hl with | [_, _], _ => rfl); (case a => k_is); (case l => k_is); (case c => k_is); (case k => k_is))
    (case lra => refine' Rs.defN_mk KX G ?a ?l ?c ?k (fun _ _ _ _ _ _ us hl => match us, hl with | [_, _], _ => rfl); (case a => k_is); (case l => k_is); (case c => k_is); (case k => k_is))
    (case lpl => refine' Rs.defN_mk KX G ?a ?l ?c ?k (fun _ _ _ _ _ _ us hl => match us, hl with | [_, _], _ => rfl); (case a => k_is); (case l => k_is); (case c => k_is); (case k => k_is))
    (case lle => refine' Rs.defN_mk KX G ?a ?l ?c ?k (fun _ _ _ _ _ _ us hl => match us, hl with | [_, _], _ => rfl); (case a => k_is); (case l => k_is); (case c => k_is); (case k => k_is))
    (case lti => refine' Rs.defN_mk KX G ?a ?l ?c ?k (fun _ _ _ _ _ _ us hl => match us, hl with | [_, _], _ => rfl); (case a => k_is); (case l => k_is); (case c => k_is); (case k => k_is))
    (case lsu => refine' Rs.defN_mk KX G ?a ?l ?c ?k (fun _ _ _ _ _ _ us hl => match us, hl with | [_], _ => rfl); (case a => k_is); (case l => k_is); (case c => k_is); (case k => k_is))
    (case lsb => refine' Rs.defN_mk KX G ?a ?l ?c ?k (fun _ _ _ _ _ _ us hl => match us, hl with | [_, _], _ => rfl); (case a => k_is); (case l => k_is); (case c => k_is); (case k => k_is))
    (case lpr => refine' Rs.defN_mk KX G ?a ?l ?c ?k (fun _ _ _ _ _ _ us hl => match us, hl with | [_, _], _ => rfl); (case a => k_is); (case l => k_is); (case c => k_is); (case k => k_is))
    (case lls => refine' Rs.defN_mk KX G ?a ?l ?c ?k (fun _ _ _ _ _ _ us hl => match us, hl with | [_, _], _ => rfl); (case a => k_is); (case l => k_is); (case c => k_is); (case k => k_is))
    (case sma => refine' Rs.defN_mk KX G ?a ?l ?c ?k (fun _ _ _ _ _ _ us hl => match us, hl with | [_], _ => rfl); (case a => k_is); (case l => k_is); (case c => k_is); (case k => k_is))
    (case mis => refine' Rs.defN_mk KX G ?a ?l ?c ?k (fun _ _ _ _ _ _ us hl => match us, hl with | [_, _], _ => rfl); (case a => k_is); (case l => k_is); (case c => k_is); (case k => k_is))
    (case dwn => refine' Rs.defN_mk KX G ?a ?l ?c ?k (fun _ _ _ _ _ _ us hl => match us, hl with | [_], _ => rfl); (case a => k_is); (case l => k_is); (case c => k_is); (case k => k_is))
    (case rul => refine' Rs.defN_mk KX G ?a ?l ?c ?k (fun _ _ _ _ _ _ us hl => match us, hl with | [_], _ => rfl); (case a => k_is); (case l => k_is); (case c => k_is); (case k => k_is))
    (case rgo => refine' Rs.defN_mk KX G ?a ?l ?c ?k (fun _ _ _ _ _ _ us hl => match us, hl with | [_, _, _], _ => rfl); (case a => k_is); (case l => k_is); (case c => k_is); (case k => k_is))
    (case god => refine' Rs.defN_mk KX G ?a ?l ?c ?k (fun _ _ _ _ _ _ us hl => match us, hl with | [_], _ => rfl); (case a => k_is); (case l => k_is); (case c => k_is); (case k => k_is))
    (case law => refine' Rs.defN_mk KX G ?a ?l ?c ?k (fun _ _ _ _ _ _ us hl => match us, hl with | [_], _ => rfl); (case a => k_is); (case l => k_is); (case c => k_is); (case k => k_is))
    (case a2 => k_is); (case l2 => k_is); (case hc2 => k_is); (case k2 => k_is); (case u2 => k_is); (case v2 => rfl); (case p2 => kernel_rfl); (case w2 => kernel_rfl); (case r2 => rfl)
    (case eL => refine' Rs.err_mk ?aeL ?ceL ?reL ?saeL ?gaeL ?ggeL ?noeL ?exeL ?tyeL ?kCeL ?hdeL ?ieL ?teL ?leL ?hceL ?keL (fun _ _ _ _ _ _ us hl => match us, hl with | [_, _], _ => rfl); (case aeL => k_is); (case ceL => k_is); (case reL => decide +kernel); (case saeL => k_is); (case gaeL => k_is); (case ggeL => k_is); (case noeL => k_is); (case exeL => k_is); (case tyeL => k_is); (case kCeL => k_is); (case hdeL => k_is); (case ieL => k_is); (case teL => k_is); (case leL => k_is); (case hceL => k_is); (case keL => k_is))
    (case eN => refine' Rs.err_mk ?aeN ?ceN ?reN ?saeN ?gaeN ?ggeN ?noeN ?exeN ?tyeN ?kCeN ?hdeN ?ieN ?teN ?leN ?hceN ?keN (fun _ _ _ _ _ _ us hl => match us, hl with | [_, _], _ => rfl); (case aeN => k_is); (case ceN => k_is); (case reN => decide +kernel); (case saeN => k_is); (case gaeN => k_is); (case ggeN => k_is); (case noeN => k_is); (case exeN => k_is); (case tyeN => k_is); (case kCeN => k_is); (case hdeN => k_is); (case ieN => k_is); (case teN => k_is); (case leN => k_is); (case hceN => k_is); (case keN => k_is))
    (case gha => k_is); (case ghl => k_is); (case ghc => k_is); (case ghk => k_is)
    (case gxLL => first | k_is | kernel_rfl)
    (case gxNL => first | k_is | kernel_rfl)
    (case gxNN => first | k_is | kernel_rfl)
    (case gz => refine' Rs.nou_mk KX G ?a ?l; (case a => k_is); (case l => k_is))
    (case gt => refine' Rs.blt_mk KX G ?h1 ?h2 ?h3 ?h4 ?h5 ?h6 ?h7 ?h8 ?h9 ?h10 ?h11; (case h1 => k_is); (case h2 => k_is); (case h3 => k_is); (case h4 => k_is); (case h5 => k_is); (case h6 => k_is); (case h7 => k_is); (case h8 => k_is); (case h9 => k_is); (case h10 => k_is); (case h11 => k_is))
    (case gog => refine' Rs.one_mk KX G ?hoa ?hol; (case hoa => k_is); (case hol => k_is))
    (case gms => refine' Rs.mosts_mk KX G ?hm4 ?hm5 ?hm8; (case hm4 => k_is); (case hm5 => k_is); (case hm8 => k_is))
    (case gzp => refine' PySem.W.mg_none_of KX G ?hnzp; k_is)
    (case gal => refine' PySem.W.mg_none_of KX G ?hnal; k_is)
    (case gmx => refine' PySem.W.mg_none_of KX G ?hnmx; k_is)
    (case gen => refine' PySem.W.mg_none_of KX G ?hnen; k_is)


