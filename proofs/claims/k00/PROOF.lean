import PyProof.Rows.All
import Wide.All
import OpenK.AllK
import Wide.FinOn
import HandS.ForMost
import HandS.ForExc
import HandS.Gcd
import HandS.Wide
import HandS.IsInst
import HandS.ExcInit
import HandS.Lambda
import HandS.OwnEq
import PySem.Challenge.RW_rungshare_k00_whole_ratios
import HandS.ExcField
import HandS.Codes
import HandS.TryMany
import HandS.WordsExc
import HandS.TupLe
import HandS.EndTab
import HandS.NestedK
set_option Elab.async false
set_option linter.all false
set_option maxRecDepth 100000
set_option maxHeartbeats 2000000
/-! small things that every law wants -/
namespace Bs
open PySem PySem.Spec PyProof.Rows L2
theorem same_new {H : Hp} {p : Addr} {o : HO} (h : H p = none) : Same H (upd H p o) := fun b u e => (upd_ne (ne_of_none e h)).trans e
theorem Same.t {K : PySem.W.Frag} {H H' : Hp} {a : Addr} {xs : List V} (e : Same H H') (h : SqT K H a xs) : SqT K H' a xs := by
  rcases h with (h | ⟨o, h⟩) | h
  · exact .inl (.inl (e _ _ h))
  · exact .inl (.inr ⟨o, e _ _ h⟩)
  · exact .inr h
section
variable {X : Cx}
/-- x *= e, both ints, together below a million bits -/
def ipM : TIp := fun x y H Q => ∃ i j, x = .int i ∧ y = .int j ∧ CMulW i j ∧ Q (.int (i * j)) H
theorem ip_mul : PIp X .Mult ipM := by
  rintro pins s σ H x y v u Q I r1 r2 ⟨i, j, rfl, rfl, c, q⟩
  obtain ⟨t, rfl⟩ := r1
  obtain ⟨t', rfl⟩ := r2
  exact imul_int ⟨.int _, H, I.tok _, ⟨_, rfl⟩, q⟩ c.ok
/-- repr of data in lists and tuples -/
def rRepr (K : PySem.W.Frag) : List V → Hp → VK → Prop := fun xs H Q => ∃ (a : Addr) (d : PyData), xs = [.ref a] ∧ Dp K H (.ref a) d ∧ d.showable = true ∧ d.hasDict = false ∧ d.depth ≤ 60 ∧ d.shown.length ≤ sizeLine ∧ Q (.str d.shown) H
theorem call_repr (hg : X.A.guards = some []) (hu : X.A.units + 64 < cLine) : CallR X (.builtin "repr") (rRepr X.K) := by
  rintro pins s σ H xs us Q I r ⟨a, d, rfl, hd, h1, h2, h3, h4, q⟩
  obtain ⟨u, rfl, ru⟩ := vals1 r
  obtain ⟨as, rd⟩ := Dp.reads I d (.ref a) u hd ru
  obtain rfl : u = Value.ref a := ru
  refine repr_of_reads' rd h1 (PyData.noDict_hsm h2) hg (by omega) (fun _ _ e => e) (fun h' u tk hk => ?_) h4
  exact ⟨.str d.shown, H, I.kept (h' := h') hk, ⟨u, rfl⟩, q⟩
end
/-! ### defs that may raise, and defs that ask for no guards -/
structure CalX (P : Program) (w : World) (K : PySem.W.Frag) (mg : Str → Option Value) (base : Heap) (k : Nat) (x : Str) (sp : Sp) : Prop where
  ex : ∃ (f : Addr) (fd : FuncData) (ps : List Str), FnOk P w K mg base (L2.CX P w) k f fd ps sp ∧ mg x = some (.ref f) ∧ PySem.W.keepIn K (.ref f) = true ∧ Binds K fd ps []
structure Cal (P : Program) (w : World) (K : PySem.W.Frag) (mg : Str → Option Value) (base : Heap) (k : Nat) (x : Str) (sp : Sp) : Prop where
  ex : ∃ (f : Addr) (fd : FuncData) (ps : List Str), FnOk P w K mg base CX0 k f fd ps sp ∧ mg x = some (.ref f) ∧ PySem.W.keepIn K (.ref f) = true ∧ Binds K fd ps []
/-- a promise that is kept where no guard stands around -/
structure FnG (P : Program) (w : World) (K : PySem.W.Frag) (mg : Str → Option Value) (base : Heap) (k : Nat) (f : Addr) (fd : FuncData) (ps : List Str) (sp : Sp) : Prop where
  len : ∀ vs H Q E, sp vs H Q E → vs.length = ps.length
  run : ∀ (A : Around) (outer : List Env) (s : Shared) (H : Hp) (args : Args) (us : List Value) (vs : List V) (Q : VK) (E : XK), A.guards = some [] → Room k A → Env0 P w K mg base A outer s H →
    BindsTo s fd args (ps.zip us) → Vals vs us → sp vs H Q E → codeAny (model P w) A (.call (.ref f) args) (CR CX0 outer P w H s Q E) s
structure CalG (P : Program) (w : World) (K : PySem.W.Frag) (mg : Str → Option Value) (base : Heap) (k : Nat) (x : Str) (sp : Sp) : Prop where
  ex : ∃ (f : Addr) (fd : FuncData) (ps : List Str), FnG P w K mg base k f fd ps sp ∧ mg x = some (.ref f) ∧ PySem.W.keepIn K (.ref f) = true ∧ Binds K fd ps []
section
variable {P : Program} {w : World} {K : PySem.W.Frag} {mg : Str → Option Value} {base : Heap} {k : Nat} {f : Addr} {fd : FuncData} {sp : Sp} {x qual : Str} {st : Stmt} {N ps : List Str}
theorem FnG.ok (F : Fun K x qual st f fd) (S : FnScope N ps (defScope st)) (len : ∀ vs H Q E, sp vs H Q E → vs.length = ps.length)
    (hbody : ∀ (cdv : Value) (A : Around) (outer : List Env) (s : Shared) (H : Hp) (vs : List V) (Q : VK) (E : XK), A.guards = some [] → Room k (A.deeper (envOfC qual (defScope st) s.heap.objs.size f cdv)) → sp vs H Q E →
      ∃ t, PSs (cxOf CX0 P w K mg base N qual (defScope st) f cdv A outer s H E).nox (defBody st) t ∧ t { nx := fun _ H' => Q .non H', rt := Q } (start N vs) H) : FnG P w K mg base (k + 1) f fd ps sp := by
  obtain ⟨oc, od, kV, doc, pm, an, cdv, ct, osl, rfl, lk, hcd⟩ := F.ex
  refine ⟨len, fun A outer s H args us vs Q E hg hr e0 hb r h => ?_⟩
  refine LamX.run_ofS lk hcd S hr e0 hb r (len _ _ _ _ h) (fun hr' => ?_)
  obtain ⟨t, a, b⟩ := hbody cdv A outer s H vs Q E hg hr' h
  exact ⟨t, a.nox, b⟩
end
section
variable {X : Cx} {k j : Nat} {x : Str} {sp : Sp} {p pos : Pos} {e : Expr} {es : List Expr} {t : TA} {E : XK}
theorem pe_x (c : CalX X.prog X.w X.K X.mg X.base k x sp) (hr : Room j X.A) (hk : k ≤ j) (hg : Gl X x) (hx : Passes (L2.CX X.prog X.w) X E) (ha : PA X (e :: es) t)
    (hdb : (x == ("__debug__" : Str)) = false := by decide) (he : starEach (e :: es) X.env = (false, eval e X.env) :: starEach es X.env := by rfl) (hpl : (backTo pos (starEach es X.env)).any (·.1) = false := by rfl) :
    PE X (.Call (.Name x p) (e :: es) [] pos) (tCall sp [] E t) := by
  obtain ⟨f, fd, ps, F, hm, kp, b⟩ := c.ex
  exact pe_call F (hr.mono hk) hg hm kp b .nil hx ha hdb he hpl
theorem pe_n (c : Cal X.prog X.w X.K X.mg X.base k x sp) (hr : Room j X.A) (hk : k ≤ j) (hg : Gl X x) (ha : PA X (e :: es) t)
    (hdb : (x == ("__debug__" : Str)) = false := by decide) (he : starEach (e :: es) X.env = (false, eval e X.env) :: starEach es X.env := by rfl) (hpl : (backTo pos (starEach es X.env)).any (·.1) = false := by rfl) :
    PE X (.Call (.Name x p) (e :: es) [] pos) (tCall sp [] E0 t) := by
  obtain ⟨f, fd, ps, F, hm, kp, b⟩ := c.ex
  exact pe_call F (hr.mono hk) hg hm kp b .nil pass0 ha hdb he hpl
theorem run_g {pins : List (Addr × Obj)} {σ : L2.St} {H : Hp} {s : Shared} {Q : VK} {f : Addr} {fd : FuncData} {ps : List Str} {us : List Value} {vs : List V} (F : FnG X.prog X.w X.K X.mg X.base k f fd ps sp) (hg : X.A.guards = some []) (hr : Room k X.A)
    (hb : Binds X.K fd ps []) (I : L2.Inv X pins σ H s) (r : Vals vs us) (h : sp vs H Q E) : wpAny (model X.prog X.w) X.A (call (.ref f) us) (EP X pins σ Q) X.xe s := by
  have hl : (us ++ []).length = ps.length := by rw [List.append_nil, ← r.length]; exact F.len _ _ _ _ h
  have b0 := hb s us I.kIn hl
  rw [List.append_nil] at b0
  refine wpAny_call (codeAny_mono (F.run X.A X.stack s H ⟨us, []⟩ us vs Q E hg hr I.env0 b0 r h) (fun r s' hq => ?_))
  rcases r with e | fl
  · exact (show False from hq).elim
  · cases fl with
    | ret u => exact I.after hq
    | next => exact hq.elim
    | brk => exact hq.elim
    | cont => exact hq.elim
theorem pe_g (c : CalG X.prog X.w X.K X.mg X.base k x sp) (hgd : X.A.guards = some []) (hr : Room j X.A) (hk : k ≤ j) (hg : Gl X x) (ha : PA X (e :: es) t)
    (hdb : (x == ("__debug__" : Str)) = false := by decide) (he : starEach (e :: es) X.env = (false, eval e X.env) :: starEach es X.env := by rfl) (hpl : (backTo pos (starEach es X.env)).any (·.1) = false := by rfl) :
    PE X (.Call (.Name x p) (e :: es) [] pos) (tCall sp [] E0 t) := by
  obtain ⟨f, fd, ps, F, hm, kp, b⟩ := c.ex
  constructor
  intro pins s σ H Q I h
  refine wpAny_Call_Name_kw (ld_glob I hg hm ?_ hdb)
  refine PySem.W.callWith_K (h₀ := X.base) I.ok.mod.kin kp (thn (ha.run pos pins s σ H _ I h) (fun us s1 ⟨vs, H1, I1, r, q⟩ => ⟨I1.kIn, ?_⟩)) he hpl
  have q' : sp (vs ++ []) H1 Q E0 := q
  rw [List.append_nil] at q'
  exact run_g F hgd (hr.mono hk) b I1 r q'
theorem pe_g0 (c : CalG X.prog X.w X.K X.mg X.base k x sp) (hgd : X.A.guards = some []) (hr : Room j X.A) (hk : k ≤ j) (hg : Gl X x) (hdb : (x == ("__debug__" : Str)) = false := by decide) :
    PE X (.Call (.Name x p) [] [] pos) (tCall sp [] E0 tNil) := by
  obtain ⟨f, fd, ps, F, hm, kp, b⟩ := c.ex
  constructor
  intro pins s σ H Q I h
  refine wpAny_Call_Name_kw (ld_glob I hg hm ?_ hdb)
  exact PySem.W.callWith_K0 I.kIn kp (run_g (us := []) F hgd (hr.mono hk) b I .nil h)
end
end Bs


/-! fractions as pairs of integers: the mathematics alone -/
namespace Fq
abbrev F := Int × Int
def gI (a b : Int) : Int := ((Nat.gcd a.natAbs b.natAbs : Nat) : Int)
/-- least terms, the bottom above nought -/
def red (a b : Int) : F := (a / gI a b, b / gI a b)
/-- least terms, the bottom not nought -/
def redP (a b : Int) : F := if b < 0 then red (-a) (-b) else red a b
theorem gI_neg (a b : Int) : gI (-a) (-b) = gI a b := by simp [gI]
theorem gI_pos {a b : Int} (h : b ≠ 0) : 0 < gI a b := by
  have : 0 < Nat.gcd a.natAbs b.natAbs := Nat.gcd_pos_of_pos_right _ (by omega)
  unfold gI; omega
theorem gI_le {a b : Int} (h : b ≠ 0) : (gI a b).natAbs ≤ b.natAbs := by
  have : Nat.gcd a.natAbs b.natAbs ≤ b.natAbs := Nat.gcd_le_right _ (by omega)
  unfold gI; omega
theorem redP_pos {a b : Int} (h : 0 < b) : redP a b = red a b := if_neg (by omega)
theorem redP_neg {a b : Int} (h : b < 0) : redP a b = red (-a) (-b) := if_pos h
/-- what the program reckons: by the divisor with b's sign -/
theorem redP_eq {a b g : Int} (hb : b ≠ 0) (hg : g = if b < 0 then -gI a b else gI a b) : (a.fdiv g, b.fdiv g) = redP a b := by
  have hp := gI_pos (a := a) hb
  by_cases c : b < 0
  · rw [if_pos c] at hg
    subst hg
    rw [redP_neg c, red, gI_neg]
    have e : ∀ x : Int, x.fdiv (-gI a b) = (-x) / gI a b := fun x => by
      have := Int.neg_fdiv_neg (-x) (gI a b)
      rw [Int.neg_neg] at this
      rw [this, Int.fdiv_eq_ediv_of_nonneg _ (by omega)]
    rw [e, e]
  · rw [if_neg c] at hg
    subst hg
    rw [redP, if_neg c, red, Int.fdiv_eq_ediv_of_nonneg _ (by omega), Int.fdiv_eq_ediv_of_nonneg _ (by omega)]
/-- a fraction in least terms -/
def Ok (q : F) : Prop := 0 < q.2 ∧ Nat.gcd q.1.natAbs q.2.natAbs = 1
theorem gI_dvd_l (a b : Int) : gI a b ∣ a := by
  unfold gI
  exact Int.ofNat_dvd_left.mpr (Nat.gcd_dvd_left _ _)
theorem gI_dvd_r (a b : Int) : gI a b ∣ b := by
  unfold gI
  exact Int.ofNat_dvd_left.mpr (Nat.gcd_dvd_right _ _)
theorem red_ok {a b : Int} (h : 0 < b) : Ok (red a b) := by
  have hg := gI_pos (a := a) (b := b) (by omega)
  obtain ⟨x, hx⟩ := gI_dvd_l a b
  obtain ⟨y, hy⟩ := gI_dvd_r a b
  have e1 : a / gI a b = x := Int.ediv_eq_of_eq_mul_right (by omega) hx
  have e2 : b / gI a b = y := Int.ediv_eq_of_eq_mul_right (by omega) hy
  refine ⟨?_, ?_⟩
  · show 0 < b / gI a b
    rw [e2]
    apply Int.pos_of_mul_pos_right (a := gI a b) (b := y) ?_ hg |> id
    rw [← hy]; exact h
  · show Nat.gcd (a / gI a b).natAbs (b / gI a b).natAbs = 1
    rw [e1, e2]
    have q1 : a.natAbs = (gI a b).natAbs * x.natAbs := by
      have := congrArg Int.natAbs hx
      rwa [Int.natAbs_mul] at this
    have q2 : b.natAbs = (gI a b).natAbs * y.natAbs := by
      have := congrArg Int.natAbs hy
      rwa [Int.natAbs_mul] at this
    have q3 : (gI a b).natAbs = Nat.gcd a.natAbs b.natAbs := by unfold gI; omega
    have q4 : Nat.gcd a.natAbs b.natAbs = (gI a b).natAbs * Nat.gcd x.natAbs y.natAbs := by
      rw [q1, q2, Nat.gcd_mul_left]
    have hp : 0 < (gI a b).natAbs := by omega
    have : (gI a b).natAbs * 1 = (gI a b).natAbs * Nat.gcd x.natAbs y.natAbs := by rw [← q4, q3]; omega
    exact (Nat.eq_of_mul_eq_mul_left hp this).symm
theorem red_of {q : F} (h : Ok q) : red q.1 q.2 = q := by
  have : gI q.1 q.2 = 1 := by unfold gI; rw [h.2]; rfl
  unfold red
  rw [this, Int.ediv_one, Int.ediv_one]
/-- sums, differences, products, quotients -/
def add (q r : F) : F := red (q.1 * r.2 + r.1 * q.2) (q.2 * r.2)
def sub (q r : F) : F := red (q.1 * r.2 - r.1 * q.2) (q.2 * r.2)
def mul (q r : F) : F := red (q.1 * r.1) (q.2 * r.2)
def div (q r : F) : F := redP (q.1 * r.2) (q.2 * r.1)
def lt (q r : F) : Bool := decide (q.1 * r.2 < r.1 * q.2)
def pw (q : F) (n : Nat) : F := (q.1 ^ n, q.2 ^ n)
theorem pw_ok {q : F} (h : Ok q) (n : Nat) : Ok (pw q n) := by
  refine ⟨Int.pow_pos h.1, ?_⟩
  show Nat.gcd (q.1 ^ n).natAbs (q.2 ^ n).natAbs = 1
  rw [Int.natAbs_pow, Int.natAbs_pow]
  exact Nat.Coprime.pow n n h.2
theorem pw_succ (q : F) (n : Nat) (h : Ok q) : mul (pw q n) q = pw q (n + 1) := by
  have := red_of (pw_ok h (n + 1))
  show red (q.1 ^ n * q.1) (q.2 ^ n * q.2) = _
  rw [← Int.pow_succ, ← Int.pow_succ]
  exact this
end Fq


set_option Elab.async false
set_option linter.all false
set_option maxRecDepth 100000
set_option maxHeartbeats 2000000
namespace Rs
open PySem L2 Bs Fq
def top (i : Nat) : Stmt := PySem.Challenge.pw_rungshare_k00_whole_ratios.main.body.getD i (.Pass ⟨0, 0, 0, 0⟩)
abbrev fr (q : F) : HO := .tup [.int q.1, .int q.2]
/-- a value that is a fraction's tuple -/
def Fr (K : PySem.W.Frag) (H : Hp) (v : V) (q : F) : Prop := ∃ a, v = .ref a ∧ SqT K H a [.int q.1, .int q.2]
theorem Fr.of {K : PySem.W.Frag} {H : Hp} {p : Addr} {q : F} (h : H p = some (fr q)) : Fr K H (.ref p) q := ⟨p, rfl, SqT.of h⟩
theorem Fr.mono {K : PySem.W.Frag} {H H' : Hp} {v : V} {q : F} (h : Fr K H v q) (e : Same H H') : Fr K H' v q := by
  obtain ⟨a, rfl, s⟩ := h
  exact ⟨a, rfl, Same.t e s⟩
def Lt2 (n : Nat) (x : Int) : Prop := x.natAbs < 2 ^ n
theorem Lt2.mono {m n : Nat} {x : Int} (h : Lt2 m x) (k : m ≤ n) : Lt2 n x := Nat.lt_of_lt_of_le h (Nat.pow_le_pow_right (by decide) k)
theorem Lt2.c {m n : Nat} {x y : Int} (h : Lt2 m x) (k : Lt2 n y) (h0 : 0 < m := by decide) (h1 : 0 < n := by decide) (h2 : m + n ≤ 1000000 := by decide) : CMulW x y := wide_mul h k h0 h1 h2
/-- what the program reckons with -/
structure Dm (q : F) : Prop where
  big : Lt2 2000 q.1
  pos : 0 < q.2
  low : q.2 < 32768
theorem Dm.l2 {q : F} (h : Dm q) : Lt2 15 q.2 := by
  have := h.pos; have := h.low
  show q.2.natAbs < 32768
  omega
theorem mulPos {a b : Int} (h1 : 0 < a) (h2 : a < 32768) (h3 : 0 < b) (h4 : b < 32768) : 0 < a * b ∧ (a * b).natAbs < 1073741824 := by
  refine ⟨Int.mul_pos h1 h3, ?_⟩
  rw [Int.natAbs_mul]
  have : a.natAbs * b.natAbs ≤ 32767 * 32767 := Nat.mul_le_mul (by omega) (by omega)
  omega
structure DefN (K : PySem.W.Frag) (mg : Str → Option Value) (x : Str) (st : Stmt) (ps : List Str) : Prop where
  ex : ∃ (f : Addr) (fd : FuncData), Fun K x x st f fd ∧ mg x = some (.ref f) ∧ Binds K fd ps []
/-- the built-ins keep their names -/
structure Blt (mg : Str → Option Value) : Prop where
  isinstance : mg "isinstance" = none
  len : mg "len" = none
  int : mg "int" = none
  bool : mg "bool" = none
  tuple : mg "tuple" = none
  range : mg "range" = none
  list : mg "list" = none
  abs : mg "abs" = none
  min : mg "min" = none
  repr : mg "repr" = none
  gcd : mg "gcd" = some (.builtin "math.gcd")
section
variable {P : Program} {w : World} {K : PySem.W.Frag} {mg : Str → Option Value} {base : Heap} {k : Nat} {x : Str} {st : Stmt} {ps : List Str} {sp : Sp}
theorem DefN.cal (D : DefN K mg x st ps) (h : ∀ f fd, Fun K x x st f fd → FnOk P w K mg base CX0 k f fd ps sp) : Cal P w K mg base k x sp := by
  obtain ⟨f, fd, F, m, b⟩ := D.ex
  exact ⟨f, fd, ps, h f fd F, m, F.kp, b⟩
theorem DefN.calX (D : DefN K mg x st ps) (h : ∀ f fd, Fun K x x st f fd → FnOk P w K mg base (L2.CX P w) k f fd ps sp) : CalX P w K mg base k x sp := by
  obtain ⟨f, fd, F, m, b⟩ := D.ex
  exact ⟨f, fd, ps, h f fd F, m, F.kp, b⟩
theorem DefN.calG (D : DefN K mg x st ps) (h : ∀ f fd, Fun K x x st f fd → FnG P w K mg base k f fd ps sp) : CalG P w K mg base k x sp := by
  obtain ⟨f, fd, F, m, b⟩ := D.ex
  exact ⟨f, fd, ps, h f fd F, m, F.kp, b⟩
end
/-! ### bare -/
abbrev sReduced : Stmt := top 3
abbrev sAdded : Stmt := top 4
abbrev sLessened : Stmt := top 5
abbrev sTimed : Stmt := top 6
abbrev sDivided : Stmt := top 7
abbrev sRaised : Stmt := top 8
abbrev sBelow : Stmt := top 9
/-- reduced(top, bottom) -/
def spReduced : Sp := fun vs H Q _ => ∃ (a b : Int), vs = [.int a, .int b] ∧ b ≠ 0 ∧ b.natAbs < 1073741824 ∧ ∀ p, H p = none → Q (.ref p) (upd H p (fr (redP a b)))
/-- two fractions in, one out -/
def spOp (K : PySem.W.Frag) (op : F → F → F) (dom : F → F → Prop) : Sp := fun vs H Q _ => ∃ (x y : V) (q r : F), vs = [x, y] ∧ Fr K H x q ∧ Fr K H y r ∧ dom q r ∧ ∀ p, H p = none → Q (.ref p) (upd H p (fr (op q r)))
def dom2 (q r : F) : Prop := Dm q ∧ Dm r
def domD (q r : F) : Prop := Dm q ∧ Dm r ∧ r.1 ≠ 0 ∧ r.1.natAbs < 32768
def spLt (K : PySem.W.Frag) : Sp := fun vs H Q _ => ∃ (x y : V) (q r : F), vs = [x, y] ∧ Fr K H x q ∧ Fr K H y r ∧ dom2 q r ∧ Q (.bl (lt q r)) H
def spRaised (K : PySem.W.Frag) : Sp := fun vs H Q _ => ∃ (x : V) (q : F) (n : Int), vs = [x, .int n] ∧ Fr K H x q ∧ Lt2 6 q.1 ∧ Lt2 6 q.2 ∧ 0 ≤ n ∧ n ≤ 20 ∧ ∀ p, H p = none → Q (.ref p) (upd H p (fr (pw q n.toNat)))
section
variable {P : Program} {w : World} {K : PySem.W.Frag} {mg : Str → Option Value} {base : Heap} {f : Addr} {fd : FuncData}
theorem scReduced : FnScope ["top", "bottom", "common"] ["top", "bottom"] (defScope sReduced) := ⟨rfl, rfl, rfl, by decide +kernel, rfl, by decide +kernel, by decide +kernel⟩
theorem ok_reduced (F : Fun K "reduced" "reduced" sReduced f fd) (T : Blt mg) : FnOk P w K mg base CX0 1 f fd ["top", "bottom"] spReduced := by
  refine F.ok scReduced (fun vs H Q E h => ?_) (fun cdv A outer s H vs Q E hr h => ?_)
  · obtain ⟨a, b, rfl, _⟩ := h
    rfl
  · obtain ⟨a, b, rfl, hb, hw, k⟩ := h
    refine ⟨_, pss_cons (ps_set (i := 2) scReduced.nd rfl (Or.inl rfl) (pe_callBfun cr_gcd (by rfl) T.gcd (pa_cons (pv 0) (pa_cons (pv 1) pa_nil))))
      (pss_cons (ps_if (pt_cmpR op_lt (pv 1) pe_int (nomark _)) (pss_one (ps_set (i := 2) scReduced.nd rfl (Or.inl rfl) (pe_un un_neg (pv 2)))) pss_nil)
      (pss_one (ps_ret (pe_tup (pa_cons (pe_op op_fdivN (pv 0) (pv 2)) (pa_cons (pe_op op_fdivN (pv 1) (pv 2)) pa_nil)))))), ?_⟩
    refine ⟨_, rfl, _, rfl, a, b, rfl, ?_⟩
    refine ⟨_, rfl, _, _, rfl, rfl, _, rfl, ?_⟩
    have hg := gI_pos (a := a) hb
    have hl := gI_le (a := a) hb
    have fin : ∀ g : Int, g = (if b < 0 then -gI a b else gI a b) → ∀ σ, σ = [some (V.int a), some (V.int b), some (V.int g)] →
        tRet (tTup (tCons (tOp (rI CDivN fun i j => .int (i.fdiv j)) (tVar 0) (tVar 2)) (tCons (tOp (rI CDivN fun i j => .int (i.fdiv j)) (tVar 1) (tVar 2)) tNil))) { nx := fun _ H' => Q .non H', rt := Q } σ H := by
      rintro g eg σ rfl
      have c : CDivN a g ∧ CDivN b g := by
        have : g ≠ 0 ∧ g.natAbs < 1073741824 := by
          rw [eg]
          split <;> exact ⟨by omega, by omega⟩
        exact ⟨this, this⟩
      refine ⟨_, rfl, _, rfl, _, _, rfl, rfl, c.1, _, rfl, _, rfl, _, _, rfl, rfl, c.2, (by show 2 ≤ sizeLine; decide), fun p hp => ?_⟩
      have := k p hp
      rw [← redP_eq hb eg] at this
      exact this
    refine ite2 (fun c => ?_) (fun c => ?_)
    · refine ⟨_, rfl, _, rfl, ?_⟩
      exact fin _ (by rw [if_pos (of_decide_eq_true c)] <;> rfl) _ rfl
    · exact fin _ (by rw [if_neg (fun z => c (decide_eq_true z))] <;> rfl) _ rfl
theorem scOp : ∀ i ∈ [4, 5, 6, 7, 9], FnScope ["one", "other"] ["one", "other"] (defScope (top i)) := by
  intro i hi
  simp only [List.mem_cons, List.not_mem_nil, or_false] at hi
  rcases hi with rfl | rfl | rfl | rfl | rfl <;> exact ⟨rfl, rfl, rfl, by decide +kernel, rfl, by decide +kernel, by decide +kernel⟩

/-- one[0] * other[1] and its like: two places, the rest -/
theorem ok_added (F : Fun K "added" "added" sAdded f fd) (C : Cal P w K mg base 1 "reduced" spReduced) : FnOk P w K mg base CX0 2 f fd ["one", "other"] (spOp K add dom2) := by
  refine F.ok (scOp 4 (by decide)) (fun vs H Q E h => ?_) (fun cdv A outer s H vs Q E hr h => ?_)
  · obtain ⟨x, y, q, r, rfl, _⟩ := h
    rfl
  · obtain ⟨x, y, q, r, rfl, ⟨a, rfl, h1⟩, ⟨b, rfl, h2⟩, ⟨d1, d2⟩, k⟩ := h
    refine ⟨_, pss_one (ps_ret (pe_n C hr (by decide) (by rfl) (pa_cons (pe_op op_add (pe_op op_mulW (pe_ix ix_tup (pv 0) pe_int (fun _ _ => rfl)) (pe_ix ix_tup (pv 1) pe_int (fun _ _ => rfl))) (pe_op op_mulW (pe_ix ix_tup (pv 1) pe_int (fun _ _ => rfl)) (pe_ix ix_tup (pv 0) pe_int (fun _ _ => rfl))))
      (pa_cons (pe_op op_mulW (pe_ix ix_tup (pv 0) pe_int (fun _ _ => rfl)) (pe_ix ix_tup (pv 1) pe_int (fun _ _ => rfl))) pa_nil)))), ?_⟩
    have m := mulPos d1.pos d1.low d2.pos d2.low
    refine ⟨_, rfl, a, _, _, _, rfl, rfl, h1, atI_nat (j := 0) rfl, _, rfl, b, _, _, _, rfl, rfl, h2, atI_nat (j := 1) rfl, _, _, rfl, rfl, d1.big.c d2.l2,
      _, rfl, b, _, _, _, rfl, rfl, h2, atI_nat (j := 0) rfl, _, rfl, a, _, _, _, rfl, rfl, h1, atI_nat (j := 1) rfl, _, _, rfl, rfl, d2.big.c d1.l2, _, _, rfl, rfl,
      _, rfl, a, _, _, _, rfl, rfl, h1, atI_nat (j := 1) rfl, _, rfl, b, _, _, _, rfl, rfl, h2, atI_nat (j := 1) rfl, _, _, rfl, rfl, d1.l2.c d2.l2, ?_⟩
    refine ⟨_, _, rfl, by omega, m.2, fun p hp => ?_⟩
    rw [redP_pos m.1]
    exact k p hp
theorem ok_lessened (F : Fun K "lessened" "lessened" sLessened f fd) (C : Cal P w K mg base 1 "reduced" spReduced) : FnOk P w K mg base CX0 2 f fd ["one", "other"] (spOp K sub dom2) := by
  refine F.ok (scOp 5 (by decide)) (fun vs H Q E h => ?_) (fun cdv A outer s H vs Q E hr h => ?_)
  · obtain ⟨x, y, q, r, rfl, _⟩ := h
    rfl
  · obtain ⟨x, y, q, r, rfl, ⟨a, rfl, h1⟩, ⟨b, rfl, h2⟩, ⟨d1, d2⟩, k⟩ := h
    refine ⟨_, pss_one (ps_ret (pe_n C hr (by decide) (by rfl) (pa_cons (pe_op op_sub (pe_op op_mulW (pe_ix ix_tup (pv 0) pe_int (fun _ _ => rfl)) (pe_ix ix_tup (pv 1) pe_int (fun _ _ => rfl))) (pe_op op_mulW (pe_ix ix_tup (pv 1) pe_int (fun _ _ => rfl)) (pe_ix ix_tup (pv 0) pe_int (fun _ _ => rfl))))
      (pa_cons (pe_op op_mulW (pe_ix ix_tup (pv 0) pe_int (fun _ _ => rfl)) (pe_ix ix_tup (pv 1) pe_int (fun _ _ => rfl))) pa_nil)))), ?_⟩
    have m := mulPos d1.pos d1.low d2.pos d2.low
    refine ⟨_, rfl, a, _, _, _, rfl, rfl, h1, atI_nat (j := 0) rfl, _, rfl, b, _, _, _, rfl, rfl, h2, atI_nat (j := 1) rfl, _, _, rfl, rfl, d1.big.c d2.l2,
      _, rfl, b, _, _, _, rfl, rfl, h2, atI_nat (j := 0) rfl, _, rfl, a, _, _, _, rfl, rfl, h1, atI_nat (j := 1) rfl, _, _, rfl, rfl, d2.big.c d1.l2, _, _, rfl, rfl,
      _, rfl, a, _, _, _, rfl, rfl, h1, atI_nat (j := 1) rfl, _, rfl, b, _, _, _, rfl, rfl, h2, atI_nat (j := 1) rfl, _, _, rfl, rfl, d1.l2.c d2.l2, ?_⟩
    refine ⟨_, _, rfl, by omega, m.2, fun p hp => ?_⟩
    rw [redP_pos m.1]
    exact k p hp
theorem ok_timed (F : Fun K "timed" "timed" sTimed f fd) (C : Cal P w K mg base 1 "reduced" spReduced) : FnOk P w K mg base CX0 2 f fd ["one", "other"] (spOp K mul dom2) := by
  refine F.ok (scOp 6 (by decide)) (fun vs H Q E h => ?_) (fun cdv A outer s H vs Q E hr h => ?_)
  · obtain ⟨x, y, q, r, rfl, _⟩ := h
    rfl
  · obtain ⟨x, y, q, r, rfl, ⟨a, rfl, h1⟩, ⟨b, rfl, h2⟩, ⟨d1, d2⟩, k⟩ := h
    refine ⟨_, pss_one (ps_ret (pe_n C hr (by decide) (by rfl) (pa_cons (pe_op op_mulW (pe_ix ix_tup (pv 0) pe_int (fun _ _ => rfl)) (pe_ix ix_tup (pv 1) pe_int (fun _ _ => rfl)))
      (pa_cons (pe_op op_mulW (pe_ix ix_tup (pv 0) pe_int (fun _ _ => rfl)) (pe_ix ix_tup (pv 1) pe_int (fun _ _ => rfl))) pa_nil)))), ?_⟩
    have m := mulPos d1.pos d1.low d2.pos d2.low
    refine ⟨_, rfl, a, _, _, _, rfl, rfl, h1, atI_nat (j := 0) rfl, _, rfl, b, _, _, _, rfl, rfl, h2, atI_nat (j := 0) rfl, _, _, rfl, rfl, d1.big.c d2.big,
      _, rfl, a, _, _, _, rfl, rfl, h1, atI_nat (j := 1) rfl, _, rfl, b, _, _, _, rfl, rfl, h2, atI_nat (j := 1) rfl, _, _, rfl, rfl, d1.l2.c d2.l2, ?_⟩
    refine ⟨_, _, rfl, by omega, m.2, fun p hp => ?_⟩
    rw [redP_pos m.1]
    exact k p hp
theorem ok_divided (F : Fun K "divided" "divided" sDivided f fd) (C : Cal P w K mg base 1 "reduced" spReduced) : FnOk P w K mg base CX0 2 f fd ["one", "other"] (spOp K div domD) := by
  refine F.ok (scOp 7 (by decide)) (fun vs H Q E h => ?_) (fun cdv A outer s H vs Q E hr h => ?_)
  · obtain ⟨x, y, q, r, rfl, _⟩ := h
    rfl
  · obtain ⟨x, y, q, r, rfl, ⟨a, rfl, h1⟩, ⟨b, rfl, h2⟩, ⟨d1, d2, n0, nl⟩, k⟩ := h
    refine ⟨_, pss_one (ps_ret (pe_n C hr (by decide) (by rfl) (pa_cons (pe_op op_mulW (pe_ix ix_tup (pv 0) pe_int (fun _ _ => rfl)) (pe_ix ix_tup (pv 1) pe_int (fun _ _ => rfl)))
      (pa_cons (pe_op op_mulW (pe_ix ix_tup (pv 0) pe_int (fun _ _ => rfl)) (pe_ix ix_tup (pv 1) pe_int (fun _ _ => rfl))) pa_nil)))), ?_⟩
    refine ⟨_, rfl, a, _, _, _, rfl, rfl, h1, atI_nat (j := 0) rfl, _, rfl, b, _, _, _, rfl, rfl, h2, atI_nat (j := 1) rfl, _, _, rfl, rfl, d1.big.c d2.l2,
      _, rfl, a, _, _, _, rfl, rfl, h1, atI_nat (j := 1) rfl, _, rfl, b, _, _, _, rfl, rfl, h2, atI_nat (j := 0) rfl, _, _, rfl, rfl, d1.l2.c d2.big, ?_⟩
    have z : q.2 * r.1 ≠ 0 := Int.mul_ne_zero (by have := d1.pos; omega) n0
    refine ⟨_, _, rfl, z, ?_, fun p hp => k p hp⟩
    have := d1.pos
    have := d1.low
    rw [Int.natAbs_mul]
    have : q.2.natAbs * r.1.natAbs ≤ 32767 * 32767 := Nat.mul_le_mul (by omega) (by omega)
    omega
theorem ok_below (F : Fun K "is_below" "is_below" sBelow f fd) : FnOk P w K mg base CX0 1 f fd ["one", "other"] (spLt K) := by
  refine F.ok (scOp 9 (by decide)) (fun vs H Q E h => ?_) (fun cdv A outer s H vs Q E hr h => ?_)
  · obtain ⟨x, y, q, r, rfl, _⟩ := h
    rfl
  · obtain ⟨x, y, q, r, rfl, ⟨a, rfl, h1⟩, ⟨b, rfl, h2⟩, ⟨d1, d2⟩, k⟩ := h
    refine ⟨_, pss_one (ps_ret (pe_cmpR op_lt (pe_op op_mulW (pe_ix ix_tup (pv 0) pe_int (fun _ _ => rfl)) (pe_ix ix_tup (pv 1) pe_int (fun _ _ => rfl))) (pe_op op_mulW (pe_ix ix_tup (pv 1) pe_int (fun _ _ => rfl)) (pe_ix ix_tup (pv 0) pe_int (fun _ _ => rfl))) (nomark _))), ?_⟩
    exact ⟨_, rfl, a, _, _, _, rfl, rfl, h1, atI_nat (j := 0) rfl, _, rfl, b, _, _, _, rfl, rfl, h2, atI_nat (j := 1) rfl, _, _, rfl, rfl, d1.big.c d2.l2,
      _, rfl, b, _, _, _, rfl, rfl, h2, atI_nat (j := 0) rfl, _, rfl, a, _, _, _, rfl, rfl, h1, atI_nat (j := 1) rfl, _, _, rfl, rfl, d2.big.c d1.l2, _, _, rfl, rfl, k⟩
theorem scRaised : FnScope ["one", "number", "top", "bottom", "_"] ["one", "number"] (defScope sRaised) := ⟨rfl, rfl, rfl, by decide +kernel, rfl, by decide +kernel, by decide +kernel⟩
theorem pow_lt2 {x : Int} {n : Nat} (h : Lt2 6 x) (hn : n ≤ 20) : Lt2 121 (x ^ n) := by
  have h' : x.natAbs < 64 := h
  show (x ^ n).natAbs < 2 ^ 121
  rw [Int.natAbs_pow]
  have a := Nat.pow_le_pow_left (show x.natAbs ≤ 64 by omega) n
  have b := Nat.pow_le_pow_right (show 0 < 64 by decide) hn
  have c : (64 : Nat) ^ 20 < 2 ^ 121 := by decide
  omega
theorem ok_raised (F : Fun K "raised" "raised" sRaised f fd) (T : Blt mg) : FnOk P w K mg base CX0 1 f fd ["one", "number"] (spRaised K) := by
  refine F.ok scRaised (fun vs H Q E h => ?_) (fun cdv A outer s H vs Q E hr h => ?_)
  · obtain ⟨x, q, n, rfl, _⟩ := h
    rfl
  · obtain ⟨x, q, n, rfl, ⟨a, rfl, h1⟩, b1, b2, n0, n1, k⟩ := h
    refine ⟨_, pss_cons (ps_set (i := 2) scRaised.nd rfl (Or.inl rfl) pe_int) (pss_cons (ps_set (i := 3) scRaised.nd rfl (Or.inl rfl) pe_int)
      (pss_cons (ps_for PassesOwn.never rfl (pi_range1 rfl T.range (pa_cons (pv 1) pa_nil)) (pg_name (i := 4) scRaised.nd rfl (Or.inl rfl))
        (pss_cons (ps_aug (i := 2) scRaised.nd rfl (.inl rfl) (pe_ix ix_tup (pv 0) pe_int (fun _ _ => rfl)) ip_mul)
          (pss_one (ps_aug (i := 3) scRaised.nd rfl (.inl rfl) (pe_ix ix_tup (pv 0) pe_int (fun _ _ => rfl)) ip_mul))))
      (pss_one (ps_ret (pe_tup (pa_cons (pv 2) (pa_cons (pv 3) pa_nil))))))), ?_⟩
    refine ⟨_, rfl, n, rfl, by omega, by omega, for_range (n := n.toNat) (fun i σ H' => H' = H ∧ ∃ v, σ = [some (V.ref a), some (V.int n), some (V.int (q.1 ^ i)), some (V.int (q.2 ^ i)), v]) ⟨rfl, none, by rw [Int.pow_zero, Int.pow_zero]; rfl⟩ ?_ ?_⟩
    · rintro i σ H' hi ⟨rfl, v, rfl⟩
      have hi2 : i ≤ 20 := by omega
      refine ⟨_, rfl, _, rfl, a, _, _, _, rfl, rfl, h1, atI_nat (j := 0) rfl, _, _, rfl, rfl, (pow_lt2 b1 hi2).c b1, _, rfl, _, rfl, a, _, _, _, rfl, rfl, h1, atI_nat (j := 1) rfl, _, _, rfl, rfl, (pow_lt2 b2 hi2).c b2, ?_⟩
      refine ⟨rfl, some (V.int (0 + i)), ?_⟩
      rw [Int.pow_succ, Int.pow_succ]
      rfl
    · rintro σ H' ⟨rfl, v, rfl⟩
      exact ⟨_, rfl, _, rfl, (by show 2 ≤ sizeLine; decide), fun p hp => k p hp⟩
end
end Rs


set_option Elab.async false
set_option linter.all false
set_option maxRecDepth 100000
set_option maxHeartbeats 400000
namespace Rs
open PySem L2 Bs Fq
/-! ### data and kinds -/
def dF (q : F) : PyData := .tuple [.int q.1, .int q.2]
theorem Fr.dp {K : PySem.W.Frag} {H : Hp} {v : V} {q : F} (h : Fr K H v q) : Dp K H v (dF q) := by
  obtain ⟨a, rfl, s⟩ := h
  exact .tup s (.cons (.int _) (.cons (.int _) .nil))
def tyD : PyData → String
  | .none => "NoneType" | .bool _ => "bool" | .int _ => "int" | .str _ => "str" | .list _ => "list" | .tuple _ => "tuple" | .dict _ => "dict"
theorem _root_.L2.Dp.ty {K : PySem.W.Frag} {H : Hp} {v : V} {d : PyData} (h : Dp K H v d) : TyX K H v (.type (tyD d)) := by
  cases h with
  | non => exact .base .non
  | bl b => exact .base (.bl b)
  | int i => exact .base (.int i)
  | str x => exact .base (.str x)
  | lst s _ =>
    rcases s with (s | ⟨o, s⟩) | ⟨o, its, n, e, c, _⟩
    · exact .base (.lst s)
    · exact .base (.frz s)
    · exact .kList e c
  | tup s _ =>
    rcases s with (s | ⟨o, s⟩) | ⟨o, its, n, e, c, _⟩
    · exact .base (.tup s)
    · exact .fTuple s
    · exact .kTuple e c
def wholeD : PyData → Bool
  | .int _ => true
  | _ => false
def fracD : PyData → Bool
  | .tuple [.int a, .int b] => decide (1 ≤ b) && decide (gI a b = 1)
  | _ => false
def betwD (lo hi : Int) : PyData → Bool
  | .int i => decide (lo ≤ i) && decide (i ≤ hi)
  | _ => false
theorem fracD_dF {q : F} (h : Ok q) : fracD (dF q) = true := by
  have : gI q.1 q.2 = 1 := by unfold gI; rw [h.2]; rfl
  simp only [fracD, dF, Bool.and_eq_true, decide_eq_true_eq]
  exact ⟨by have := h.1; omega, this⟩
theorem fracD_true {d : PyData} (h : fracD d = true) : ∃ q, d = dF q ∧ Ok q := by
  unfold fracD at h
  split at h
  · rename_i a b
    simp only [Bool.and_eq_true, decide_eq_true_eq] at h
    refine ⟨(a, b), rfl, by show 0 < b; omega, ?_⟩
    have := h.2
    unfold gI at this
    show Nat.gcd a.natAbs b.natAbs = 1
    omega
  · cases h
def isInt : PyData → Bool
  | .int _ => true
  | .bool _ => true
  | _ => false
theorem kitI (K : PySem.W.Frag) (d : PyData) : PySem.W.kitOne K (.type (tyD d)) (.type "int") = some (isInt d) := by
  cases d with
  | none => exact kit_ty (a := "NoneType") (b := "int") (r := false) (by decide +kernel)
  | bool _ => exact kit_ty (a := "bool") (b := "int") (r := true) (by decide +kernel)
  | int _ => exact kit_ty (a := "int") (b := "int") (r := true) (by decide +kernel)
  | str _ => exact kit_ty (a := "str") (b := "int") (r := false) (by decide +kernel)
  | list _ => exact kit_ty (a := "list") (b := "int") (r := false) (by decide +kernel)
  | tuple _ => exact kit_ty (a := "tuple") (b := "int") (r := false) (by decide +kernel)
  | dict _ => exact kit_ty (a := "dict") (b := "int") (r := false) (by decide +kernel)
def isBool : PyData → Bool
  | .bool _ => true
  | _ => false
theorem kitB' (K : PySem.W.Frag) (d : PyData) : PySem.W.kitOne K (.type (tyD d)) (.type "bool") = some (isBool d) := by
  cases d with
  | none => exact kit_ty (a := "NoneType") (b := "bool") (r := false) (by decide +kernel)
  | bool _ => exact kit_ty (a := "bool") (b := "bool") (r := true) (by decide +kernel)
  | int _ => exact kit_ty (a := "int") (b := "bool") (r := false) (by decide +kernel)
  | str _ => exact kit_ty (a := "str") (b := "bool") (r := false) (by decide +kernel)
  | list _ => exact kit_ty (a := "list") (b := "bool") (r := false) (by decide +kernel)
  | tuple _ => exact kit_ty (a := "tuple") (b := "bool") (r := false) (by decide +kernel)
  | dict _ => exact kit_ty (a := "dict") (b := "bool") (r := false) (by decide +kernel)
def isTup : PyData → Bool
  | .tuple _ => true
  | _ => false
theorem kitT (K : PySem.W.Frag) (d : PyData) : PySem.W.kitOne K (.type (tyD d)) (.type "tuple") = some (isTup d) := by
  cases d with
  | none => exact kit_ty (a := "NoneType") (b := "tuple") (r := false) (by decide +kernel)
  | bool _ => exact kit_ty (a := "bool") (b := "tuple") (r := false) (by decide +kernel)
  | int _ => exact kit_ty (a := "int") (b := "tuple") (r := false) (by decide +kernel)
  | str _ => exact kit_ty (a := "str") (b := "tuple") (r := false) (by decide +kernel)
  | list _ => exact kit_ty (a := "list") (b := "tuple") (r := false) (by decide +kernel)
  | tuple _ => exact kit_ty (a := "tuple") (b := "tuple") (r := true) (by decide +kernel)
  | dict _ => exact kit_ty (a := "dict") (b := "tuple") (r := false) (by decide +kernel)
abbrev sWhole : Stmt := top 15
abbrev sBetween : Stmt := top 16
abbrev sFraction : Stmt := top 17
abbrev sNeedF : Stmt := top 18
abbrev sNeedB : Stmt := top 19
abbrev sRatio : Stmt := top 20
abbrev sPlus : Stmt := top 21
abbrev sLess : Stmt := top 22
abbrev sTimes : Stmt := top 23
abbrev sOver : Stmt := top 24
abbrev sIsLess : Stmt := top 25
abbrev sPower : Stmt := top 26
def spWhole (K : PySem.W.Frag) : Sp := fun vs H Q _ => ∃ (v : V) (d : PyData), vs = [v] ∧ Dp K H v d ∧ Q (.bl (wholeD d)) H
def spBetween (K : PySem.W.Frag) : Sp := fun vs H Q _ => ∃ (v : V) (d : PyData) (lo hi : Int), vs = [v, .int lo, .int hi] ∧ Dp K H v d ∧ Q (.bl (betwD lo hi d)) H
def spFraction (K : PySem.W.Frag) : Sp := fun vs H Q _ => ∃ (v : V) (d : PyData), vs = [v] ∧ Dp K H v d ∧ Q (.bl (fracD d)) H
section
variable {P : Program} {w : World} {K : PySem.W.Frag} {mg : Str → Option Value} {base : Heap} {f : Addr} {fd : FuncData}
theorem sc15 : FnScope ["thing"] ["thing"] (defScope sWhole) := ⟨rfl, rfl, rfl, by decide +kernel, rfl, by decide +kernel, by decide +kernel⟩
theorem ok_whole (F : Fun K "is_whole" "is_whole" sWhole f fd) (T : Blt mg) : FnOk P w K mg base CX0 1 f fd ["thing"] (spWhole K) := by
  refine F.ok sc15 (fun vs H Q E h => ?_) (fun cdv A outer s H vs Q E hr h => ?_)
  · obtain ⟨v, d, rfl, _⟩ := h
    rfl
  · obtain ⟨v, d, rfl, hd, k⟩ := h
    refine ⟨_, pss_one (ps_ret (pe_and (pe_callB call_isi (by rfl) T.isinstance (by decide +kernel) (pa_cons (pv 0) (pa_cons (pe_bltn (v := .ty "int") (by rfl) T.int (by decide +kernel) rfl) pa_nil)))
      (pe_one (pe_not (pe_callB call_isi (by rfl) T.isinstance (by decide +kernel) (pa_cons (pv 0) (pa_cons (pe_bltn (v := .ty "bool") (by rfl) T.bool (by decide +kernel) rfl) pa_nil))))))), ?_⟩
    refine ⟨v, rfl, v, _, _, _, _, rfl, .ty _, hd.ty, kitI K d, _, rfl, ?_⟩
    have second : ∀ b : Bool, wholeD d = (!isBool d) → tNotV (tCB (rIsi K) (tCons (tVar 0) (tCons (tC (.ty "bool")) tNil))) (start ["thing"] [v]) H Q := fun b e => by
      refine ⟨v, rfl, v, _, _, _, _, rfl, .ty _, hd.ty, kitB' K d, _, rfl, ?_⟩
      rw [← e]
      exact k
    cases d with
    | int i => exact iteT (second true rfl)
    | bool b => exact iteT (second true rfl)
    | none => exact iteF k
    | str x => exact iteF k
    | list xs => exact iteF k
    | tuple xs => exact iteF k
    | dict xs => exact iteF k

theorem sc16 : FnScope ["thing", "low", "high"] ["thing", "low", "high"] (defScope sBetween) := ⟨rfl, rfl, rfl, by decide +kernel, rfl, by decide +kernel, by decide +kernel⟩
theorem ok_between (F : Fun K "is_between" "is_between" sBetween f fd) (W : Cal P w K mg base 1 "is_whole" (spWhole K)) : FnOk P w K mg base CX0 2 f fd ["thing", "low", "high"] (spBetween K) := by
  refine F.ok sc16 (fun vs H Q E h => ?_) (fun cdv A outer s H vs Q E hr h => ?_)
  · obtain ⟨v, d, lo, hi, rfl, _⟩ := h
    rfl
  · obtain ⟨v, d, lo, hi, rfl, hd, k⟩ := h
    refine ⟨_, pss_one (ps_ret (pe_and (pe_n W hr (by decide) (by rfl) (pa_cons (pv 0) pa_nil)) (pe_and (pe_cmpR op_le (pv 1) (pv 0) (nomark _)) (pe_one (pe_cmpR op_le (pv 0) (pv 2) (nomark _)))))), ?_⟩
    refine ⟨v, rfl, v, d, rfl, hd, _, rfl, ?_⟩
    cases d with
    | int i =>
      cases hd
      refine iteT ⟨_, rfl, _, rfl, _, _, rfl, rfl, _, rfl, ?_⟩
      have e : betwD lo hi (.int i) = (decide (lo ≤ i) && decide (i ≤ hi)) := rfl
      refine ite2 (fun c => ⟨_, rfl, _, rfl, _, _, rfl, rfl, ?_⟩) (fun c => ?_)
      · rw [e, c, Bool.true_and] at k
        exact k
      · rw [e, Bool.eq_false_iff.mpr c, Bool.false_and] at k
        exact k
    | bool b => exact iteF k
    | none => exact iteF k
    | str x => exact iteF k
    | list xs => exact iteF k
    | tuple xs => exact iteF k
    | dict xs => exact iteF k
theorem sc17 : FnScope ["thing", "top", "bottom"] ["thing"] (defScope sFraction) := ⟨rfl, rfl, rfl, by decide +kernel, rfl, by decide +kernel, by decide +kernel⟩
theorem fracD_not {d : PyData} (h : isTup d = false) : fracD d = false := by
  cases d <;> first | rfl | cases h
theorem fracD_len : ∀ {ds : List PyData}, ds.length ≠ 2 → fracD (.tuple ds) = false
  | [], _ => rfl
  | [d], _ => by cases d <;> rfl
  | [_, _], h => absurd rfl h
  | a :: b :: _ :: _, _ => by cases a <;> cases b <;> rfl
theorem fracD_first {d e : PyData} (h : wholeD d = false) : fracD (.tuple [d, e]) = false := by
  cases d <;> first | rfl | cases h
theorem fracD_second {d e : PyData} (h : wholeD e = false) : fracD (.tuple [d, e]) = false := by
  cases d <;> cases e <;> first | rfl | cases h
theorem wholeD_true {d : PyData} (h : wholeD d = true) : ∃ i, d = .int i := by
  cases d with
  | int i => exact ⟨i, rfl⟩
  | _ => cases h
theorem dpAll_len {K : PySem.W.Frag} {H : Hp} : ∀ {ds : List PyData} {xs : List V}, DpAll K H xs ds → xs.length = ds.length
  | [], _, .nil => rfl
  | _ :: _, _, .cons _ r => congrArg Nat.succ (dpAll_len r)
theorem two_of {K : PySem.W.Frag} {H : Hp} {xs : List V} {ds : List PyData} (h : DpAll K H xs ds) (l : xs.length = 2) : ∃ v1 v2 d1 d2, xs = [v1, v2] ∧ ds = [d1, d2] ∧ Dp K H v1 d1 ∧ Dp K H v2 d2 := by
  cases h with
  | nil => cases l
  | cons h1 h2 =>
    cases h2 with
    | nil => cases l
    | cons h3 h4 =>
      cases h4 with
      | nil => exact ⟨_, _, _, _, rfl, rfl, h1, h3⟩
      | cons h5 h6 => simp at l
theorem ok_fraction (F : Fun K "is_fraction" "is_fraction" sFraction f fd) (T : Blt mg) (W : Cal P w K mg base 1 "is_whole" (spWhole K)) : FnOk P w K mg base CX0 2 f fd ["thing"] (spFraction K) := by
  refine F.ok sc17 (fun vs H Q E h => ?_) (fun cdv A outer s H vs Q E hr h => ?_)
  · obtain ⟨v, d, rfl, _⟩ := h
    rfl
  · obtain ⟨v, d, rfl, hd, k⟩ := h
    refine ⟨_, pss_cons (ps_if (PW.pt (pw_or (pt_not (pt_val (pe_callB call_isi (by rfl) T.isinstance (by decide +kernel) (pa_cons (pv 0) (pa_cons (pe_bltn (v := .ty "tuple") (by rfl) T.tuple (by decide +kernel) rfl) pa_nil)))))
        (pw_or1 (pt_cmpR op_ne (pe_callB call_len_seq (by rfl) T.len PySem.boot_len (pa_cons (pv 0) pa_nil)) pe_int (nomark _))))) (pss_one (ps_ret pe_bl)) pss_nil)
      (pss_cons (ps_asg (pv 0) (pg_tup rfl (pgs_cons (pg_name (i := 1) sc17.nd rfl (.inl rfl)) (pgs_cons (pg_name (i := 2) sc17.nd rfl (.inl rfl)) pgs_nil))))
      (pss_one (ps_ret (pe_and (pe_n W hr (by decide) (by rfl) (pa_cons (pv 1) pa_nil)) (pe_and (pe_n W hr (by decide) (by rfl) (pa_cons (pv 2) pa_nil))
        (pe_and (pe_cmpR op_ge (pv 2) pe_int (nomark _)) (pe_one (pe_cmpR op_eq (pe_callBfun cr_gcd (by rfl) T.gcd (pa_cons (pv 1) (pa_cons (pv 2) pa_nil))) pe_int (nomark _))))))))), ?_⟩
    refine ⟨v, rfl, v, _, _, _, _, rfl, .ty _, hd.ty, kitT K d, _, rfl, ?_⟩
    cases ht : isTup d with
    | false =>
      rw [fracD_not ht] at k
      exact iteT (iteT k)
    | true =>
      refine iteF ?_
      cases hd with
      | tup hS hA =>
        rename_i a xs ds
        refine ⟨_, rfl, a, _, rfl, .inr hS, rfl, _, rfl, ?_⟩
        refine ite2 (fun c => ?_) (fun c => ?_)
        · have l := dpAll_len hA
          rw [fracD_len (fun z => by rw [← l] at z; simp [z] at c)] at k
          exact k
        · have l := dpAll_len hA
          have l2 : xs.length = 2 := by
            have c2 : ((xs.length : Nat) : Int) = 2 := by simpa using c
            omega
          obtain ⟨v1, v2, d1, d2, rfl, rfl, h1, h2⟩ := two_of hA l2
          refine ⟨_, rfl, a, [v1, v2], rfl, hS, rfl, v1, [v2], rfl, v2, [], rfl, rfl, ?_⟩
          refine ⟨_, rfl, v1, d1, rfl, h1, _, rfl, ?_⟩
          cases hw1 : wholeD d1 with
          | false =>
            rw [fracD_first hw1] at k
            exact iteF k
          | true =>
            refine iteT ⟨_, rfl, v2, d2, rfl, h2, _, rfl, ?_⟩
            cases hw2 : wholeD d2 with
            | false =>
              rw [fracD_second hw2] at k
              exact iteF k
            | true =>
              obtain ⟨i1, rfl⟩ := wholeD_true hw1
              obtain ⟨i2, rfl⟩ := wholeD_true hw2
              cases h1
              cases h2
              have e : fracD (.tuple [.int i1, .int i2]) = (decide (1 ≤ i2) && decide (gI i1 i2 = 1)) := rfl
              refine iteT ⟨_, rfl, _, _, rfl, rfl, _, rfl, ?_⟩
              refine ite2 (fun c1 => ⟨_, rfl, _, rfl, i1, i2, rfl, rfl, ?_⟩) (fun c1 => ?_)
              · rw [e, show decide (1 ≤ i2) = true from c1, Bool.true_and] at k
                have e3 : decide (V.int ((Nat.gcd i1.natAbs i2.natAbs : Nat) : Int) = V.int 1) = decide (gI i1 i2 = 1) := by
                  unfold gI
                  simp only [V.int.injEq]
                rw [← e3] at k
                exact k
              · rw [e, show decide (1 ≤ i2) = false from Bool.eq_false_iff.mpr c1, Bool.false_and] at k
                exact k
      | non => cases ht
      | bl b => cases ht
      | int b => cases ht
      | str b => cases ht
      | lst _ _ => cases ht
end
end Rs


set_option Elab.async false
set_option linter.all false
set_option maxRecDepth 100000
set_option maxHeartbeats 400000
namespace Rs
open PySem L2 Bs Fq
/-! ### errors -/
/-- the class x, its __init__: self.given = given -/
structure Err (K : PySem.W.Frag) (mg : Str → Option Value) (x : Str) (qual : Str) (st : Stmt) (C : Addr) : Prop where
  gC : mg x = some (.ref C)
  oex : OexC K C
  xf : XfC K C
  no : PySem.W.findIn K (.ref C) "given" = some none
  ini : ∃ (fI : Addr) (fd : FuncData), PySem.W.findIn K (.ref C) "__init__" = some (some (.ref fI)) ∧ PySem.W.typeIn K (.ref fI) = some (.type "function") ∧ Fun K "__init__" qual st fI fd ∧ Binds K fd ["self", "given"] []
abbrev sInitF : Stmt := inClass (top 12) 0
abbrev sInitN : Stmt := inClass (top 13) 0
def spInit (K : PySem.W.Frag) (C : Addr) : Sp := fun vs H Q _ => ∃ (a : Addr) (y : V), vs = [.ref a, y] ∧ H a = some (exo a C none) ∧
  ∀ dx, H dx = none → dx ≠ a → Q .non (upd (upd H dx (exd dx [("given", y)])) a (exo a C (some dx)))
theorem heap_end {H : Hp} {a d : Addr} {o1 o2 o3 o4 : HO} (h : H a = none) (n : d ≠ a) : upd (del (upd (upd (upd H a o1) d o2) a o3) a) d o4 = upd H d o4 := by
  funext b
  by_cases e1 : b = d
  · subst e1
    rw [upd_same, upd_same]
  · rw [upd_ne e1, upd_ne e1]
    by_cases e2 : b = a
    · subst e2
      rw [del_same, h]
    · rw [del_ne e2, upd_ne e2, upd_ne e1, upd_ne e2]
section
variable {P : Program} {w : World} {K : PySem.W.Frag} {mg : Str → Option Value} {base : Heap} {f : Addr} {fd : FuncData}
theorem scInitF : FnScope ["self", "given"] ["self", "given"] (defScope sInitF) := ⟨rfl, rfl, rfl, by decide +kernel, rfl, by decide +kernel, by decide +kernel⟩
theorem scInitN : FnScope ["self", "given"] ["self", "given"] (defScope sInitN) := ⟨rfl, rfl, rfl, by decide +kernel, rfl, by decide +kernel, by decide +kernel⟩
theorem ok_initF {C : Addr} {q : Str} (F : Fun K "__init__" q sInitF f fd) (T : OexC K C) (no : PySem.W.findIn K (.ref C) "given" = some none) : FnOk P w K mg base CX0 1 f fd ["self", "given"] (spInit K C) := by
  refine F.ok scInitF (fun vs H Q E h => ?_) (fun cdv A outer s H vs Q E hr h => ?_)
  · obtain ⟨a, y, rfl, _⟩ := h
    rfl
  · obtain ⟨a, y, rfl, ha, k⟩ := h
    exact ⟨_, pss_one (ps_ost (pv 0) (pv 1)), _, rfl, _, rfl, a, C, rfl, T, no, .inl ⟨ha, fun dx n1 n2 => k dx n1 n2⟩⟩
theorem ok_initN {C : Addr} {q : Str} (F : Fun K "__init__" q sInitN f fd) (T : OexC K C) (no : PySem.W.findIn K (.ref C) "given" = some none) : FnOk P w K mg base CX0 1 f fd ["self", "given"] (spInit K C) := by
  refine F.ok scInitN (fun vs H Q E h => ?_) (fun cdv A outer s H vs Q E hr h => ?_)
  · obtain ⟨a, y, rfl, _⟩ := h
    rfl
  · obtain ⟨a, y, rfl, ha, k⟩ := h
    exact ⟨_, pss_one (ps_ost (pv 0) (pv 1)), _, rfl, _, rfl, a, C, rfl, T, no, .inl ⟨ha, fun dx n1 n2 => k dx n1 n2⟩⟩
/-- such an error may be made by its name -/
structure ErrOk (P : Program) (w : World) (K : PySem.W.Frag) (mg : Str → Option Value) (base : Heap) (x : Str) (C : Addr) : Prop where
  gC : mg x = some (.ref C)
  oex : OexC K C
  ini : ∃ (fI : Addr) (fd : FuncData), PySem.W.findIn K (.ref C) "__init__" = some (some (.ref fI)) ∧ PySem.W.typeIn K (.ref fI) = some (.type "function") ∧ FnOk P w K mg base CX0 1 fI fd ["self", "given"] (spInit K C) ∧ Binds K fd ["self", "given"] []
theorem Err.okF {x q : Str} {C : Addr} (T : Err K mg x q sInitF C) : ErrOk P w K mg base x C := by
  obtain ⟨fI, fd, a, b, F, bi⟩ := T.ini
  exact ⟨T.gC, T.oex, fI, fd, a, b, ok_initF F T.oex T.no, bi⟩
theorem Err.okN {x q : Str} {C : Addr} (T : Err K mg x q sInitN C) : ErrOk P w K mg base x C := by
  obtain ⟨fI, fd, a, b, F, bi⟩ := T.ini
  exact ⟨T.gC, T.oex, fI, fd, a, b, ok_initN F T.oex T.no, bi⟩
end
/-- the way out with an error of the class at C that carries v -/
def Out (E : XK) (C : Addr) (v : V) (H : Hp) : Prop := ∀ d : Addr, H d = none → E (.ref C) (some d) (upd H d (.xd [("given", v)]))
theorem pe_weak {X : Cx} {e : Expr} {te : TE} (he : PE X e te) : PE X e (fun σ H Q => ∃ Q0 : VK, te σ H Q0 ∧ ∀ v H1, Q0 v H1 → Q v H1) :=
  ⟨fun pins s σ H Q I ⟨Q0, h, m⟩ => PySem.wpAny_mono (he.run pins s σ H Q0 I h) (fun u s' ⟨v, H1, I1, r, q⟩ => ⟨v, H1, I1, r, m _ _ q⟩) (fun _ _ z => z)⟩
/-- raise x(e) -/
def tRz (C : Addr) (W : WX) (te : TE) : TS := fun _ σ H => te σ H fun v H1 => ∀ d : Addr, H1 d = none → W (.ref C) (some d) σ (upd H1 d (.xd [("given", v)]))
theorem ps_rz {X : Cx} {x : Str} {C : Addr} {j : Nat} {e : Expr} {te : TE} {W : WX} {p pos pos2 : Pos} (hc : X.calm = true) (T : ErrOk X.prog X.w X.K X.mg X.base x C) (hr : Room j X.A) (hj : 2 ≤ j) (tk : Takes X W) (he : PE X e te) (hg : Gl X x)
    (hdb : (x == ("__debug__" : Str)) = false := by decide) (hs : starEach (e :: []) X.env = (false, eval e X.env) :: starEach [] X.env := by rfl) (hpl : (backTo pos (starEach [] X.env)).any (·.1) = false := by rfl) :
    PS X (.Raise (some (.Call (.Name x p) [e] [] pos)) none pos2) (tRz C W te) := by
  obtain ⟨fI, fd, iC, tI, F1, b⟩ := T.ini
  have h := ps_raise (pos := pos2) hc tk (pmk_oex (x := x) (p := p) (pos := pos) T.oex iC tI F1 (hr.mono hj) b .nil pass0 hg T.gC (pa_cons (pe_weak he) pa_nil hs) hdb hs hpl)
  constructor
  intro pins s σ H D I q
  refine h.run pins s σ H D I ?_
  refine ⟨_, q, fun v H1 z => ?_⟩
  refine ⟨(by show 1 ≤ 1000; decide), fun a ha => ⟨a, v, rfl, upd_same, fun dx n1 n2 => ⟨rfl, dx, [("given", v)], upd_same, ?_, ?_, ?_⟩⟩⟩
  · rw [upd_ne n2]
    exact upd_same
  · rw [upd_ne n2] at n1
    exact n1
  · rw [upd_ne n2] at n1
    show W _ _ _ (upd (del _ a) dx _)
    rw [heap_end ha n2]
    exact z dx n1
end Rs


set_option Elab.async false
set_option linter.all false
set_option maxRecDepth 100000
set_option maxHeartbeats 400000
namespace Rs
open PySem L2 Bs Fq
theorem dp_fr {K : PySem.W.Frag} {H : Hp} {v : V} {q : F} (h : Dp K H v (dF q)) : Fr K H v q := by
  cases h with
  | tup s a =>
    cases a with
    | cons h1 h2 =>
      cases h2 with
      | cons h3 h4 =>
        cases h4
        cases h1
        cases h3
        exact ⟨_, rfl, s⟩
def spNeedF (K : PySem.W.Frag) (C : Addr) : Sp := fun vs H Q E => ∃ (v : V) (d : PyData), vs = [v] ∧ Dp K H v d ∧ (fracD d = true → Q v H) ∧ (fracD d = false → Out E C v H)
def spNeedB (K : PySem.W.Frag) (C : Addr) : Sp := fun vs H Q E => ∃ (v : V) (d : PyData) (lo hi : Int), vs = [v, .int lo, .int hi] ∧ Dp K H v d ∧ (betwD lo hi d = true → Q v H) ∧ (betwD lo hi d = false → Out E C v H)
def spRatio (K : PySem.W.Frag) (C : Addr) : Sp := fun vs H Q E => ∃ (x y : V) (dx dy : PyData), vs = [x, y] ∧ Dp K H x dx ∧ Dp K H y dy ∧ (wholeD dx = false → Out E C x H) ∧
  (∀ a, dx = .int a → (∀ b, dy = .int b → b ≠ 0 → b.natAbs < 1073741824 ∧ ∀ p, H p = none → Q (.ref p) (upd H p (fr (redP a b)))) ∧ ((∀ b, dy = .int b → b = 0) → Out E C y H))
/-- two fractions wanted; R: what is made of them -/
def spTwo (K : PySem.W.Frag) (C : Addr) (R : V → V → F → F → Hp → VK → XK → Prop) : Sp := fun vs H Q E => ∃ (x y : V) (dx dy : PyData), vs = [x, y] ∧ Dp K H x dx ∧ Dp K H y dy ∧ (fracD dx = false → Out E C x H) ∧
  (fracD dx = true → fracD dy = false → Out E C y H) ∧ (∀ q r, dx = dF q → Ok q → dy = dF r → Ok r → R x y q r H Q E)
def rOp (op : F → F → F) (dom : F → F → Prop) : V → V → F → F → Hp → VK → XK → Prop := fun _ _ q r H Q _ => dom q r ∧ ∀ p, H p = none → Q (.ref p) (upd H p (fr (op q r)))
def rLt : V → V → F → F → Hp → VK → XK → Prop := fun _ _ q r H Q _ => dom2 q r ∧ Q (.bl (lt q r)) H
def rOver (C : Addr) : V → V → F → F → Hp → VK → XK → Prop := fun _ y q r H Q E => (r.1 = 0 → Out E C y H) ∧ (r.1 ≠ 0 → domD q r ∧ ∀ p, H p = none → Q (.ref p) (upd H p (fr (div q r))))
def spPower (K : PySem.W.Frag) (CF CN : Addr) : Sp := fun vs H Q E => ∃ (x y : V) (dx dy : PyData), vs = [x, y] ∧ Dp K H x dx ∧ Dp K H y dy ∧ (fracD dx = false → Out E CF x H) ∧
  (fracD dx = true → betwD 0 20 dy = false → Out E CN y H) ∧ (∀ q n, dx = dF q → Ok q → dy = .int n → 0 ≤ n → n ≤ 20 → Lt2 6 q.1 ∧ Lt2 6 q.2 ∧ ∀ p, H p = none → Q (.ref p) (upd H p (fr (pw q n.toNat))))
/-- the module's NOUGHT -/
structure Nou (K : PySem.W.Frag) (mg : Str → Option Value) : Prop where
  ex : ∃ a : Addr, mg "NOUGHT" = some (.ref a) ∧ ∀ H : Hp, SqT K H a [.int 0, .int 1]
section
variable {P : Program} {w : World} {K : PySem.W.Frag} {mg : Str → Option Value} {base : Heap} {f : Addr} {fd : FuncData} {CF CN : Addr}
theorem sc18 : FnScope ["thing"] ["thing"] (defScope sNeedF) := ⟨rfl, rfl, rfl, by decide +kernel, rfl, by decide +kernel, by decide +kernel⟩
theorem ok_needF (F : Fun K "need_fraction" "need_fraction" sNeedF f fd) (T : ErrOk P w K mg base "BadFraction" CF) (W : Cal P w K mg base 2 "is_fraction" (spFraction K)) : FnOk P w K mg base (L2.CX P w) 3 f fd ["thing"] (spNeedF K CF) := by
  refine F.okX sc18 (fun vs H Q E h => ?_) (fun cdv A outer s H vs Q E hr h => ?_)
  · obtain ⟨v, d, rfl, _⟩ := h
    rfl
  · obtain ⟨v, d, rfl, hd, k1, k2⟩ := h
    refine ⟨_, pss_cons (ps_if (pt_not (pt_val (pe_n W hr (by decide) (by rfl) (pa_cons (pv 0) pa_nil)))) (pss_one (ps_rz rfl T hr (by decide) (takes_of rfl rfl rfl rfl) (pv 0) (by rfl))) pss_nil) (pss_one (ps_ret (pv 0))), ?_⟩
    refine ⟨_, rfl, v, d, rfl, hd, _, rfl, ?_⟩
    cases e : fracD d with
    | true => exact iteF ⟨_, rfl, k1 e⟩
    | false => exact iteT ⟨_, rfl, k2 e⟩
theorem sc19 : FnScope ["thing", "low", "high"] ["thing", "low", "high"] (defScope sNeedB) := ⟨rfl, rfl, rfl, by decide +kernel, rfl, by decide +kernel, by decide +kernel⟩
theorem ok_needB (F : Fun K "need_between" "need_between" sNeedB f fd) (T : ErrOk P w K mg base "BadNumber" CN) (W : Cal P w K mg base 2 "is_between" (spBetween K)) : FnOk P w K mg base (L2.CX P w) 3 f fd ["thing", "low", "high"] (spNeedB K CN) := by
  refine F.okX sc19 (fun vs H Q E h => ?_) (fun cdv A outer s H vs Q E hr h => ?_)
  · obtain ⟨v, d, lo, hi, rfl, _⟩ := h
    rfl
  · obtain ⟨v, d, lo, hi, rfl, hd, k1, k2⟩ := h
    refine ⟨_, pss_cons (ps_if (pt_not (pt_val (pe_n W hr (by decide) (by rfl) (pa_cons (pv 0) (pa_cons (pv 1) (pa_cons (pv 2) pa_nil)))))) (pss_one (ps_rz rfl T hr (by decide) (takes_of rfl rfl rfl rfl) (pv 0) (by rfl))) pss_nil) (pss_one (ps_ret (pv 0))), ?_⟩
    refine ⟨_, rfl, _, rfl, _, rfl, v, d, lo, hi, rfl, hd, _, rfl, ?_⟩
    cases e : betwD lo hi d with
    | true => exact iteF ⟨_, rfl, k1 e⟩
    | false => exact iteT ⟨_, rfl, k2 e⟩
theorem sc20 : FnScope ["top", "bottom"] ["top", "bottom"] (defScope sRatio) := ⟨rfl, rfl, rfl, by decide +kernel, rfl, by decide +kernel, by decide +kernel⟩
theorem ok_ratio (F : Fun K "ratio" "ratio" sRatio f fd) (T : ErrOk P w K mg base "BadNumber" CN) (W : Cal P w K mg base 1 "is_whole" (spWhole K)) (R : Cal P w K mg base 1 "reduced" spReduced) : FnOk P w K mg base (L2.CX P w) 3 f fd ["top", "bottom"] (spRatio K CN) := by
  refine F.okX sc20 (fun vs H Q E h => ?_) (fun cdv A outer s H vs Q E hr h => ?_)
  · obtain ⟨x, y, dx, dy, rfl, _⟩ := h
    rfl
  · obtain ⟨x, y, dx, dy, rfl, h1, h2, k1, k2⟩ := h
    refine ⟨_, pss_cons (ps_if (pt_not (pt_val (pe_n W hr (by decide) (by rfl) (pa_cons (pv 0) pa_nil)))) (pss_one (ps_rz rfl T hr (by decide) (takes_of rfl rfl rfl rfl) (pv 0) (by rfl))) pss_nil)
      (pss_cons (ps_if (PW.pt (pw_or (pt_not (pt_val (pe_n W hr (by decide) (by rfl) (pa_cons (pv 1) pa_nil)))) (pw_or1 (pt_cmpR op_eq (pv 1) pe_int (nomark _))))) (pss_one (ps_rz rfl T hr (by decide) (takes_of rfl rfl rfl rfl) (pv 1) (by rfl))) pss_nil)
      (pss_one (ps_ret (pe_n R hr (by decide) (by rfl) (pa_cons (pv 0) (pa_cons (pv 1) pa_nil)))))), ?_⟩
    refine ⟨_, rfl, x, dx, rfl, h1, _, rfl, ?_⟩
    cases e : wholeD dx with
    | false => exact iteT ⟨_, rfl, k1 e⟩
    | true =>
      obtain ⟨a, rfl⟩ := wholeD_true e
      obtain ⟨k3, k4⟩ := k2 a rfl
      cases h1
      refine iteF ⟨_, rfl, y, dy, rfl, h2, _, rfl, ?_⟩
      cases e2 : wholeD dy with
      | false => exact iteT (iteT ⟨_, rfl, k4 (fun b z => by rw [z] at e2; cases e2)⟩)
      | true =>
        obtain ⟨b, rfl⟩ := wholeD_true e2
        cases h2
        refine iteF ⟨_, rfl, rfl, _, rfl, ?_⟩
        refine ite2 (fun c => ⟨_, rfl, k4 (fun b' z => ?_)⟩) (fun c => ?_)
        · cases z
          simpa using c
        · have nb : b ≠ 0 := fun z => c (by rw [z]; decide)
          obtain ⟨l, k⟩ := k3 b rfl nb
          exact ⟨_, rfl, _, rfl, a, b, rfl, nb, l, k⟩
theorem scTwo : ∀ i ∈ [21, 22, 23, 24, 25], FnScope ["one", "other"] ["one", "other"] (defScope (top i)) := by
  intro i hi
  simp only [List.mem_cons, List.not_mem_nil, or_false] at hi
  rcases hi with rfl | rfl | rfl | rfl | rfl <;> exact ⟨rfl, rfl, rfl, by decide +kernel, rfl, by decide +kernel, by decide +kernel⟩
/-- the reading of f(need_fraction(one), need_fraction(other)) -/
theorem two_needs {x y : V} {dx dy : PyData} {H : Hp} {E : XK} {Q2 : F → F → Prop} {sp : Sp} {D : Ends} (h1 : Dp K H x dx) (h2 : Dp K H y dy) (k1 : fracD dx = false → Out E CF x H) (k2 : fracD dx = true → fracD dy = false → Out E CF y H)
    (k3 : ∀ q r, dx = dF q → Ok q → dy = dF r → Ok r → Q2 q r) (fin : ∀ q r, Fr K H x q → Fr K H y r → Q2 q r → sp [x, y] H D.rt E0) :
    tRet (tCall sp [] E0 (tCons (tCall (spNeedF K CF) [] E (tCons (tVar 0) tNil)) (tCons (tCall (spNeedF K CF) [] E (tCons (tVar 1) tNil)) tNil))) D (start ["one", "other"] [x, y]) H := by
  refine ⟨x, rfl, x, dx, rfl, h1, fun e1 => ⟨y, rfl, y, dy, rfl, h2, fun e2 => ?_, fun e2 => k2 e1 e2⟩, k1⟩
  obtain ⟨q, rfl, o1⟩ := fracD_true e1
  obtain ⟨r, rfl, o2⟩ := fracD_true e2
  exact fin q r (dp_fr h1) (dp_fr h2) (k3 q r rfl o1 rfl o2)
theorem ok_plus (F : Fun K "plus" "plus" sPlus f fd) (N : CalX P w K mg base 3 "need_fraction" (spNeedF K CF)) (G : Cal P w K mg base 2 "added" (spOp K add dom2)) : FnOk P w K mg base (L2.CX P w) 4 f fd ["one", "other"] (spTwo K CF (rOp add dom2)) := by
  refine F.okX (scTwo 21 (by decide)) (fun vs H Q E h => ?_) (fun cdv A outer s H vs Q E hr h => ?_)
  · obtain ⟨x, y, dx, dy, rfl, _⟩ := h
    rfl
  · obtain ⟨x, y, dx, dy, rfl, h1, h2, k1, k2, k3⟩ := h
    refine ⟨_, pss_one (ps_ret (pe_n G hr (by decide) (by rfl) (pa_cons (pe_x (E := E) N hr (by decide) (by rfl) (passes_call (takes_of rfl rfl rfl rfl) (fun _ _ _ _ h => h)) (pa_cons (pv 0) pa_nil)) (pa_cons (pe_x (E := E) N hr (by decide) (by rfl) (passes_call (takes_of rfl rfl rfl rfl) (fun _ _ _ _ h => h)) (pa_cons (pv 1) pa_nil)) pa_nil)))), ?_⟩
    exact two_needs h1 h2 k1 k2 k3 (fun q r f1 f2 z => ⟨x, y, q, r, rfl, f1, f2, z⟩)
theorem ok_less (F : Fun K "less" "less" sLess f fd) (N : CalX P w K mg base 3 "need_fraction" (spNeedF K CF)) (G : Cal P w K mg base 2 "lessened" (spOp K sub dom2)) : FnOk P w K mg base (L2.CX P w) 4 f fd ["one", "other"] (spTwo K CF (rOp sub dom2)) := by
  refine F.okX (scTwo 22 (by decide)) (fun vs H Q E h => ?_) (fun cdv A outer s H vs Q E hr h => ?_)
  · obtain ⟨x, y, dx, dy, rfl, _⟩ := h
    rfl
  · obtain ⟨x, y, dx, dy, rfl, h1, h2, k1, k2, k3⟩ := h
    refine ⟨_, pss_one (ps_ret (pe_n G hr (by decide) (by rfl) (pa_cons (pe_x (E := E) N hr (by decide) (by rfl) (passes_call (takes_of rfl rfl rfl rfl) (fun _ _ _ _ h => h)) (pa_cons (pv 0) pa_nil)) (pa_cons (pe_x (E := E) N hr (by decide) (by rfl) (passes_call (takes_of rfl rfl rfl rfl) (fun _ _ _ _ h => h)) (pa_cons (pv 1) pa_nil)) pa_nil)))), ?_⟩
    exact two_needs h1 h2 k1 k2 k3 (fun q r f1 f2 z => ⟨x, y, q, r, rfl, f1, f2, z⟩)
theorem ok_times (F : Fun K "times" "times" sTimes f fd) (N : CalX P w K mg base 3 "need_fraction" (spNeedF K CF)) (G : Cal P w K mg base 2 "timed" (spOp K mul dom2)) : FnOk P w K mg base (L2.CX P w) 4 f fd ["one", "other"] (spTwo K CF (rOp mul dom2)) := by
  refine F.okX (scTwo 23 (by decide)) (fun vs H Q E h => ?_) (fun cdv A outer s H vs Q E hr h => ?_)
  · obtain ⟨x, y, dx, dy, rfl, _⟩ := h
    rfl
  · obtain ⟨x, y, dx, dy, rfl, h1, h2, k1, k2, k3⟩ := h
    refine ⟨_, pss_one (ps_ret (pe_n G hr (by decide) (by rfl) (pa_cons (pe_x (E := E) N hr (by decide) (by rfl) (passes_call (takes_of rfl rfl rfl rfl) (fun _ _ _ _ h => h)) (pa_cons (pv 0) pa_nil)) (pa_cons (pe_x (E := E) N hr (by decide) (by rfl) (passes_call (takes_of rfl rfl rfl rfl) (fun _ _ _ _ h => h)) (pa_cons (pv 1) pa_nil)) pa_nil)))), ?_⟩
    exact two_needs h1 h2 k1 k2 k3 (fun q r f1 f2 z => ⟨x, y, q, r, rfl, f1, f2, z⟩)
theorem ok_isless (F : Fun K "is_less" "is_less" sIsLess f fd) (N : CalX P w K mg base 3 "need_fraction" (spNeedF K CF)) (G : Cal P w K mg base 1 "is_below" (spLt K)) : FnOk P w K mg base (L2.CX P w) 4 f fd ["one", "other"] (spTwo K CF rLt) := by
  refine F.okX (scTwo 25 (by decide)) (fun vs H Q E h => ?_) (fun cdv A outer s H vs Q E hr h => ?_)
  · obtain ⟨x, y, dx, dy, rfl, _⟩ := h
    rfl
  · obtain ⟨x, y, dx, dy, rfl, h1, h2, k1, k2, k3⟩ := h
    refine ⟨_, pss_one (ps_ret (pe_n G hr (by decide) (by rfl) (pa_cons (pe_x (E := E) N hr (by decide) (by rfl) (passes_call (takes_of rfl rfl rfl rfl) (fun _ _ _ _ h => h)) (pa_cons (pv 0) pa_nil)) (pa_cons (pe_x (E := E) N hr (by decide) (by rfl) (passes_call (takes_of rfl rfl rfl rfl) (fun _ _ _ _ h => h)) (pa_cons (pv 1) pa_nil)) pa_nil)))), ?_⟩
    exact two_needs h1 h2 k1 k2 k3 (fun q r f1 f2 z => ⟨x, y, q, r, rfl, f1, f2, z⟩)
theorem scPower : FnScope ["one", "number"] ["one", "number"] (defScope sPower) := ⟨rfl, rfl, rfl, by decide +kernel, rfl, by decide +kernel, by decide +kernel⟩
theorem ok_power (F : Fun K "power" "power" sPower f fd) (N : CalX P w K mg base 3 "need_fraction" (spNeedF K CF)) (B : CalX P w K mg base 3 "need_between" (spNeedB K CN)) (G : Cal P w K mg base 1 "raised" (spRaised K)) :
    FnOk P w K mg base (L2.CX P w) 4 f fd ["one", "number"] (spPower K CF CN) := by
  refine F.okX scPower (fun vs H Q E h => ?_) (fun cdv A outer s H vs Q E hr h => ?_)
  · obtain ⟨x, y, dx, dy, rfl, _⟩ := h
    rfl
  · obtain ⟨x, y, dx, dy, rfl, h1, h2, k1, k2, k3⟩ := h
    refine ⟨_, pss_one (ps_ret (pe_n G hr (by decide) (by rfl) (pa_cons (pe_x (E := E) N hr (by decide) (by rfl) (passes_call (takes_of rfl rfl rfl rfl) (fun _ _ _ _ h => h)) (pa_cons (pv 0) pa_nil))
      (pa_cons (pe_x (E := E) B hr (by decide) (by rfl) (passes_call (takes_of rfl rfl rfl rfl) (fun _ _ _ _ h => h)) (pa_cons (pv 1) (pa_cons pe_int (pa_cons pe_int pa_nil)))) pa_nil)))), ?_⟩
    refine ⟨x, rfl, x, dx, rfl, h1, fun e1 => ⟨y, rfl, y, dy, 0, 20, rfl, h2, fun e2 => ?_, fun e2 => k2 e1 e2⟩, k1⟩
    obtain ⟨q, rfl, o1⟩ := fracD_true e1
    have : ∃ n, dy = .int n ∧ 0 ≤ n ∧ n ≤ 20 := by
      cases dy with
      | int n =>
        simp only [betwD, Bool.and_eq_true, decide_eq_true_eq] at e2
        exact ⟨n, rfl, e2⟩
      | _ => cases e2
    obtain ⟨n, rfl, n0, n1⟩ := this
    cases h2
    obtain ⟨b1, b2, k⟩ := k3 q n rfl o1 rfl n0 n1
    exact ⟨x, q, n, rfl, dp_fr h1, b1, b2, n0, n1, k⟩
theorem ok_over (F : Fun K "over" "over" sOver f fd) (T : ErrOk P w K mg base "BadFraction" CF) (Z : Nou K mg) (N : CalX P w K mg base 3 "need_fraction" (spNeedF K CF)) (G : Cal P w K mg base 2 "divided" (spOp K div domD)) :
    FnOk P w K mg base (L2.CX P w) 4 f fd ["one", "other"] (spTwo K CF (rOver CF)) := by
  refine F.okX (scTwo 24 (by decide)) (fun vs H Q E h => ?_) (fun cdv A outer s H vs Q E hr h => ?_)
  · obtain ⟨x, y, dx, dy, rfl, _⟩ := h
    rfl
  · obtain ⟨x, y, dx, dy, rfl, h1, h2, k1, k2, k3⟩ := h
    obtain ⟨z, mz, sz⟩ := Z.ex
    refine ⟨_, pss_cons (ps_expr (pe_x (E := E) N hr (by decide) (by rfl) (passes_call (takes_of rfl rfl rfl rfl) (fun _ _ _ _ h => h)) (pa_cons (pv 0) pa_nil)))
      (pss_cons (ps_if (pt_cmpR (op_eqD hr.units) (pe_x (E := E) N hr (by decide) (by rfl) (passes_call (takes_of rfl rfl rfl rfl) (fun _ _ _ _ h => h)) (pa_cons (pv 1) pa_nil)) (pe_glob (v := .ref z) (by rfl) mz rfl) (nomark _))
        (pss_one (ps_rz rfl T hr (by decide) (takes_of rfl rfl rfl rfl) (pv 1) (by rfl))) pss_nil)
      (pss_one (ps_ret (pe_n G hr (by decide) (by rfl) (pa_cons (pv 0) (pa_cons (pv 1) pa_nil)))))), ?_⟩
    refine ⟨x, rfl, x, dx, rfl, h1, fun e1 => ?_, k1⟩
    refine ⟨y, rfl, y, dy, rfl, h2, fun e2 => ?_, fun e2 => k2 e1 e2⟩
    obtain ⟨q, rfl, o1⟩ := fracD_true e1
    obtain ⟨r, rfl, o2⟩ := fracD_true e2
    obtain ⟨r1, r2⟩ := k3 q r rfl o1 rfl o2
    refine ⟨dF r, dF (0, 1), h2, .tup (sz H) (.cons (.int 0) (.cons (.int 1) .nil)), rfl, rfl, _, rfl, ?_⟩
    have e : PyData.eqv (dF r) (dF (0, 1)) = decide (r.1 = 0) := by
      have : gI r.1 r.2 = 1 := by unfold gI; rw [o2.2]; rfl
      by_cases z : r.1 = 0
      · have r21 : r.2 = 1 := by
          have := o2.2
          have p := o2.1
          rw [z] at this
          have g : Nat.gcd 0 r.2.natAbs = r.2.natAbs := Nat.gcd_zero_left _
          have t : (0 : Int).natAbs = 0 := rfl
          rw [t, g] at this
          omega
        simp [dF, PyData.eqv, PyData.eqvAll, z, r21]
      · simp [dF, PyData.eqv, PyData.eqvAll, z]
    rw [e]
    refine ite2 (fun c => ?_) (fun c => ?_)
    · exact ⟨_, rfl, r1 (of_decide_eq_true c)⟩
    · have n0 : r.1 ≠ 0 := fun z => c (decide_eq_true z)
      obtain ⟨d, k⟩ := r2 n0
      exact ⟨_, rfl, _, rfl, x, y, q, r, rfl, dp_fr h1, dp_fr h2, d, k⟩
end
end Rs


set_option Elab.async false
set_option linter.all false
set_option maxRecDepth 100000
set_option maxHeartbeats 400000
namespace Rs
open PySem L2 Bs Fq
abbrev sMixed : Stmt := top 28
abbrev sLRatio : Stmt := top 32
abbrev sLPlus : Stmt := top 33
abbrev sLLess : Stmt := top 34
abbrev sLTimes : Stmt := top 35
abbrev sLOver : Stmt := top 36
abbrev sLUnder : Stmt := top 37
abbrev sLPower : Stmt := top 38
abbrev sLDivided : Stmt := top 41
def spMixed : Sp := fun vs H Q _ => ∃ (c k : Int), vs = [.int c, .int k] ∧ 0 ≤ k ∧ k ≤ 100000 ∧ ∀ r : Int, 0 ≤ r → r < 2147483629 → Q (.int r) H
/-- _law_ratio(top, bottom), bottom above nought -/
def spLRatio : Sp := fun vs H Q _ => ∃ (a b : Int), vs = [.int a, .int b] ∧ 0 < b ∧ Lt2 8000 b ∧ ∀ p, H p = none → Q (.ref p) (upd H p (fr (red a b)))
/-- the law's own numbers: any size that a reckoning may have -/
structure Dl (q : F) : Prop where
  big : Lt2 4000 q.1
  pos : 0 < q.2
  low : Lt2 4000 q.2
def domL (q r : F) : Prop := Dl q ∧ Dl r
def domLD (q r : F) : Prop := Dl q ∧ Dl r ∧ 0 < r.1
def spLt' (K : PySem.W.Frag) : Sp := fun vs H Q _ => ∃ (x y : V) (q r : F), vs = [x, y] ∧ Fr K H x q ∧ Fr K H y r ∧ domL q r ∧ Q (.bl (lt q r)) H
/-- the law's quotient, the divisor above nought -/
def divL (q r : F) : F := red (q.1 * r.2) (q.2 * r.1)
section
variable {P : Program} {w : World} {K : PySem.W.Frag} {mg : Str → Option Value} {base : Heap} {f : Addr} {fd : FuncData}
theorem scMixed : FnScope ["cell", "k"] ["cell", "k"] (defScope sMixed) := ⟨rfl, rfl, rfl, by decide +kernel, rfl, by decide +kernel, by decide +kernel⟩
theorem ok_mixed (F : Fun K "_law_mixed" "_law_mixed" sMixed f fd) (T : Blt mg) : FnOk P w K mg base CX0 1 f fd ["cell", "k"] spMixed := by
  refine F.ok scMixed (fun vs H Q E h => ?_) (fun cdv A outer s H vs Q E hr h => ?_)
  · obtain ⟨c, k, rfl, _⟩ := h
    rfl
  · obtain ⟨c, k, rfl, k0, k1, g⟩ := h
    refine ⟨_, pss_cons (ps_set (i := 0) scMixed.nd rfl (Or.inl rfl) (pe_op op_mod (pe_callTy call_int1 (by rfl) T.int (by decide +kernel) (pa_cons (pv 0) pa_nil)) pe_int))
      (pss_one (ps_ret (pe_op op_mod (pe_op op_mul (pe_op op_mod (pe_op op_add (pe_op op_add (pe_op op_mul (pv 0) (pe_op op_add pe_int (pe_op op_mul (pe_op op_mul pe_int (pv 1)) (pv 1)))) (pe_op op_mul pe_int (pv 1))) pe_int) pe_int) pe_int) pe_int))), ?_⟩
    refine ⟨_, rfl, .inl ⟨c, rfl, _, _, rfl, rfl, (by show (0 : Int) < 2147483647; decide), ?_⟩⟩
    have m0 := Int.emod_nonneg c (b := 2147483647) (by decide)
    have m1 := Int.emod_lt_of_pos c (b := 2147483647) (by decide)
    refine ⟨_, rfl, _, rfl, _, _, rfl, rfl, .inl ⟨by decide, by decide⟩, _, rfl, _, _, rfl, rfl, .inr ⟨by omega, by omega⟩, _, _, rfl, rfl, _, _, rfl, rfl, .inl ⟨by omega, by omega⟩, _, rfl, _, _, rfl, rfl, .inl ⟨by decide, by decide⟩, _, _, rfl, rfl, _, _, rfl, rfl,
      _, _, rfl, rfl, (by show (0 : Int) < 2147483647; decide), _, _, rfl, rfl, .inr ⟨by decide, by decide⟩, _, _, rfl, rfl, (by show (0 : Int) < 2147483629; decide), ?_⟩
    exact g _ (Int.emod_nonneg _ (by decide)) (Int.emod_lt_of_pos _ (by decide))
theorem scLRatio : FnScope ["top", "bottom", "one", "other"] ["top", "bottom"] (defScope sLRatio) := ⟨rfl, rfl, rfl, by decide +kernel, rfl, by decide +kernel, by decide +kernel⟩
theorem ok_lratio (F : Fun K "_law_ratio" "_law_ratio" sLRatio f fd) (T : Blt mg) : FnOk P w K mg base CX0 1 f fd ["top", "bottom"] spLRatio := by
  refine F.ok scLRatio (fun vs H Q E h => ?_) (fun cdv A outer s H vs Q E hr h => ?_)
  · obtain ⟨a, b, rfl, _⟩ := h
    rfl
  · obtain ⟨a, b, rfl, hb, hl, k⟩ := h
    refine ⟨_, pss_cons (ps_par (i := 2) (j := 3) (by rfl) scLRatio.nd rfl rfl (by decide) rfl rfl (pa_cons (pe_callB call_abs (by rfl) T.abs (by decide +kernel) (pa_cons (pv 0) pa_nil)) (pa_cons (pv 1) pa_nil)) (by rfl))
      (pss_cons (ps_while PassesOwn.never (pt_cmpR op_ne (pv 3) pe_int (nomark _))
        (pss_one (ps_par (i := 2) (j := 3) (by rfl) scLRatio.nd rfl rfl (by decide) rfl rfl (pa_cons (pv 3) (pa_cons (pe_op op_modN (pe_callTy call_int1 (by rfl) T.int (by decide +kernel) (pa_cons (pv 2) pa_nil)) (pv 3)) pa_nil)) (by rfl))))
      (pss_one (ps_ret (pe_tup (pa_cons (pe_op op_fdivW (pv 0) (pv 2)) (pa_cons (pe_op op_fdivW (pv 1) (pv 2)) pa_nil)))))), ?_⟩
    refine ⟨_, rfl, a, rfl, _, rfl, _, _, rfl, ?_⟩
    have hp := gI_pos (a := a) (b := b) (by omega)
    have hle := gI_le (a := a) (b := b) (by omega)
    refine while_by (fun σ H' => H' = H ∧ ∃ x y : Int, σ = [some (V.int a), some (V.int b), some (V.int x), some (V.int y)] ∧ 0 ≤ x ∧ 0 ≤ y ∧ gI x y = gI a b) (fun σ _ => match σ with | [_, _, _, some (V.int y)] => y.natAbs | _ => 0)
      ⟨rfl, _, b, rfl, by split <;> omega, by omega, ?_⟩ ?_ (fun σ H Q Q' m h => ?_)
    · unfold gI
      split
      · rw [Int.natAbs_neg]
      · rfl
    · rintro σ H' ⟨rfl, x, y, rfl, x0, y0, e⟩
      refine ⟨_, rfl, rfl, _, rfl, ?_⟩
      by_cases hy : y = 0
      · subst hy
        refine iteF ?_
        have ex : x = gI a b := by
          rw [← e]
          unfold gI
          have : Nat.gcd x.natAbs (0 : Int).natAbs = x.natAbs := Nat.gcd_zero_right _
          rw [this]
          omega
        subst ex
        have hgw : Lt2 8000 (gI a b) := Nat.lt_of_le_of_lt hle hl
        exact ⟨_, rfl, _, rfl, _, _, rfl, rfl, wide_div hp hgw (by decide) (by decide), _, rfl, _, rfl, _, _, rfl, rfl, wide_div hp hgw (by decide) (by decide), (by show 2 ≤ sizeLine; decide), fun p hp => k p hp⟩
      · have d : decide (V.int y = V.int 0) = false := decide_eq_false (fun z => hy (V.int.inj z))
        show if (!decide (V.int y = V.int 0)) = true then _ else _
        rw [d]
        refine iteT ?_
        refine ⟨_, rfl, _, rfl, .inl ⟨x, rfl, _, rfl, _, _, rfl, rfl, hy, _, _, rfl, ⟨rfl, y, x.fmod y, rfl, y0, ?_, ?_⟩, ?_⟩⟩
        · exact Int.fmod_nonneg_of_pos x (by omega)
        · rw [← e]
          unfold gI
          rw [Int.fmod_eq_emod_of_nonneg x y0]
          have h1 : (x % y).natAbs = x.natAbs % y.natAbs := by
            have := Int.natAbs_emod_of_nonneg (b := y) x0
            exact this
          rw [h1, Nat.gcd_comm y.natAbs, ← Nat.gcd_rec y.natAbs x.natAbs, Nat.gcd_comm]
        · show (x.fmod y).natAbs < y.natAbs
          rw [Int.fmod_eq_emod_of_nonneg x y0]
          have := Int.emod_lt_of_pos x (show 0 < y by omega)
          have := Int.emod_nonneg x hy
          omega
    · obtain ⟨v, e1, e2, b', e3, q⟩ := h
      exact ⟨v, e1, e2, b', e3, m _ _ q⟩
end
end Rs


set_option Elab.async false
set_option linter.all false
set_option maxRecDepth 100000
set_option maxHeartbeats 400000
namespace Rs
open PySem L2 Bs Fq
section
variable {P : Program} {w : World} {K : PySem.W.Frag} {mg : Str → Option Value} {base : Heap} {f : Addr} {fd : FuncData}
theorem scLOp : ∀ i ∈ [33, 34, 35, 36, 37], FnScope ["one", "other"] ["one", "other"] (defScope (top i)) := by
  intro i hi
  simp only [List.mem_cons, List.not_mem_nil, or_false] at hi
  rcases hi with rfl | rfl | rfl | rfl | rfl <;> exact ⟨rfl, rfl, rfl, by decide +kernel, rfl, by decide +kernel, by decide +kernel⟩
theorem ok_lplus (F : Fun K "_law_plus" "_law_plus" sLPlus f fd) (C : Cal P w K mg base 1 "_law_ratio" spLRatio) : FnOk P w K mg base CX0 2 f fd ["one", "other"] (spOp K add domL) := by
  refine F.ok (scLOp 33 (by decide)) (fun vs H Q E h => ?_) (fun cdv A outer s H vs Q E hr h => ?_)
  · obtain ⟨x, y, q, r, rfl, _⟩ := h
    rfl
  · obtain ⟨x, y, q, r, rfl, ⟨a, rfl, h1⟩, ⟨b, rfl, h2⟩, ⟨d1, d2⟩, k⟩ := h
    refine ⟨_, pss_one (ps_ret (pe_n C hr (by decide) (by rfl) (pa_cons (pe_op op_add (pe_op op_mulW (pe_ix ix_tup (pv 0) pe_int (fun _ _ => rfl)) (pe_ix ix_tup (pv 1) pe_int (fun _ _ => rfl))) (pe_op op_mulW (pe_ix ix_tup (pv 1) pe_int (fun _ _ => rfl)) (pe_ix ix_tup (pv 0) pe_int (fun _ _ => rfl))))
      (pa_cons (pe_op op_mulW (pe_ix ix_tup (pv 0) pe_int (fun _ _ => rfl)) (pe_ix ix_tup (pv 1) pe_int (fun _ _ => rfl))) pa_nil)))), ?_⟩
    refine ⟨_, rfl, a, _, _, _, rfl, rfl, h1, atI_nat (j := 0) rfl, _, rfl, b, _, _, _, rfl, rfl, h2, atI_nat (j := 1) rfl, _, _, rfl, rfl, d1.big.c d2.low,
      _, rfl, b, _, _, _, rfl, rfl, h2, atI_nat (j := 0) rfl, _, rfl, a, _, _, _, rfl, rfl, h1, atI_nat (j := 1) rfl, _, _, rfl, rfl, d2.big.c d1.low, _, _, rfl, rfl,
      _, rfl, a, _, _, _, rfl, rfl, h1, atI_nat (j := 1) rfl, _, rfl, b, _, _, _, rfl, rfl, h2, atI_nat (j := 1) rfl, _, _, rfl, rfl, d1.low.c d2.low, ?_⟩
    exact ⟨_, _, rfl, Int.mul_pos d1.pos d2.pos, wide_lt d1.low d2.low, fun p hp => k p hp⟩
theorem ok_lless (F : Fun K "_law_less" "_law_less" sLLess f fd) (C : Cal P w K mg base 1 "_law_ratio" spLRatio) : FnOk P w K mg base CX0 2 f fd ["one", "other"] (spOp K sub domL) := by
  refine F.ok (scLOp 34 (by decide)) (fun vs H Q E h => ?_) (fun cdv A outer s H vs Q E hr h => ?_)
  · obtain ⟨x, y, q, r, rfl, _⟩ := h
    rfl
  · obtain ⟨x, y, q, r, rfl, ⟨a, rfl, h1⟩, ⟨b, rfl, h2⟩, ⟨d1, d2⟩, k⟩ := h
    refine ⟨_, pss_one (ps_ret (pe_n C hr (by decide) (by rfl) (pa_cons (pe_op op_sub (pe_op op_mulW (pe_ix ix_tup (pv 0) pe_int (fun _ _ => rfl)) (pe_ix ix_tup (pv 1) pe_int (fun _ _ => rfl))) (pe_op op_mulW (pe_ix ix_tup (pv 1) pe_int (fun _ _ => rfl)) (pe_ix ix_tup (pv 0) pe_int (fun _ _ => rfl))))
      (pa_cons (pe_op op_mulW (pe_ix ix_tup (pv 0) pe_int (fun _ _ => rfl)) (pe_ix ix_tup (pv 1) pe_int (fun _ _ => rfl))) pa_nil)))), ?_⟩
    refine ⟨_, rfl, a, _, _, _, rfl, rfl, h1, atI_nat (j := 0) rfl, _, rfl, b, _, _, _, rfl, rfl, h2, atI_nat (j := 1) rfl, _, _, rfl, rfl, d1.big.c d2.low,
      _, rfl, b, _, _, _, rfl, rfl, h2, atI_nat (j := 0) rfl, _, rfl, a, _, _, _, rfl, rfl, h1, atI_nat (j := 1) rfl, _, _, rfl, rfl, d2.big.c d1.low, _, _, rfl, rfl,
      _, rfl, a, _, _, _, rfl, rfl, h1, atI_nat (j := 1) rfl, _, rfl, b, _, _, _, rfl, rfl, h2, atI_nat (j := 1) rfl, _, _, rfl, rfl, d1.low.c d2.low, ?_⟩
    exact ⟨_, _, rfl, Int.mul_pos d1.pos d2.pos, wide_lt d1.low d2.low, fun p hp => k p hp⟩
theorem ok_ltimes (F : Fun K "_law_times" "_law_times" sLTimes f fd) (C : Cal P w K mg base 1 "_law_ratio" spLRatio) : FnOk P w K mg base CX0 2 f fd ["one", "other"] (spOp K mul domL) := by
  refine F.ok (scLOp 35 (by decide)) (fun vs H Q E h => ?_) (fun cdv A outer s H vs Q E hr h => ?_)
  · obtain ⟨x, y, q, r, rfl, _⟩ := h
    rfl
  · obtain ⟨x, y, q, r, rfl, ⟨a, rfl, h1⟩, ⟨b, rfl, h2⟩, ⟨d1, d2⟩, k⟩ := h
    refine ⟨_, pss_one (ps_ret (pe_n C hr (by decide) (by rfl) (pa_cons (pe_op op_mulW (pe_ix ix_tup (pv 0) pe_int (fun _ _ => rfl)) (pe_ix ix_tup (pv 1) pe_int (fun _ _ => rfl)))
      (pa_cons (pe_op op_mulW (pe_ix ix_tup (pv 0) pe_int (fun _ _ => rfl)) (pe_ix ix_tup (pv 1) pe_int (fun _ _ => rfl))) pa_nil)))), ?_⟩
    refine ⟨_, rfl, a, _, _, _, rfl, rfl, h1, atI_nat (j := 0) rfl, _, rfl, b, _, _, _, rfl, rfl, h2, atI_nat (j := 0) rfl, _, _, rfl, rfl, d1.big.c d2.big,
      _, rfl, a, _, _, _, rfl, rfl, h1, atI_nat (j := 1) rfl, _, rfl, b, _, _, _, rfl, rfl, h2, atI_nat (j := 1) rfl, _, _, rfl, rfl, d1.low.c d2.low, ?_⟩
    exact ⟨_, _, rfl, Int.mul_pos d1.pos d2.pos, wide_lt d1.low d2.low, fun p hp => k p hp⟩
theorem ok_lover (F : Fun K "_law_over" "_law_over" sLOver f fd) (C : Cal P w K mg base 1 "_law_ratio" spLRatio) : FnOk P w K mg base CX0 2 f fd ["one", "other"] (spOp K divL domLD) := by
  refine F.ok (scLOp 36 (by decide)) (fun vs H Q E h => ?_) (fun cdv A outer s H vs Q E hr h => ?_)
  · obtain ⟨x, y, q, r, rfl, _⟩ := h
    rfl
  · obtain ⟨x, y, q, r, rfl, ⟨a, rfl, h1⟩, ⟨b, rfl, h2⟩, ⟨d1, d2, n0⟩, k⟩ := h
    refine ⟨_, pss_one (ps_ret (pe_n C hr (by decide) (by rfl) (pa_cons (pe_op op_mulW (pe_ix ix_tup (pv 0) pe_int (fun _ _ => rfl)) (pe_ix ix_tup (pv 1) pe_int (fun _ _ => rfl)))
      (pa_cons (pe_op op_mulW (pe_ix ix_tup (pv 0) pe_int (fun _ _ => rfl)) (pe_ix ix_tup (pv 1) pe_int (fun _ _ => rfl))) pa_nil)))), ?_⟩
    refine ⟨_, rfl, a, _, _, _, rfl, rfl, h1, atI_nat (j := 0) rfl, _, rfl, b, _, _, _, rfl, rfl, h2, atI_nat (j := 1) rfl, _, _, rfl, rfl, d1.big.c d2.low,
      _, rfl, a, _, _, _, rfl, rfl, h1, atI_nat (j := 1) rfl, _, rfl, b, _, _, _, rfl, rfl, h2, atI_nat (j := 0) rfl, _, _, rfl, rfl, d1.low.c d2.big, ?_⟩
    exact ⟨_, _, rfl, Int.mul_pos d1.pos n0, wide_lt d1.low d2.big, fun p hp => k p hp⟩
theorem ok_lunder (F : Fun K "_law_under" "_law_under" sLUnder f fd) : FnOk P w K mg base CX0 1 f fd ["one", "other"] (spLt' K) := by
  refine F.ok (scLOp 37 (by decide)) (fun vs H Q E h => ?_) (fun cdv A outer s H vs Q E hr h => ?_)
  · obtain ⟨x, y, q, r, rfl, _⟩ := h
    rfl
  · obtain ⟨x, y, q, r, rfl, ⟨a, rfl, h1⟩, ⟨b, rfl, h2⟩, ⟨d1, d2⟩, k⟩ := h
    refine ⟨_, pss_one (ps_ret (pe_cmpR op_lt (pe_op op_mulW (pe_ix ix_tup (pv 0) pe_int (fun _ _ => rfl)) (pe_ix ix_tup (pv 1) pe_int (fun _ _ => rfl))) (pe_op op_mulW (pe_ix ix_tup (pv 1) pe_int (fun _ _ => rfl)) (pe_ix ix_tup (pv 0) pe_int (fun _ _ => rfl))) (nomark _))), ?_⟩
    exact ⟨_, rfl, a, _, _, _, rfl, rfl, h1, atI_nat (j := 0) rfl, _, rfl, b, _, _, _, rfl, rfl, h2, atI_nat (j := 1) rfl, _, _, rfl, rfl, d1.big.c d2.low,
      _, rfl, b, _, _, _, rfl, rfl, h2, atI_nat (j := 0) rfl, _, rfl, a, _, _, _, rfl, rfl, h1, atI_nat (j := 1) rfl, _, _, rfl, rfl, d2.big.c d1.low, _, _, rfl, rfl, k⟩
theorem scLPower : FnScope ["one", "many", "found_so", "k"] ["one", "many"] (defScope sLPower) := ⟨rfl, rfl, rfl, by decide +kernel, rfl, by decide +kernel, by decide +kernel⟩
/-- _law_power(one, many): one in least terms -/
def spLPower (K : PySem.W.Frag) : Sp := fun vs H Q _ => ∃ (x : V) (q : F) (n : Int), vs = [x, .int n] ∧ Fr K H x q ∧ Ok q ∧ Lt2 6 q.1 ∧ Lt2 6 q.2 ∧ 0 ≤ n ∧ n ≤ 20 ∧ ∀ H' p, Same H H' → H' p = some (fr (pw q n.toNat)) → Q (.ref p) H'
theorem ok_lpower (F : Fun K "_law_power" "_law_power" sLPower f fd) (T : Blt mg) (C : Cal P w K mg base 2 "_law_times" (spOp K mul domL)) : FnOk P w K mg base CX0 3 f fd ["one", "many"] (spLPower K) := by
  refine F.ok scLPower (fun vs H Q E h => ?_) (fun cdv A outer s H vs Q E hr h => ?_)
  · obtain ⟨x, q, n, rfl, _⟩ := h
    rfl
  · obtain ⟨x, q, n, rfl, hx, oq, b1, b2, n0, n1, k⟩ := h
    refine ⟨_, pss_cons (ps_set (i := 2) scLPower.nd rfl (Or.inl rfl) (pe_tup (pa_cons pe_int (pa_cons pe_int pa_nil))))
      (pss_cons (ps_for PassesOwn.never rfl (pi_range1 rfl T.range (pa_cons (pv 1) pa_nil)) (pg_name (i := 3) scLPower.nd rfl (Or.inl rfl))
        (pss_one (ps_set (i := 2) scLPower.nd rfl (Or.inl rfl) (pe_n C hr (by decide) (by rfl) (pa_cons (pv 2) (pa_cons (pv 0) pa_nil))))))
      (pss_one (ps_ret (pv 2)))), ?_⟩
    refine ⟨(by show 2 ≤ sizeLine; decide), fun p0 hp0 => ?_⟩
    refine ⟨_, rfl, n, rfl, by omega, by omega, for_range (n := n.toNat) (fun i σ H' => Same H H' ∧ ∃ (p : Addr) (v : Option V), H' p = some (fr (pw q i)) ∧ σ = [some x, some (V.int n), some (V.ref p), v])
      ⟨same_new hp0, p0, none, upd_same.trans (by show some (HO.tup [V.int 1, V.int 1]) = some (HO.tup [V.int (q.1 ^ 0), V.int (q.2 ^ 0)]); rw [Int.pow_zero, Int.pow_zero]), rfl⟩ ?_ ?_⟩
    · rintro i σ H' hi ⟨sm, p, v, hp, rfl⟩
      have hi2 : i ≤ 20 := by omega
      refine ⟨_, rfl, _, rfl, _, _, pw q i, q, rfl, Fr.of hp, hx.mono sm, ⟨⟨(pow_lt2 b1 hi2).mono (by decide), (pw_ok oq i).1, (pow_lt2 b2 hi2).mono (by decide)⟩, ⟨b1.mono (by decide), oq.1, b2.mono (by decide)⟩⟩, fun p1 h1 => ?_⟩
      refine ⟨sm.trans (same_new h1), p1, some (V.int (0 + i)), ?_, rfl⟩
      rw [← pw_succ q i oq]
      exact upd_same
    · rintro σ H' ⟨sm, p, v, hp, rfl⟩
      exact ⟨_, rfl, k H' p sm hp⟩
theorem scLDivided : FnScope ["one", "far"] ["one", "far"] (defScope sLDivided) := ⟨rfl, rfl, rfl, by decide +kernel, rfl, by decide +kernel, by decide +kernel⟩
/-- _law_divided(one, far): the quotient, far not nought -/
def spLDivided (K : PySem.W.Frag) : Sp := fun vs H Q _ => ∃ (x y : V) (q r : F), vs = [x, y] ∧ Fr K H x q ∧ Fr K H y r ∧ domL q r ∧ r.1 ≠ 0 ∧ ∀ H' p, Same H H' → H' p = some (fr (div q r)) → Q (.ref p) H'
theorem lt2_neg {n : Nat} {x : Int} (h : Lt2 n x) : Lt2 n (-x) := by
  unfold Lt2 at h ⊢
  rw [Int.natAbs_neg]
  exact h
theorem ok_ldivided (F : Fun K "_law_divided" "_law_divided" sLDivided f fd) (C : Cal P w K mg base 2 "_law_over" (spOp K divL domLD)) : FnOk P w K mg base CX0 3 f fd ["one", "far"] (spLDivided K) := by
  refine F.ok scLDivided (fun vs H Q E h => ?_) (fun cdv A outer s H vs Q E hr h => ?_)
  · obtain ⟨x, y, q, r, rfl, _⟩ := h
    rfl
  · obtain ⟨x, y, q, r, rfl, ⟨a, rfl, h1⟩, ⟨b, rfl, h2⟩, ⟨d1, d2⟩, n0, k⟩ := h
    refine ⟨_, pss_one (ps_ret (pe_ifExp (pt_cmpR op_gt (pe_ix ix_tup (pv 1) pe_int (fun _ _ => rfl)) pe_int (nomark _)) (pe_n C hr (by decide) (by rfl) (pa_cons (pv 0) (pa_cons (pv 1) pa_nil)))
      (pe_n C hr (by decide) (by rfl) (pa_cons (pe_tup (pa_cons (pe_un un_neg (pe_ix ix_tup (pv 0) pe_int (fun _ _ => rfl))) (pa_cons (pe_ix ix_tup (pv 0) pe_int (fun _ _ => rfl)) pa_nil)))
        (pa_cons (pe_tup (pa_cons (pe_un un_neg (pe_ix ix_tup (pv 1) pe_int (fun _ _ => rfl))) (pa_cons (pe_ix ix_tup (pv 1) pe_int (fun _ _ => rfl)) pa_nil))) pa_nil))))), ?_⟩
    refine ⟨_, rfl, b, _, _, _, rfl, rfl, h2, atI_nat (j := 0) rfl, _, _, rfl, rfl, _, rfl, ?_⟩
    refine ite2 (fun c => ?_) (fun c => ?_)
    · have c' : 0 < r.1 := of_decide_eq_true c
      refine ⟨_, rfl, _, rfl, _, _, q, r, rfl, ⟨a, rfl, h1⟩, ⟨b, rfl, h2⟩, ⟨d1, d2, c'⟩, fun p hp => k _ p (same_new hp) ?_⟩
      rw [upd_same, div, redP_pos (Int.mul_pos d1.pos c')] <;> rfl
    · have c' : r.1 < 0 := by
        have : ¬ (0 < r.1) := fun z => c (decide_eq_true z)
        omega
      refine ⟨_, rfl, a, _, _, _, rfl, rfl, h1, atI_nat (j := 0) rfl, _, rfl, _, rfl, a, _, _, _, rfl, rfl, h1, atI_nat (j := 1) rfl, (by show 2 ≤ sizeLine; decide), fun p1 hp1 => ?_⟩
      have s1 : Same H (upd H p1 (.tup [V.int (-q.1), V.int q.2])) := same_new hp1
      refine ⟨_, rfl, b, _, _, _, rfl, rfl, Same.t s1 h2, atI_nat (j := 0) rfl, _, rfl, _, rfl, b, _, _, _, rfl, rfl, Same.t s1 h2, atI_nat (j := 1) rfl, (by show 2 ≤ sizeLine; decide), fun p2 hp2 => ?_⟩
      have s2 := same_new (o := .tup [V.int (-r.1), V.int r.2]) hp2
      refine ⟨_, _, (-q.1, q.2), (-r.1, r.2), rfl, Fr.of (s2 _ _ upd_same), Fr.of upd_same, ⟨⟨lt2_neg d1.big, d1.pos, d1.low⟩, ⟨lt2_neg d2.big, d2.pos, d2.low⟩, by show 0 < -r.1; omega⟩, fun p hp => k _ p ((s1.trans s2).trans (same_new hp)) ?_⟩
      have e : divL (-q.1, q.2) (-r.1, r.2) = div q r := by
        have n : q.2 * r.1 < 0 := Int.mul_neg_of_pos_of_neg d1.pos c'
        rw [div, redP_neg n, divL]
        show red (-q.1 * r.2) (q.2 * -r.1) = _
        rw [Int.neg_mul, Int.mul_neg]
      rw [← e]
      exact upd_same
end
end Rs


set_option Elab.async false
set_option linter.all false
set_option maxRecDepth 100000
set_option maxHeartbeats 400000
namespace Rs
open PySem L2 Bs Fq
abbrev sBegin : Stmt := top 29
abbrev sDraw : Stmt := top 30
abbrev sOf : Stmt := top 31
abbrev sSmall : Stmt := top 39
/-! ### the state -/
def dS (c l : Addr) (t : Int) : List (Key × V) := [(Sum.inr "cells", .ref c), (Sum.inr "lefts", .ref l), (Sum.inr "at", .int t), (Sum.inr "room", .int 0)]
theorem val_cells (c l : Addr) (t : Int) : valV (dS c l t) (Sum.inr "cells") = some (.ref c) := by rfl
theorem val_lefts (c l : Addr) (t : Int) : valV (dS c l t) (Sum.inr "lefts") = some (.ref l) := by rfl
theorem val_at (c l : Addr) (t : Int) : valV (dS c l t) (Sum.inr "at") = some (.int t) := by rfl
theorem put_at (c l : Addr) (t u : Int) : putK (dS c l t) (Sum.inr "at") (.int u) = dS c l u := by rfl
structure Sta (H : Hp) (p c l : Addr) (n : Nat) (t : Int) : Prop where
  d : H p = some (.dK (dS c l t))
  cs : ∃ cs : List Int, H c = some (.lst (cs.map V.int)) ∧ cs.length = n
  ls : ∃ ls : List Int, H l = some (.lst (ls.map V.int)) ∧ ls.length = n ∧ ∀ z ∈ ls, 0 ≤ z
  ne : c ≠ l
  n1 : 1 ≤ n
  n2 : n ≤ 63
  t0 : 0 ≤ t
section
variable {H H' : Hp} {p c l : Addr} {n : Nat} {t : Int}
theorem Sta.gCells (S : Sta H p c l n t) : DGet H p (.str "cells") (some (.ref c)) := by
  have := DGet.k (k := (Sum.inr "cells" : Key)) S.d
  rwa [val_cells] at this
theorem Sta.gLefts (S : Sta H p c l n t) : DGet H p (.str "lefts") (some (.ref l)) := by
  have := DGet.k (k := (Sum.inr "lefts" : Key)) S.d
  rwa [val_lefts] at this
theorem Sta.gAt (S : Sta H p c l n t) : DGet H p (.str "at") (some (.int t)) := by
  have := DGet.k (k := (Sum.inr "at" : Key)) S.d
  rwa [val_at] at this
theorem Sta.pc (S : Sta H p c l n t) : p ≠ c := by
  obtain ⟨cs, h, _⟩ := S.cs
  exact ne_of S.d h (by intro z; cases z)
theorem Sta.pl (S : Sta H p c l n t) : p ≠ l := by
  obtain ⟨ls, h, _⟩ := S.ls
  exact ne_of S.d h (by intro z; cases z)
theorem Sta.mono (S : Sta H p c l n t) (e : Same H H') : Sta H' p c l n t := by
  obtain ⟨cs, a1, a2⟩ := S.cs
  obtain ⟨ls, b1, b2⟩ := S.ls
  exact ⟨e _ _ S.d, ⟨cs, e _ _ a1, a2⟩, ⟨ls, e _ _ b1, b2⟩, S.ne, S.n1, S.n2, S.t0⟩
/-- the state alone was changed -/
def Kp (p l : Addr) (H H' : Hp) : Prop := ∀ b o, H b = some o → b ≠ p → b ≠ l → H' b = some o
theorem Kp.trans {H1 H2 H3 : Hp} (a : Kp p l H1 H2) (b : Kp p l H2 H3) : Kp p l H1 H3 := fun x o e n1 n2 => b x o (a x o e n1 n2) n1 n2
theorem Kp.of (e : Same H H') : Kp p l H H' := fun x o h _ _ => e x o h
theorem Kp.fr {K : PySem.W.Frag} {v : V} {q : F} (k : Kp p l H H') (S : Sta H p c l n t) (h : Fr K H v q) : Fr K H' v q := by
  obtain ⟨a, rfl, s⟩ := h
  obtain ⟨ls, b1, _⟩ := S.ls
  refine ⟨a, rfl, ?_⟩
  rcases s with (s | ⟨o, s⟩) | s
  · exact .inl (.inl (k a _ s (ne_of s S.d (by intro z; cases z)) (ne_of s b1 (by intro z; cases z))))
  · exact .inl (.inr ⟨o, k a _ s (ne_of s S.d (by intro z; cases z)) (ne_of s b1 (by intro z; cases z))⟩)
  · exact .inr s
end
/-- _law_draw(state, many) -/
def spDraw : Sp := fun vs H Q _ => ∃ (p c l : Addr) (n : Nat) (t m : Int), vs = [.ref p, .int m] ∧ Sta H p c l n t ∧ t ≤ 10000 ∧ 1 ≤ m ∧ m < 1000000 ∧
  ∀ (H' : Hp) (r : Int), 0 ≤ r → r < m → Sta H' p c l n (t + 1) → Kp p l H H' → Q (.int r) H'
section
variable {P : Program} {w : World} {K : PySem.W.Frag} {mg : Str → Option Value} {base : Heap} {f : Addr} {fd : FuncData}
theorem scDraw : FnScope ["state", "many", "at", "place", "left", "number"] ["state", "many"] (defScope sDraw) := ⟨rfl, rfl, rfl, by decide +kernel, rfl, by decide +kernel, by decide +kernel⟩
theorem int_at {cs : List Int} {i : Nat} (h : i < cs.length) : ∃ z, cs[i]? = some z ∧ (cs.map V.int)[i]? = some (V.int z) := by
  refine ⟨cs[i], List.getElem?_eq_getElem h, ?_⟩
  rw [List.getElem?_map, List.getElem?_eq_getElem h]
  rfl
theorem ok_draw (F : Fun K "_law_draw" "_law_draw" sDraw f fd) (T : Blt mg) (C : Cal P w K mg base 1 "_law_mixed" spMixed) : FnOk P w K mg base CX0 2 f fd ["state", "many"] spDraw := by
  refine F.ok scDraw (fun vs H Q E h => ?_) (fun cdv A outer s H vs Q E hr h => ?_)
  · obtain ⟨p, c, l, n, t, m, rfl, _⟩ := h
    rfl
  · obtain ⟨p, c, l, n, t, m, rfl, S, ht, m1, m2, k⟩ := h
    have hu := hu_of hr
    refine ⟨_, pss_cons (ps_set (i := 2) scDraw.nd rfl (Or.inl rfl) (pe_dget hu (pv 0) pe_str (fun _ _ => rfl)))
      (pss_cons (ps_dput hu (pv 0) pe_str (pe_op op_add (pv 2) pe_int) rfl)
      (pss_cons (ps_set (i := 3) scDraw.nd rfl (Or.inl rfl) (pe_op op_mod (pe_callTy call_int1 (by rfl) T.int (by decide +kernel) (pa_cons (pv 2) pa_nil)) (pe_callB call_len_seq (by rfl) T.len PySem.boot_len (pa_cons (pe_dget hu (pv 0) pe_str (fun _ _ => rfl)) pa_nil))))
      (pss_cons (ps_set (i := 4) scDraw.nd rfl (Or.inl rfl) (pe_ix ix_list (pe_dget hu (pv 0) pe_str (fun _ _ => rfl)) (pv 3) (fun _ _ => rfl)))
      (pss_cons (ps_if (pt_cmpR op_gt (pv 4) pe_int (nomark _))
        (pss_cons (ps_asg (pe_op op_fdivN (pv 4) (pv 1)) (pg_sub (pe_dget hu (pv 0) pe_str (fun _ _ => rfl)) (pv 3) set_list))
          (pss_one (ps_ret (pe_op op_mod (pe_callTy call_int1 (by rfl) T.int (by decide +kernel) (pa_cons (pv 4) pa_nil)) (pv 1))))) pss_nil)
      (pss_cons (ps_set (i := 5) scDraw.nd rfl (Or.inl rfl) (pe_n C hr (by decide) (by rfl) (pa_cons (pe_n C hr (by decide) (by rfl) (pa_cons (pe_ix ix_list (pe_dget hu (pv 0) pe_str (fun _ _ => rfl)) (pv 3) (fun _ _ => rfl)) (pa_cons (pv 2) pa_nil))) (pa_cons (pe_op op_add pe_int (pv 2)) pa_nil))))
      (pss_one (ps_ret (pe_op op_mod (pe_op op_fdiv (pe_callTy call_int1 (by rfl) T.int (by decide +kernel) (pa_cons (pe_op op_add (pe_op op_mul (pv 5) pe_int) (pe_n C hr (by decide) (by rfl) (pa_cons (pv 5) (pa_cons (pe_op op_add pe_int (pv 2)) pa_nil)))) pa_nil)) pe_int) (pv 1))))))))), ?_⟩
    refine ⟨_, rfl, p, _, rfl, S.gAt, ?_⟩
    have S1 : Sta (upd H p (.dK (dS c l (t + 1)))) p c l n (t + 1) := by
      obtain ⟨cs, a1, a2⟩ := S.cs
      obtain ⟨ls, b1, b2, b3⟩ := S.ls
      exact ⟨upd_same, ⟨cs, by rw [upd_ne S.pc.symm]; exact a1, a2⟩, ⟨ls, by rw [upd_ne S.pl.symm]; exact b1, b2, b3⟩, S.ne, S.n1, S.n2, by have := S.t0; omega⟩
    have k1 : Kp p l H (upd H p (.dK (dS c l (t + 1)))) := fun b o e n1 _ => (upd_ne n1).trans e
    refine ⟨_, rfl, _, _, rfl, rfl, _, rfl, p, _, rfl, DPut.k (k := Sum.inr "at") S.d (by show 4 < sizeLine; decide), ?_⟩
    rw [put_at]
    generalize upd H p (.dK (dS c l (t + 1))) = H1 at S1 k1 ⊢
    obtain ⟨cs, a1, a2⟩ := S1.cs
    obtain ⟨ls, b1, b2, b3⟩ := S1.ls
    have n1 := S.n1
    have t0 := S.t0
    have r0 := Int.emod_nonneg t (b := (n : Int)) (by omega)
    have r1 := Int.emod_lt_of_pos t (b := (n : Int)) (by omega)
    obtain ⟨i, hi⟩ : ∃ i : Nat, t % (n : Int) = (i : Int) := ⟨(t % (n : Int)).toNat, by omega⟩
    have hin : i < n := by omega
    obtain ⟨zc, c1, c2⟩ := int_at (cs := cs) (i := i) (by omega)
    obtain ⟨zl, l1, l2⟩ := int_at (cs := ls) (i := i) (by omega)
    have zl0 : 0 ≤ zl := b3 zl (List.mem_of_getElem? l1)
    refine ⟨_, rfl, .inl ⟨t, rfl, _, rfl, p, _, rfl, S1.gCells, c, _, rfl, .inl (SqL.of a1), _, _, rfl, rfl, ?_, ?_⟩⟩
    · show (0 : Int) < ((cs.map V.int).length : Nat)
      rw [List.length_map, a2]
      omega
    · rw [List.length_map, a2]
      have l3 : atI (ls.map V.int) (t % (n : Int)) = some (V.int zl) := by
        rw [hi]
        exact atI_nat l2
      have c3 : atI (cs.map V.int) (t % (n : Int)) = some (V.int zc) := by
        rw [hi]
        exact atI_nat c2
      have hix : ixN (ls.map V.int).length (t % (n : Int)) = some i := by
        rw [hi, List.length_map, b2]
        unfold ixN
        rw [if_pos (by omega), if_pos (by omega)]
        simp
      refine ⟨_, rfl, p, _, rfl, S1.gLefts, _, rfl, l, _, _, _, rfl, rfl, SqL.of b1, l3, ?_⟩
      refine ⟨_, rfl, _, _, rfl, rfl, _, rfl, ?_⟩
      refine ite2 (fun q => ?_) (fun q => ?_)
      · refine ⟨_, rfl, _, rfl, _, _, rfl, rfl, ⟨by omega, by omega⟩, ?_⟩
        refine ⟨_, rfl, p, _, rfl, S1.gLefts, _, rfl, l, _, _, i, rfl, rfl, b1, hix, ?_⟩
        refine ⟨_, rfl, .inl ⟨zl, rfl, _, rfl, _, _, rfl, rfl, (by show (0 : Int) < m; omega), ?_⟩⟩
        refine k _ _ (Int.emod_nonneg _ (by omega)) (Int.emod_lt_of_pos _ (by omega)) ⟨?_, ⟨cs, ?_, a2⟩, ⟨ls.set i (zl.fdiv m), ?_, ?_, ?_⟩, S1.ne, S1.n1, S1.n2, S1.t0⟩ (k1.trans (fun b o e _ n2 => (upd_ne n2).trans e))
        · rw [upd_ne S1.pl]
          exact S1.d
        · rw [upd_ne S1.ne]
          exact a1
        · rw [upd_same, List.map_set]
        · rw [List.length_set, b2]
        · intro z hz
          rcases List.mem_or_eq_of_mem_set hz with h | h
          · exact b3 z h
          · rw [h, Int.fdiv_eq_ediv_of_nonneg _ (by omega)]
            exact Int.ediv_nonneg zl0 (by omega)
      · refine ⟨_, rfl, p, _, rfl, S1.gCells, _, rfl, c, _, _, _, rfl, rfl, SqL.of a1, c3, _, rfl, zc, t, rfl, t0, by omega, fun x x0 x1 => ?_⟩
        refine ⟨_, rfl, _, _, rfl, rfl, x, 40 + t, rfl, by omega, by omega, fun y y0 y1 => ?_⟩
        refine ⟨_, rfl, _, _, rfl, rfl, .inl ⟨by omega, by omega⟩, _, rfl, _, rfl, _, _, rfl, rfl, y, 7 + t, rfl, by omega, by omega, fun z z0 z1 => ?_⟩
        refine ⟨_, _, rfl, rfl, .inl ⟨_, rfl, _, _, rfl, rfl, ⟨by decide, by decide⟩, _, rfl, _, _, rfl, rfl, (by show (0 : Int) < m; omega), ?_⟩⟩
        exact k _ _ (Int.emod_nonneg _ (by omega)) (Int.emod_lt_of_pos _ (by omega)) S1 k1
end
end Rs


set_option Elab.async false
set_option linter.all false
set_option maxRecDepth 100000
set_option maxHeartbeats 400000
namespace Rs
open PySem L2 Bs Fq
/-- _law_begin(script) -/
def spBegin (K : PySem.W.Frag) : Sp := fun vs H Q _ => ∃ (a : Addr) (ns : List Int), vs = [.ref a] ∧ SqL K H a (ns.map V.int) ∧ ns.length ≤ 63 ∧
  ∀ (H' : Hp) (p c l : Addr) (n : Nat), Same H H' → H p = none → H l = none → Sta H' p c l n 0 → Q (.ref p) H'
/-- _law_of(state, some) -/
def spOf (K : PySem.W.Frag) : Sp := fun vs H Q _ => ∃ (p c l b : Addr) (n : Nat) (t : Int) (xs : List V), vs = [.ref p, .ref b] ∧ Sta H p c l n t ∧ t ≤ 10000 ∧ SqL K H b xs ∧ 1 ≤ xs.length ∧ xs.length ≤ 1000 ∧ b ≠ l ∧
  ∀ (H' : Hp) (v : V), v ∈ xs → Sta H' p c l n (t + 1) → Kp p l H H' → Q v H'
/-- _law_small(state) -/
def spSmall : Sp := fun vs H Q _ => ∃ (p c l : Addr) (n : Nat) (t : Int), vs = [.ref p] ∧ Sta H p c l n t ∧ t ≤ 9000 ∧
  ∀ (H' : Hp) (b : Addr) (x y : Int), -6 ≤ x → x ≤ 6 → 1 ≤ y → y ≤ 3 → H' b = some (fr (red x y)) → Sta H' p c l n (t + 2) → Kp p l H H' → Q (.ref b) H'
section
variable {P : Program} {w : World} {K : PySem.W.Frag} {mg : Str → Option Value} {base : Heap} {f : Addr} {fd : FuncData}
theorem scBegin : FnScope ["script", "cells", "cell"] ["script"] (defScope sBegin) := ⟨rfl, rfl, rfl, by decide +kernel, rfl, by decide +kernel, by decide +kernel⟩
theorem dp_ints {K : PySem.W.Frag} {H : Hp} : ∀ ns : List Int, DpAll K H (ns.map V.int) (ns.map PyData.int)
  | [] => .nil
  | n :: ns => .cons (.int n) (dp_ints ns)
def left (z : Int) : Int := if z ≥ 10 ^ 18 then z else 0
theorem left_nonneg (z : Int) : 0 ≤ left z := by
  unfold left
  split
  · have : (0 : Int) ≤ 10 ^ 18 := by decide
    omega
  · omega
theorem can_ints : ∀ ns : List Int, PyData.canLayAll0 (ns.map PyData.int) = true
  | [] => by simp [PyData.canLayAll0]
  | n :: ns => by
    have := can_ints ns
    simp [PyData.canLayAll0, PyData.canLay0, this]
theorem dep_ints : ∀ ns : List Int, PyData.depthAll (ns.map PyData.int) ≤ 1
  | [] => by simp [PyData.depthAll]
  | n :: ns => by
    have := dep_ints ns
    simp only [List.map_cons, PyData.depthAll, PyData.depth]
    omega
theorem shaped_ints (ns : List Int) : SeqAt.shaped (.list (ns.map PyData.int)) = true := by
  unfold SeqAt.shaped
  rw [Bool.and_eq_true_iff]
  refine ⟨?_, decide_eq_true ?_⟩
  · simpa [PyData.canLay0] using can_ints ns
  · have := dep_ints ns
    simp only [PyData.depth]
    omega
theorem some_int {cs : List Int} {i : Nat} {x : V} (h : (cs.map V.int)[i]? = some x) : ∃ z, cs[i]? = some z ∧ x = V.int z := by
  rw [List.getElem?_map] at h
  cases e : cs[i]? with
  | none =>
    rw [e] at h
    cases h
  | some z =>
    rw [e] at h
    exact ⟨z, rfl, (Option.some.inj h).symm⟩
theorem take_one {α : Type} {l : List α} {i : Nat} {x : α} (h : l[i]? = some x) : l.take (i + 1) = l.take i ++ [x] := by
  rw [List.take_add_one, h]
  rfl
theorem ok_begin (F : Fun K "_law_begin" "_law_begin" sBegin f fd) (T : Blt mg) : FnOk P w K mg base CX0 2 f fd ["script"] (spBegin K) := by
  refine F.ok scBegin (fun vs H Q E h => ?_) (fun cdv A outer s H vs Q E hr h => ?_)
  · obtain ⟨a, ns, rfl, _⟩ := h
    rfl
  · obtain ⟨a, ns, rfl, hS, hl, k⟩ := h
    refine ⟨_, C8.pss_cut (ps_set (i := 1) scBegin.nd rfl (Or.inl rfl) (pe_ifExp (pt_cmpR (op_neD hr.units) (pv 0) (pe_lst pa_nil) (nomark _)) (pe_callTy call_list_of (by rfl) T.list (by decide +kernel) (pa_cons (pv 0) pa_nil)) (pe_lst (pa_cons pe_int pa_nil))))
      (pss_one (ps_ret (pe_disp (pps_cons pe_str (pv 1) (pps_cons pe_str (pe_lc (own := [("cell", 2)]) (g := gName 2) (tt := tYes) rfl scBegin.nd (pi_list (pv 1)) (blkOk_by (N := ["script", "cells", "cell"]) (sc := defScope sBegin) (by decide +kernel))
          (fun _ _ _ _ _ => pg_name (i := 2) scBegin.nd rfl (Or.inl rfl)) (fun _ _ _ _ _ => pts_nil) (fun _ _ _ _ _ => pe_ifExp (pt_cmpR op_ge (pv 2) (pe_op op_pow pe_int pe_int) (nomark _)) (pv 2) pe_int))
        (pps_cons pe_str pe_int (pps_cons pe_str pe_int pps_nil)))) (by rfl) (by rfl) (fun z => by cases z) (by decide)))), ?_⟩
    refine ⟨fun σ H1 => ∃ (c : Addr) (cs : List Int), Same H H1 ∧ H1 c = some (.lst (cs.map V.int)) ∧ 1 ≤ cs.length ∧ cs.length ≤ 63 ∧ σ = [some (V.ref a), some (V.ref c), none], ?_, ?_⟩
    · refine ⟨_, rfl, (by show 0 ≤ sizeLine; decide), fun p0 hp0 => ?_⟩
      have s0 : Same H (upd H p0 (.lst [])) := same_new hp0
      refine ⟨.list (ns.map PyData.int), .list [], .lst (s0.seq hS) (dp_ints ns), .lst (SqL.of upd_same) .nil, ?_, rfl, _, rfl, ?_⟩
      · exact shaped_ints ns
      · have e : PyData.eqv (.list (ns.map PyData.int)) (.list []) = ns.isEmpty := by
          cases ns <;> rfl
        show if (!PyData.eqv (.list (ns.map PyData.int)) (.list [])) = true then _ else _
        rw [e]
        cases hn : ns with
        | nil =>
          refine iteF ⟨(by show 1 ≤ sizeLine; decide), fun p1 hp1 => ?_⟩
          exact ⟨p1, [0], s0.trans (same_new hp1), upd_same, Nat.le_refl _, (by show 1 ≤ 63; decide), rfl⟩
        | cons n ns' =>
          refine iteT ⟨_, rfl, a, _, rfl, .inl (s0.seq hS), fun p1 hp1 => ?_⟩
          exact ⟨p1, ns, s0.trans (same_new hp1), upd_same, by rw [hn]; exact Nat.succ_le_succ (Nat.zero_le _), hl, rfl⟩
    · rintro σ H1 ⟨c, cs, s1, hc, l1, l2, rfl⟩
      intro p hp
      have sp : Same H1 (upd H1 p (.dK [])) := same_new hp
      refine ⟨_, rfl, ?_⟩
      have np : H1 p = none := hp
      have hpc : c ≠ p := ne_of_none hc np
      refine ⟨_, rfl, c, rfl, ⟨_, SqL.of (sp _ _ hc)⟩, fun D hD => lc_list (K := K) (a := c) (xs := cs.map V.int)
        (fun i H2 => Same (upd H1 p (.dK [])) H2 ∧ H2 D = some (.lst ((cs.take i).map (fun z => V.int (left z))))) ⟨same_new hD, upd_same⟩ (fun i H2 _ z => SqL.of (z.1 _ _ (sp _ _ hc))) ?_ ?_⟩
      · rintro i x H2 hx ⟨s2, hD2⟩
        obtain ⟨z, hz, rfl⟩ := some_int hx
        have ln : (cs.take i).length ≤ 63 := by rw [List.length_take]; omega
        have fin : ∀ u : Int, u = left z → ∃ acc, H2 D = some (.lst acc) ∧ acc.length < sizeLine ∧ (Same (upd H1 p (.dK [])) (upd H2 D (.lst (acc ++ [V.int u]))) ∧ upd H2 D (.lst (acc ++ [V.int u])) D = some (.lst ((cs.take (i + 1)).map (fun z => V.int (left z))))) := by
          rintro u rfl
          refine ⟨_, hD2, by rw [List.length_map]; exact small1000 (by omega), fun b o e => ?_, ?_⟩
          · have : b ≠ D := ne_of_none e hD
            exact (upd_ne this).trans (s2 b o e)
          · rw [upd_same, take_one hz, List.map_append]
            rfl
        refine ⟨rfl, ?_⟩
        refine iteT (B := Same (upd H1 p (.dK [])) H2 ∧ H2 D = some (.lst ((cs.take (i + 1)).map (fun z => V.int (left z))))) ?_
        refine ⟨_, rfl, _, _, rfl, rfl, ⟨by decide, by decide, by decide⟩, _, _, rfl, rfl, _, rfl, ?_⟩
        refine ite2 (fun q => ⟨_, rfl, ?_⟩) (fun q => ?_)
        · have q' : z ≥ 10 ^ 18 := of_decide_eq_true q
          exact fin z (show z = left z from (if_pos q').symm)
        · have q' : ¬ z ≥ 10 ^ 18 := fun w => q (decide_eq_true w)
          exact fin 0 (show 0 = left z from (if_neg q').symm)
      · rintro H2 ⟨s2, hD2⟩
        have hpD : p ≠ D := by
          intro z
          rw [← z, upd_same] at hD
          cases hD
        rw [List.length_map, List.take_length] at hD2
        refine ⟨s2 _ _ upd_same, dS c D 0, rfl, (by show 4 ≤ 15; decide), ?_⟩
        have hDn : H1 D = none := by
          rw [upd_ne hpD.symm] at hD
          exact hD
        refine k _ p c D cs.length ?_ ?_ ?_ ⟨upd_same, ⟨cs, ?_, rfl⟩, ⟨cs.map left, ?_, by rw [List.length_map], ?_⟩, ne_of_none hc hDn, l1, l2, Int.le_refl _⟩
        · intro b o e
          have nb : b ≠ p := ne_of_none (s1 b o e) np
          rw [upd_ne nb]
          exact s2 b o (sp b o (s1 b o e))
        · exact s1.free np
        · exact s1.free hDn
        · rw [upd_ne hpc]
          exact s2 _ _ (sp _ _ hc)
        · rw [upd_ne hpD.symm, hD2, List.map_map]
          rfl
        · intro z hz
          obtain ⟨y, _, rfl⟩ := List.mem_map.mp hz
          exact left_nonneg y
end
end Rs


set_option Elab.async false
set_option linter.all false
set_option maxRecDepth 100000
set_option maxHeartbeats 400000
namespace Rs
open PySem L2 Bs Fq
theorem Kp.lst {K : PySem.W.Frag} {H H' : Hp} {p c l b : Addr} {n : Nat} {t : Int} {xs : List V} (k : Kp p l H H') (S : Sta H p c l n t) (h : SqL K H b xs) (nb : b ≠ l) : SqL K H' b xs := by
  rcases h with (s | ⟨o, s⟩) | s
  · exact .inl (.inl (k b _ s (ne_of s S.d (by intro z; cases z)) nb))
  · exact .inl (.inr ⟨o, k b _ s (ne_of s S.d (by intro z; cases z)) nb⟩)
  · exact .inr s
section
variable {P : Program} {w : World} {K : PySem.W.Frag} {mg : Str → Option Value} {base : Heap} {f : Addr} {fd : FuncData}
theorem scOf : FnScope ["state", "some"] ["state", "some"] (defScope sOf) := ⟨rfl, rfl, rfl, by decide +kernel, rfl, by decide +kernel, by decide +kernel⟩
theorem ok_of (F : Fun K "_law_of" "_law_of" sOf f fd) (T : Blt mg) (D : Cal P w K mg base 2 "_law_draw" spDraw) : FnOk P w K mg base CX0 3 f fd ["state", "some"] (spOf K) := by
  refine F.ok scOf (fun vs H Q E h => ?_) (fun cdv A outer s H vs Q E hr h => ?_)
  · obtain ⟨p, c, l, b, n, t, xs, rfl, _⟩ := h
    rfl
  · obtain ⟨p, c, l, b, n, t, xs, rfl, S, t1, hS, x1, x2, nb, k⟩ := h
    refine ⟨_, pss_one (ps_ret (pe_ix ix_list (pv 1) (pe_n D hr (by decide) (by rfl) (pa_cons (pv 0) (pa_cons (pe_callB call_len_seq (by rfl) T.len PySem.boot_len (pa_cons (pv 1) pa_nil)) pa_nil))) (fun _ _ => rfl))), ?_⟩
    refine ⟨_, rfl, _, rfl, _, rfl, b, _, rfl, .inl hS, p, c, l, n, t, _, rfl, S, t1, by omega, by omega, fun H' r r0 r1 S' kp => ?_⟩
    obtain ⟨i, rfl⟩ : ∃ i : Nat, r = (i : Int) := ⟨r.toNat, by omega⟩
    have hi : i < xs.length := by omega
    have hx : xs[i]? = some xs[i] := List.getElem?_eq_getElem hi
    exact ⟨b, xs, _, _, rfl, rfl, kp.lst S hS nb, atI_nat hx, k H' _ (List.getElem_mem hi) S' kp⟩
theorem scSmall : FnScope ["state"] ["state"] (defScope sSmall) := ⟨rfl, rfl, rfl, by decide +kernel, rfl, by decide +kernel, by decide +kernel⟩
theorem ok_small (F : Fun K "_law_small" "_law_small" sSmall f fd) (D : Cal P w K mg base 2 "_law_draw" spDraw) (R : Cal P w K mg base 1 "_law_ratio" spLRatio) : FnOk P w K mg base CX0 3 f fd ["state"] spSmall := by
  refine F.ok scSmall (fun vs H Q E h => ?_) (fun cdv A outer s H vs Q E hr h => ?_)
  · obtain ⟨p, c, l, n, t, rfl, _⟩ := h
    rfl
  · obtain ⟨p, c, l, n, t, rfl, S, t1, k⟩ := h
    refine ⟨_, pss_one (ps_ret (pe_n R hr (by decide) (by rfl) (pa_cons (pe_op op_sub (pe_n D hr (by decide) (by rfl) (pa_cons (pv 0) (pa_cons pe_int pa_nil))) pe_int)
      (pa_cons (pe_op op_add pe_int (pe_n D hr (by decide) (by rfl) (pa_cons (pv 0) (pa_cons pe_int pa_nil)))) pa_nil)))), ?_⟩
    refine ⟨_, rfl, p, c, l, n, t, 13, rfl, S, by omega, by decide, by decide, fun H1 x x0 x1 S1 k1 => ?_⟩
    refine ⟨_, _, rfl, rfl, _, rfl, p, c, l, n, t + 1, 3, rfl, S1, by omega, by decide, by decide, fun H2 y y0 y1 S2 k2 => ?_⟩
    refine ⟨_, _, rfl, rfl, _, _, rfl, by omega, ?_, fun b hb => ?_⟩
    · have : (1 + y).natAbs < 2 ^ 2 := by omega
      exact Lt2.mono (m := 2) this (by decide)
    · have e : t + 1 + 1 = t + 2 := by omega
      rw [e] at S2
      refine k _ b (x - 6) (1 + y) (by omega) (by omega) (by omega) (by omega) upd_same (S2.mono (same_new hb)) ((k1.trans k2).trans (Kp.of (same_new hb)))
end
end Rs


set_option Elab.async false
set_option linter.all false
set_option maxRecDepth 100000
set_option maxHeartbeats 2000000
/-! several clauses, each with a name of its own: try: .. except A as e: .. except B as e: .. -/
namespace TA2
open PySem PySem.Spec PyProof.Rows L2
abbrev Suite := Addr → Value → Option Addr → TS
/-- what the suite's ends are where the name in slot i goes behind it -/
def less (D : Ends) (i : Nat) : Ends where
  nx := fun τ G => D.nx (τ.set i none) G
  rt := D.rt
  bk := fun τ G => D.bk (τ.set i none) G
  ct := fun τ G => D.ct (τ.set i none) G
/-- the wishes of the clauses in turn: (class, slot, suite) -/
def wish (K : PySem.W.Frag) (nn : Nat) (Wo : WX) (D : Ends) : List (Value × Nat × Suite) → WX
  | [] => Wo
  | (c, i, ts) :: more => fun cls d τ G => ∃ b, PySem.W.exmOne K cls c = some b ∧
      (b = true → τ.length = nn → ∀ a, G a = none → ts a cls d (less D i) (τ.set i (some (.ref a))) G) ∧ (b = false → wish K nn Wo D more cls d τ G)
inductive Clauses (X : Cx) : List ExceptHandler → List (Value × Nat × Suite) → Prop
  | stop : Clauses X [] []
  | more {x n : Str} {c : Value} {i : Nat} {ts : Suite} {b0 : Stmt} {su : List Stmt} {p1 p2 : Pos} {hs : List ExceptHandler} {l : List (Value × Nat × Suite)}
      (named : Names X x c) (at_ : X.N[i]? = some n) (loc : X.env.kindOf n = some .local)
      (suite : ∀ (a : Addr) (oe : Obj) (cls : Value) (d : Option Addr) (pn : List (Addr × Obj)), Zc cls d oe → (∃ vs, oe.data = .fields vs) → PSs (X.suite a ((a, oe) :: pn)) (b0 :: su) (ts a cls d))
      (rest : Clauses X hs l) : Clauses X (.ExceptHandler (some (.Name x p1)) (some n) (b0 :: su) p2 :: hs) ((c, i, ts) :: l)
section
variable {X : Cx} {body : List Stmt} {hd0 : ExceptHandler} {hds : List ExceptHandler} {l : List (Value × Nat × Suite)} {pos : Pos} {tb : WX → TS} {Wo : WX}
theorem try_as (hs : X.stack = X.env :: X.outer) (hf : X.env.frame = some X.env.locals) (hN : X.N.Nodup) (tk : Takes X Wo)
    (hb : ∀ (W : WX) (pn : List (Addr × Obj)) (xe : Value → Shared → Prop), Takes (X.tr pn xe) W → PassesOwn (model X.prog X.w) X.A X.env xe → PSs (X.tr pn xe) body (tb W))
    (cl : Clauses X (hd0 :: hds) l) : PS X (.Try body (hd0 :: hds) [] [] pos) (fun D τ G => tb (wish X.K X.N.length Wo D l) D τ G) := by
  constructor
  intro pins s τ G D I h
  have okX := I.ok
  have frms : X.A.frames = some (X.env :: X.outer) := okX.frames.trans (congrArg some hs)
  apply wpAny_Try_except
  refine wpAny_mono ((hb (wish X.K X.N.length Wo D l) (X.pn ++ pins)
    (fun e0 s1 => wpAny (model X.prog X.w) X.A (noteFrame e0 X.env)
      (fun _ s2 => wpAny (model X.prog X.w) X.A (setFlight e0 none)
        (fun _ s3 => wpAny (model X.prog X.w) X.A (handleBy e0 X.env (hd0 :: hds)) (SP X pins D) X.xe s3) X.xe s2) X.xe s1)
    (fun u s' caught => ?_) PassesOwn.looking).run [] s τ G D (I.toTry _) h) (fun f s1 hsp => ?_) (fun _ _ he => he)
  · obtain ⟨a, B, sI, pins', τ', G', cls, d, rfl, J0, nb, up, sky0, na, os, ag, w⟩ := caught
    have J : Inv X pins τ' G' sI := J0.ofTry okX
    have sky : Sky B (X.env :: X.outer) a (Zc cls d) X.env.locals s'.heap := hs ▸ sky0
    show wpAny (model X.prog X.w) X.A (noteFrame (.ref a) X.env) _ _ _
    refine Sky.land Zc.steady frms hf sky (fun hp3 fl3 up3 => ?_)
    have J3 : Inv X pins τ' G' { s' with heap := hp3 } := J.landed nb fl3.1 (up.trans up3) os ag
    obtain ⟨ob3, vs3, ho3, hz3, hd3⟩ := fl3.there
    have nfr : a ∉ frs (X.env :: X.outer) := by
      intro hm
      obtain ⟨_, o2, e2, hne⟩ := fl3.2.2.1.mem hm
      have : o2 = ob3 := Option.some.inj (e2.symm.trans ho3)
      exact hne _ (this ▸ hd3)
    have nLoc : a ≠ X.env.locals := by
      intro z
      exact nfr (List.mem_filterMap.mpr ⟨X.env, List.mem_cons_self, hf.trans (congrArg some z.symm)⟩)
    have nOut : a ∉ X.fs := by
      intro hm
      obtain ⟨en, he, q⟩ := List.mem_filterMap.mp hm
      exact nfr (List.mem_filterMap.mpr ⟨en, List.mem_cons_of_mem _ he, q⟩)
    have S3 := J3.suite ho3 hd3 na nLoc nOut
    have go : ∀ {hs' : List ExceptHandler} {l' : List (Value × Nat × Suite)}, Clauses X hs' l' → wish X.K X.N.length Wo D l' cls d τ' G' →
        wpAny (model X.prog X.w) X.A (handleBy (.ref a) X.env hs') (SP X pins D) X.xe { s' with heap := hp3 } := by
      intro hs' l' hk
      induction hk with
      | stop =>
        intro w0
        apply wpAny_handleBy_nil
        obtain ⟨_, _, _, oe, vs, T, oT, ts0, he, hz, hdt, h1, hr⟩ := id fl3
        unfold PySem.passOn
        refine wpAny_bind (wpAny_field he hdt h1 ?_)
        rw [if_neg (by simp : ¬ ((Value.ref T == Value.none) = true))]
        have out : wpAny (model X.prog X.w) X.A (setFlight (.ref a) X.env.frame)
            (fun _ s4 => wpAny (model X.prog X.w) X.A (throw (.ref a) : Sem Flow) (SP X pins D) X.xe s4) X.xe { s' with heap := hp3 } := by
          rw [hf]
          refine HandSPX.setFlight_upZ fl3 (fun hp4 hh4 up4 => wpAny_throw (tk _ _ ?_))
          exact ⟨a, B, sI, pins, τ', G', cls, d, rfl, J, nb, (up.trans up3).trans up4, .inr (.inr (hs ▸ hh4)), na, os, ag, w0⟩
        first
          | exact wpAny_bind out
          | exact wpAny_bind (wpAny_pure (wpAny_bind out))
      | @more x n c i ts b0 su p1 p2 hs2 l2 named at_ loc suite rest ih =>
        intro w0
        obtain ⟨b, hb1, yes, no⟩ := w0
        refine wpAny_handleBy_cons (codeAny_handlers_test ?_) (fun q => nomatch q)
        have LT : PySem.W.Looks (model X.prog X.w) hp3 (typeOf (.ref a)) cls := fun A Q E s k q => wpAny_typeOf_ref (k _ _ ho3) (hz3.1 ▸ q)
        have LM := PySem.W.exm_one (M := model X.prog X.w) J3.kIn LT hb1
        have test : ∀ {Q : Value → Shared → Prop} {E : Value → Shared → Prop}, Q c { s' with heap := hp3 } →
            wpAny (model X.prog X.w) (X.A.mark (some (.ref a))) (eval (.Name x p1) X.env) Q E { s' with heap := hp3 } := by
          intro Q E q
          rcases named with ⟨g1, g2, hm | ⟨hm, hv, hnn⟩⟩
          · exact ld_glob (X := X.suite a ((a, ob3) :: (X.pn ++ pins))) S3 g1 hm q g2
          · exact ld_blt (X := X.suite a ((a, ob3) :: (X.pn ++ pins))) S3 g1 hm hv q hnn g2
        refine test (LM.here ?_)
        cases b with
        | false =>
          show wpAny _ X.A (handleBy (.ref a) X.env hs2) _ _ _
          exact ih (no rfl)
        | true =>
          apply codeAny_handlers_suite_as
          refine HandSPX.lands_againZ fl3 (fun hp4 fl4 up4 => ?_)
          have J4 : Inv X pins τ' G' { s' with heap := hp4 } := J.landed nb fl4.1 ((up.trans up3).trans up4) os ag
          obtain ⟨ob4, vs4, ho4, hz4, hd4⟩ := fl4.there
          have S4 := J4.suite ho4 hd4 na nLoc nOut
          refine store_ok (X := X.suite a ((a, ob4) :: (X.pn ++ pins))) (v := .ref a) S4 hN at_ (.inl loc) rfl (fun s5 S5 => ?_) (.inr loc)
          have ends : ∀ {s6 : Shared} {τ6 : L2.St} {G6 : Hp} {Q : Shared → Prop}, Inv (X.suite a ((a, ob4) :: (X.pn ++ pins))) [] τ6 G6 s6 →
              (∀ s7, Inv X pins (τ6.set i none) G6 s7 → Q s7) →
              wpAny (model X.prog X.w) X.A (do bindName X.env n .none; unbindBehindTheSuite X.env n p2) (fun _ s7 => Q s7) X.xe s6 :=
            fun {s6 τ6 G6 Q} S6 hq => gone_ok (S6.unsuite okX) hN at_ loc hq
          refine wpAny_mono ((suite a ob4 cls d (X.pn ++ pins) hz4 ⟨_, hd4⟩).run [] s5 _ G' _ S5 (yes rfl J.len a na)) (fun f s6 hsp => ?_) (fun _ _ z => z.elim)
          cases f with
          | ret u =>
            obtain ⟨v6, τ6, G6, S6, r6, q6⟩ := hsp
            exact ends S6 (fun s7 J7 => ⟨_, _, _, J7, r6, q6⟩)
          | next =>
            obtain ⟨τ6, G6, S6, q6⟩ := hsp
            exact ends S6 (fun s7 J7 => ⟨_, _, J7, q6⟩)
          | brk =>
            obtain ⟨τ6, G6, S6, q6⟩ := hsp
            exact ends S6 (fun s7 J7 => ⟨_, _, J7, q6⟩)
          | cont =>
            obtain ⟨τ6, G6, S6, q6⟩ := hsp
            exact ends S6 (fun s7 J7 => ⟨_, _, J7, q6⟩)
    exact go cl w
  · cases f with
    | ret u =>
      obtain ⟨v, τ1, G1, J1, r, q⟩ := hsp
      exact ⟨v, τ1, G1, J1.ofTry okX, r, q⟩
    | next =>
      obtain ⟨τ1, G1, J1, q⟩ := hsp
      exact wpAny_execs_nil ⟨τ1, G1, J1.ofTry okX, q⟩
    | brk =>
      obtain ⟨τ1, G1, J1, q⟩ := hsp
      exact ⟨τ1, G1, J1.ofTry okX, q⟩
    | cont =>
      obtain ⟨τ1, G1, J1, q⟩ := hsp
      exact ⟨τ1, G1, J1.ofTry okX, q⟩
end
end TA2


set_option Elab.async false
set_option linter.all false
set_option maxRecDepth 100000
set_option maxHeartbeats 2000000
/-! a lambda with one parameter that has an integer as its default, handed to a def that calls it without arguments -/
namespace LmD
open PySem PySem.Spec PyProof.Rows L2 LamX PySem.W
/-- the function's object: its default's tuple at T -/
abbrev fdD (qual : Str) (params : Arguments) (body : Expr) (scope : Scope) (cl : List (Str × Addr)) (T : Addr) (pm cdv ct : Value) : FuncData :=
  { kla_fn "<lambda>" qual params body scope cl pm cdv ct with defaults := .ref T }
abbrev obD (qual : Str) (params : Arguments) (body : Expr) (scope : Scope) (cl : List (Str × Addr)) (T : Addr) (pm cdv ct : Value) : Obj :=
  { cls := .type "function", data := .func (fdD qual params body scope cl T pm cdv ct) }
section
variable {M : Model} {A : Around} {E : Value → Shared → Prop} {s : Shared} {qual : Str} {params : Arguments} {body : Expr} {scope : Scope} {env : Env} {c P T : Addr} {ps : Array Value} {pos : Pos} {ln : Nat} {mg : Str → Option Value}
  {clos : List (Str × Addr)} {Q : Value → Shared → Prop}
theorem tailNew (hcl : closureFor scope env = pure clos) (g0 : env.globals = mainGlobals) (hg : s.heap.Ns mainGlobals mg) (hcode : env.code = .ref c) (C : CodeHd s.heap c P)
    (hP : s.heap.get? P = some (tabObj ps)) (ht : TriplesOk ps.toList) (hnf : codeAmong pos ps.toList = none) (hgP : mainGlobals ≠ P) (hb : s.heap.BuiltinsAt mg P)
    (h : ∀ c' ctv h' tk, Heap.ExtBut P s.heap h' → s.heap.objs.size ≤ c' → c' < h'.objs.size → h'.CodeRec (.ref c') qual →
      h'.get? P = some (tabObj (ps ++ #[rawInt pos.line, rawInt pos.col, .ref c'])) →
      Q (.ref h'.objs.size) { s with heap := h'.push (obD qual params body scope clos T ((mg "__name__").getD .none) (.ref c') ctv), toks := tk }) :
    wpAny M A (makeTail "<lambda>" qual params (.expr body) scope env (.ref T) .none none pos ln) Q E s := by
  obtain ⟨bm, ob, e1, e2, _, e3, e4, e5, e6, e7⟩ := hb
  unfold makeTail
  rw [hcl, g0]
  refine wpAny_bind (wpAny_pure ?_)
  by_cases hz : clos = []
  · subst hz
    simp only [List.isEmpty_nil, if_true]
    refine wpAny_bind (wpAny_pure (wpAny_bind (wpAny_functionCodeX hcode (C.code hP ht) (C.tab hP) hnf ?_)))
    intro c' h' tk hx hge hlt _ hrec htb _
    refine wpAny_bind (wpAny_builtinsFor (hg.extBut hx hgP) e1 e2 (hx _ _ e3 e4) e5 e6 e7 (wpAny_bind (wpAny_nsGet (hg.extBut hx hgP) ?_)))
    exact wpAny_bind (wpAny_pure (wpAny_newObj_type (h c' .none h' tk hx hge hlt hrec htb.2) (by size_fits)))
  · have hz' : clos.isEmpty = false := by
      cases clos with
      | nil => exact absurd rfl hz
      | cons _ _ => rfl
    simp only [hz', Bool.false_eq_true, if_false]
    have up : ∀ {oT : Obj} b o, s.heap.get? b = some o → (s.heap.push oT).get? b = some o := fun b o e => Heap.get?_push_of_some _ e
    refine wpAny_bind (wpAny_newTextTuple (wpAny_bind (wpAny_functionCodeX hcode ((C.keeps up).code (up _ _ hP) ht) ((C.keeps up).tab (up _ _ hP)) hnf ?_)))
    intro c' h' tk hx hge hlt _ hrec htb _
    have hx' : Heap.ExtBut P s.heap h' := fun b o nb e => hx b o nb (up _ _ e)
    have hgn := (hg.push _).extBut hx hgP
    have big : s.heap.objs.size ≤ c' := Nat.le_trans (by rw [Heap.size_push]; omega) hge
    refine wpAny_bind (wpAny_builtinsFor hgn e1 e2 (hx' _ _ e3 e4) e5 e6 e7 (wpAny_bind (wpAny_nsGet hgn ?_)))
    exact wpAny_bind (wpAny_pure (wpAny_newObj_type (h c' _ h' tk hx' big hlt hrec htb.2) (by size_fits)))
theorem tailOld {cv : Value} (hcl : closureFor scope env = pure clos) (g0 : env.globals = mainGlobals) (hg : s.heap.Ns mainGlobals mg) (hcode : env.code = .ref c) (C : CodeHd s.heap c P)
    (hP : s.heap.get? P = some (tabObj ps)) (ht : TriplesOk ps.toList) (hf : codeAmong pos ps.toList = some cv) (hb : s.heap.BuiltinsAt mg P)
    (h : ∀ (ctv : Value) (h' : Heap) (tk : Tok), (∀ b o, s.heap.get? b = some o → h'.get? b = some o) → s.heap.objs.size ≤ h'.objs.size →
      Q (.ref h'.objs.size) { s with heap := h'.push (obD qual params body scope clos T ((mg "__name__").getD .none) cv ctv), toks := tk }) :
    wpAny M A (makeTail "<lambda>" qual params (.expr body) scope env (.ref T) .none none pos ln) Q E s := by
  obtain ⟨bm, ob, e1, e2, _, e3, e4, e5, e6, e7⟩ := hb
  unfold makeTail
  rw [hcl, g0]
  refine wpAny_bind (wpAny_pure ?_)
  by_cases hz : clos = []
  · subst hz
    simp only [List.isEmpty_nil, if_true]
    refine wpAny_bind (wpAny_pure (wpAny_bind (wpAny_functionCode_hit hcode (C.code hP ht) hf ?_)))
    refine wpAny_bind (wpAny_builtinsFor hg e1 e2 e4 e5 e6 e7 (wpAny_bind (wpAny_nsGet hg ?_)))
    exact wpAny_bind (wpAny_pure (wpAny_newObj_type (h .none s.heap s.toks (fun _ _ e => e) (Nat.le_refl _)) (by size_fits)))
  · have hz' : clos.isEmpty = false := by
      cases clos with
      | nil => exact absurd rfl hz
      | cons _ _ => rfl
    simp only [hz', Bool.false_eq_true, if_false]
    have up : ∀ {oT : Obj} b o, s.heap.get? b = some o → (s.heap.push oT).get? b = some o := fun b o e => Heap.get?_push_of_some _ e
    refine wpAny_bind (wpAny_newTextTuple (wpAny_bind (wpAny_functionCode_hit hcode ((C.keeps up).code (up _ _ hP) ht) hf ?_)))
    refine wpAny_bind (wpAny_builtinsFor (hg.push _) e1 e2 (up _ _ e4) e5 e6 e7 (wpAny_bind (wpAny_nsGet (hg.push _) ?_)))
    exact wpAny_bind (wpAny_pure (wpAny_newObj_type (h _ _ s.toks up (by rw [Heap.size_push]; omega)) (by size_fits)))
end
/-- the parameters: one, x, with the default i -/
def one (x : Str) (i : Int) (p1 p2 : Pos) (j : Nat) : Arguments :=
  { posonlyargs := [], args := [{ arg := x, annotation := none, pos := p1 }], vararg := none, kwonlyargs := [], kw_defaults := [], kwarg := none, defaults := [.Constant (.int i) j p2] }
theorem evalD {M : Model} {A : Around} {E : Value → Shared → Prop} {s : Shared} {x : Str} {i : Int} {p1 p2 pos : Pos} {j : Nat} {body : Expr} {scope : Scope} {env : Env} {Q : Value → Shared → Prop}
    (h : wpAny M A (makeTail "<lambda>" (env.qual ++ "<lambda>") (one x i p1 p2 j) (.expr body) scope env (.ref s.heap.objs.size) .none none pos pos.line) Q E
      { s with heap := s.heap.push { cls := .type "tuple", data := .seq #[.int i s.toks] }, toks := s.toks + 1 }) :
    wpAny M A (eval (.Lambda (one x i p1 p2 j) body scope pos) env) Q E s := by
  rw [arm_eval_Lambda]
  show wpAny M A (do let dv ← evalAll [eval (.Constant (.int i) j p2) env]; let kdv ← holding dv (evalAllOpt []); makeFunction "<lambda>" (env.qual ++ "<lambda>") (one x i p1 p2 j) (.expr body) scope env dv kdv [] pos pos.line) Q E s
  refine wpAny_bind (wpAny_bind (wpAny_Constant_int (wpAny_bind (wpAny_holding (wpAny_pure (wpAny_pure ?_))))))
  refine wpAny_bind (wpAny_holding (wpAny_pure ?_))
  rw [makeFunction_eq]
  show wpAny M A (do let d ← newTextTuple [.int i s.toks]; makeTail "<lambda>" (env.qual ++ "<lambda>") (one x i p1 p2 j) (.expr body) scope env d .none none pos pos.line) Q E _
  exact wpAny_bind (wpAny_newTextTuple h)
/-- the default's tuple -/
abbrev tupD (i : Int) (t : Tok) : Obj := { cls := .type "tuple", data := .seq #[.int i t] }
section
variable {X : Cx} {pins : List (Addr × Obj)} {σ : L2.St} {H : Hp} {s : Shared}
theorem makeD {Ts : List (Addr × Str)} {c P : Addr} {x : Str} {i : Int} {p1 p2 pos : Pos} {j : Nat} {body : Expr} {scope : Scope} {E : Value → Shared → Prop} {Q : Value → Shared → Prop} (I : L2.Inv X pins σ H s) (TB : TabB X.base X.mg c P) (hcode : X.env.code = .ref c)
    (hm : (P, X.env.qual ++ "<lambda>") ∈ Ts) (hu : ∀ p ∈ Ts, p.1 = P → p.2 = X.env.qual ++ "<lambda>") (hT : Tabs Ts H) (hfree : ∀ y ∈ scope.names, y.2 = .free → ∃ c, X.env.cells.lookup y.1 = some c)
    (h : ∀ (f c' Ta : Addr) (pm ctv : Value) (H1 : Hp) (s' : Shared) (t : Tok), L2.Inv X pins σ H1 s' → ExtN H H1 → Tabs Ts H1 →
      s'.heap.get? f = some (obD (X.env.qual ++ "<lambda>") (one x i p1 p2 j) body scope (cloFrom X.env.cells scope.names []) Ta pm (.ref c') ctv) → H1 f = none → f ∉ frs X.stack →
      s'.heap.get? Ta = some (tupD i t) → H1 Ta = none → Ta ∉ frs X.stack → H1 c' = some (CodeO c' (X.env.qual ++ "<lambda>")) → Q (.ref f) s') :
    wpAny (model X.prog X.w) X.A (eval (.Lambda (one x i p1 p2 j) body scope pos) X.env) Q E s := by
  refine evalD ?_
  have I0 : L2.Inv X pins σ H { s with heap := s.heap.push (tupD i s.toks), toks := s.toks + 1 } := I.kept fun b o e => Heap.get?_push_of_some _ e
  have atT : (s.heap.push (tupD i s.toks)).get? s.heap.objs.size = some (tupD i s.toks) := Heap.get?_push_size _ rfl
  have noT : H s.heap.objs.size = none := I.hok.fresh (Nat.le_refl _)
  have outside : ∀ a, s.heap.objs.size ≤ a → a ∉ frs X.stack := fun a ha z => by
    rcases List.mem_cons.mp (I.stkSub _ z) with e | e
    · exact Nat.lt_irrefl _ (Nat.lt_of_lt_of_le (e ▸ I.lt) ha)
    · exact I.nofs ha e
  obtain ⟨ps, hP, ht, ha⟩ := hT _ hm
  have sz0 : s.heap.objs.size < (s.heap.push (tupD i s.toks)).objs.size := by rw [Heap.size_push]; omega
  have bP : (s.heap.push (tupD i s.toks)).BuiltinsAt X.mg P := TB.bm.keeps I0.bk
  have hP' : (s.heap.push (tupD i s.toks)).get? P = some { cls := .none, data := .fields ps } := I0.hok P _ hP
  have PT : s.heap.objs.size ≠ P := fun z => by
    rw [← z, noT] at hP
    cases hP
  cases hc : codeAmong pos ps.toList with
  | none =>
    refine tailNew (mg := X.mg) (c := c) (P := P) (ps := ps) (closure_ok hfree) I0.ok.glob (I0.mod.glob.keeps I0.bk) hcode (TB.code.keeps I0.bk) hP' ht hc TB.gP bP (fun c' ctv h' tk hx hge hlt hrec htb => ?_)
    obtain ⟨c2, oc, vs, t, e2, hoc, hd, hv⟩ := hrec
    cases e2
    have szl : (s.heap.push (tupD i s.toks)).objs.size ≤ h'.objs.size := Nat.le_trans hge (Nat.le_of_lt hlt)
    have nC : H c' = none := I0.hok.fresh hge
    have J := inv_table (t' := tk) (more := #[rawInt pos.line, rawInt pos.col, .ref c'])
      (h' := h'.push (obD (X.env.qual ++ "<lambda>") (one x i p1 p2 j) body scope (cloFrom X.env.cells scope.names []) s.heap.objs.size ((X.mg "__name__").getD .none) (.ref c') ctv)) I0 hP
      (fun b o nb e => Heap.get?_push_of_some _ (hx b o nb e)) (Heap.get?_push_of_some _ htb) hge ⟨oc, vs, t, Heap.get?_push_of_some _ hoc, hd, hv⟩
    have grown : ExtN H (upd (upd H P (.tbl (ps ++ #[rawInt pos.line, rawInt pos.col, .ref c']))) c' (CodeO c' (X.env.qual ++ "<lambda>"))) := by
      intro b o e n
      have nb : b ≠ P := fun z => n ps (Option.some.inj (e.symm.trans (z ▸ hP)))
      rw [upd_ne (ne_of_none e nC), upd_ne nb]
      exact e
    have asList : (ps ++ #[rawInt pos.line, rawInt pos.col, .ref c']).toList = ps.toList ++ [rawInt pos.line, rawInt pos.col, .ref c'] := by simp
    have tabs' : Tabs Ts (upd (upd H P (.tbl (ps ++ #[rawInt pos.line, rawInt pos.col, .ref c']))) c' (CodeO c' (X.env.qual ++ "<lambda>"))) := by
      intro p hp
      by_cases hb : p.1 = P
      · rw [hu p hp hb, hb]
        refine ⟨_, (upd_ne (ne_of_none hP nC)).trans upd_same, by rw [asList]; exact PySem.TriplesOk_snoc _ _ _ _ ht, fun p' cv hcv => ?_⟩
        rw [asList] at hcv
        rcases among_app _ ht hcv with z | z
        · obtain ⟨c0, q1, q2⟩ := ha p' cv z
          exact ⟨c0, q1, grown _ _ q2 codeO_ne⟩
        · exact ⟨c', z, upd_same⟩
      · obtain ⟨ps', a1, a2, a3⟩ := hT p hp
        refine ⟨ps', by rw [upd_ne (ne_of_none a1 nC), upd_ne hb]; exact a1, a2, fun p' cv hcv => ?_⟩
        obtain ⟨c0, q1, q2⟩ := a3 p' cv hcv
        exact ⟨c0, q1, grown _ _ q2 codeO_ne⟩
    have old : ∀ {b : Addr}, b ≠ c' → b ≠ P → H b = none → upd (upd H P (.tbl (ps ++ #[rawInt pos.line, rawInt pos.col, .ref c']))) c' (CodeO c' (X.env.qual ++ "<lambda>")) b = none := fun {b} n1 n2 e => by rw [upd_ne n1, upd_ne n2]; exact e
    refine h h'.objs.size c' s.heap.objs.size ((X.mg "__name__").getD .none) ctv _ _ s.toks J grown tabs' (Heap.get?_push_size _ rfl) ?_ (outside _ (Nat.le_trans (Nat.le_of_lt sz0) szl)) (Heap.get?_push_of_some _ (hx _ _ PT atT)) ?_ (outside _ (Nat.le_refl _)) upd_same
    · exact old (Nat.ne_of_gt hlt) (Nat.ne_of_gt (Nat.lt_of_lt_of_le (Heap.lt_size hP') szl)) (I0.hok.fresh szl)
    · exact old (Nat.ne_of_lt (Nat.lt_of_lt_of_le sz0 hge)) PT noT
  | some cv =>
    obtain ⟨c', e, hco⟩ := ha pos cv hc
    subst e
    refine tailOld (mg := X.mg) (c := c) (P := P) (ps := ps) (closure_ok hfree) I0.ok.glob (I0.mod.glob.keeps I0.bk) hcode (TB.code.keeps I0.bk) hP' ht hc bP (fun ctv h' tk hx hsz => ?_)
    have J : L2.Inv X pins σ H { s with heap := h'.push (obD (X.env.qual ++ "<lambda>") (one x i p1 p2 j) body scope (cloFrom X.env.cells scope.names []) s.heap.objs.size ((X.mg "__name__").getD .none) (.ref c') ctv), toks := tk } :=
      I.kept fun b o e => Heap.get?_push_of_some _ (hx b o (Heap.get?_push_of_some _ e))
    exact h h'.objs.size c' s.heap.objs.size ((X.mg "__name__").getD .none) ctv H _ s.toks J (ExtN.refl H) hT (Heap.get?_push_size _ rfl) (I0.hok.fresh hsz) (outside _ (Nat.le_trans (Nat.le_of_lt sz0) hsz)) (Heap.get?_push_of_some _ (hx _ _ atT)) noT (outside _ (Nat.le_refl _)) hco
end
/-! ### the names of such a lambda -/
/-- x its parameter; no cells; the others are captured or global -/
structure ScD (sc scope : Scope) (x : Str) : Prop where
  kind : scope.kind = .function
  co : scope.isCoroutine = false
  gen : scope.isGenerator = false
  own : ∀ y ∈ scope.names, y.2 ≠ .cell ∧ (y.2 = .local → y.1 = x)
  has : scope.names.lookup x = some .local
  free : ∀ y ∈ scope.names, y.2 = .free → sc.names.lookup y.1 = some .cell ∨ sc.names.lookup y.1 = some .free
def scDB (sc scope : Scope) (x : Str) : Bool :=
  decide (scope.kind = .function) && (!scope.isCoroutine) && (!scope.isGenerator) && decide (scope.names.lookup x = some .local) &&
    scope.names.all fun y => (!decide (y.2 = .cell)) && ((!decide (y.2 = .local)) || decide (y.1 = x)) && ((!decide (y.2 = .free)) || decide (sc.names.lookup y.1 = some .cell) || decide (sc.names.lookup y.1 = some .free))
theorem scD_by {sc scope : Scope} {x : Str} (h : scDB sc scope x = true) : ScD sc scope x := by
  unfold scDB at h
  simp only [Bool.and_eq_true, Bool.or_eq_true, Bool.not_eq_true', decide_eq_true_eq, decide_eq_false_iff_not, List.all_eq_true] at h
  obtain ⟨⟨⟨⟨h1, h2⟩, h3⟩, h5⟩, h4⟩ := h
  refine ⟨h1, h2, h3, fun y hy => ⟨(h4 y hy).1.1, fun e => ?_⟩, h5, fun y hy e => ?_⟩
  · rcases (h4 y hy).1.2 with z | z
    · exact absurd e z
    · exact z
  · rcases (h4 y hy).2 with (z | z) | z
    · exact absurd e z
    · exact .inl z
    · exact .inr z
theorem ScD.look {X : Cx} {scope : Scope} {x : Str} (S : ScD X.env.scope scope x) (ok : X.Ok) : ∀ y ∈ scope.names, y.2 = .free → ∃ c, X.env.cells.lookup y.1 = some c := fun y hy e =>
  ok.has _ (S.free y hy e)
section
variable {X : Cx} {pins : List (Addr × Obj)} {σ : L2.St} {H HZ : Hp} {s s1 : Shared}
theorem startD {A : Around} {outer : List Env} {E : XK} {scope : Scope} {x : Str} {v : Value} {f c' : Addr} {h₁ : Heap} {tk : Nat} (I : L2.Inv X pins σ H s) (S : ScD X.env.scope scope x) (nx : ∀ i : Nat, X.N[i]? ≠ some x)
    (e0 : Env0 X.prog X.w X.K X.mg X.base A outer s1 HZ) (hd : A.handled = none) (un : Un (frs X.stack) [] H HZ s.heap s1.heap)
    (hns : h₁.Ns s1.heap.objs.size fun y => ([(x, v)] : List (Str × Value)).reverse.lookup y) (kp : ∀ b o, s1.heap.get? b = some o → h₁.get? b = some o) :
    L2.Inv (lamCx X A outer s1 HZ E scope f c') [] σ HZ { s1 with heap := h₁, toks := tk } := by
  have hfree := S.look I.ok
  have fromCells : ∀ {y c}, (cloFrom X.env.cells scope.names []).lookup y = some c → X.env.cells.lookup y = some c := by
    intro y c e
    rcases cloFrom_mem (PySem.mem_of_lookup e) with hm | ⟨k1, k2⟩
    · cases hm
    · obtain ⟨c1, hc⟩ := hfree _ k1 rfl
      have hc : X.env.cells.lookup y = some c1 := hc
      have : c = c1 := by rw [k2, hc] <;> rfl
      rw [this]
      exact hc
  have toCells : ∀ {y}, scope.names.lookup y = some .free → ∃ c, (cloFrom X.env.cells scope.names []).lookup y = some c := fun {y} hl =>
    mem_lookup (cloFrom_has (cells := X.env.cells) (acc := []) (PySem.mem_of_lookup hl))
  have cellKept : ∀ {c : Addr} {u : Option Value}, H c = none → s.heap.IsCell c u → h₁.IsCell c u := by
    intro c u n ⟨o, ho, hdt⟩
    obtain ⟨sl, q⟩ := un.any ho n (by simp)
    exact ⟨_, kp _ _ q, hdt⟩
  have none_ : ∀ b : Addr, b ∉ (lamCx X A outer s1 HZ E scope f c').ex := fun b z => nomatch (show b ∈ ([] : List Addr) from z)
  refine ⟨⟨e0.mod, S.kind, rfl, rfl, Nat.le_refl _, fun y z c k1 k2 => I.ok.inj y z c (fromCells k1) (fromCells k2), fun y hy => ?_, fun y c z _ => (Bool.false_ne_true z).elim, fun _ => hd,
      Around.frames_deeper e0.frames, .inr ⟨rfl, rfl⟩, fun b z => absurd z (none_ b), e0.bs, e0.bsz, fun b _ _ => none_ b, fun b z => absurd z (none_ b), e0.funs, e0.frf⟩,
    rfl, e0.bare, Un.kept kp, ⟨_, hns, fun i y u k1 k2 k3 => ?_⟩, fun y c e => ?_, e0.hok.fresh (Nat.le_refl _), fun y c e => ?_, fun q hq => (List.not_mem_nil (show q ∈ ([] : List (Addr × Obj)) from hq)).elim, e0.hok.kept kp, I.len⟩
  · have hy : scope.names.lookup y = some .cell ∨ scope.names.lookup y = some .free := hy
    rcases hy with hy | hy
    · exact absurd rfl (S.own _ (PySem.mem_of_lookup hy)).1
    · exact toCells hy
  · have k3 : Vis scope y := k3
    rcases k3 with k | k | k
    · have : y = x := (S.own _ (PySem.mem_of_lookup k)).2 rfl
      exact absurd (this ▸ k1) (nx i)
    · exact absurd rfl (S.own _ (PySem.mem_of_lookup k)).1
    · obtain ⟨m, hn, hl⟩ := I.loc
      have outerK := S.free _ (PySem.mem_of_lookup k) rfl
      obtain ⟨w', r, q⟩ := hl i y u k1 k2 (outerK.elim (fun z => .inr (.inl z)) (fun z => .inr (.inr z)))
      obtain ⟨c2, h2⟩ := toCells k
      refine ⟨w', r, .inr ⟨.inr k, c2, h2, ?_⟩⟩
      have c1 := fromCells h2
      rcases q with ⟨kl, _⟩ | ⟨_, c3, e', z⟩
      · have kl : X.env.scope.names.lookup y = some .local := kl
        rcases outerK with o2 | o2 <;> rw [show X.env.scope.names.lookup y = _ from o2] at kl <;> cases kl
      · rw [c1] at e'
        cases e'
        exact cellKept (I.freeC y _ c1) z
  · obtain ⟨w', z⟩ := I.cell y c (fromCells e)
    exact ⟨w', cellKept (I.freeC y c (fromCells e)) z⟩
  · obtain ⟨u, o, ho, hdt⟩ := I.cell y c (fromCells e)
    exact un.free c o ho (I.freeC y c (fromCells e)) (by simp)
/-- how the call without arguments binds -/
def BindD (x : Str) (i : Int) (params : Arguments) (body : Expr) (scope : Scope) : Prop :=
  ∀ (qual : Str) (cl : List (Str × Addr)) (T : Addr) (pm cv ctv : Value) (t : Tok), ∃ k, bindArgs (fdD qual params body scope cl T pm cv ctv) ⟨[], []⟩ = seqItems? (.ref T) >>= k ∧ k (some #[.int i t]) = pure [(x, .int i t)]
/-- a(), in the def that got the lambda -/
theorem actD {CXg : CXT} {Eg : XK} {Ng : List Str} {qg : Str} {sg : Scope} {g f c' Ta : Addr} {cdg pm ctv : Value} {params : Arguments} {body : Expr} {scope : Scope} {k i : Nat} {a x : Str} {n : Int} {t : Tok} {pn : List (Addr × Obj)} {xe : Value → Shared → Prop} {W : WX} {E : XK} {tb : TE} {p1 p2 : Pos}
    (I : L2.Inv X pins σ H s) (S : ScD X.env.scope scope x) (nx : ∀ i : Nat, X.N[i]? ≠ some x)
    (hf : s.heap.get? f = some (obD (X.env.qual ++ "<lambda>") params body scope (cloFrom X.env.cells scope.names []) Ta pm (.ref c') ctv)) (hfn : H f = none) (hfr : f ∉ frs X.stack)
    (hT : s.heap.get? Ta = some (tupD n t)) (hTn : H Ta = none) (hTr : Ta ∉ frs X.stack) (hb : BindD x n params body scope)
    (tk : Takes ((cxOf CXg X.prog X.w X.K X.mg X.base Ng qg sg g cdg X.A X.stack s H Eg).tr pn xe) W) (hW : ∀ cls d σ' H', E cls d H' → W cls d σ' H') (hr : Room (k + 1) (X.A.deeper (envOfC qg sg s.heap.objs.size g cdg)))
    (hbody : ∀ (A : Around) (outer : List Env) (s : Shared) (H : Hp), Room k (A.deeper (lamEnv X scope s.heap.objs.size f c')) → PE (lamCx X A outer s H E scope f c') body tb)
    (hN : Ng[i]? = some a) (hv : Vis sg a) (hd : (a == ("__debug__" : Str)) = false := by decide) (hcd : (a == ("__classdict__" : Str)) = false := by decide) :
    PE ((cxOf CXg X.prog X.w X.K X.mg X.base Ng qg sg g cdg X.A X.stack s H Eg).tr pn xe) (.Call (.Name a p1) [] [] p2)
      (fun σZ HZ Q => σZ[i]? = some (some (.ref f)) ∧ HZ c' = some (CodeO c' (X.env.qual ++ "<lambda>")) ∧ tb σ HZ Q) := by
  constructor
  intro pinsZ sZ σZ HZ Q IZ ⟨hs, hc, ht⟩
  refine wpAny_Call_Name_kw (thn ((pe_var (pos := p1) (i := i) hN hv hd hcd).run pinsZ sZ σZ HZ (fun v H1 => v = .ref f ∧ H1 = HZ) IZ ⟨.ref f, hs, rfl, rfl⟩) (fun u s1 ⟨v, H1, I1, r1, ev, eH⟩ => ?_))
  subst ev
  subst eH
  obtain rfl : u = Value.ref f := r1
  have nil_ : ∀ b : Addr, b ∉ ([] : List Addr) := fun b z => nomatch z
  have of1 := I1.base.keep f _ hf hfn hfr (nil_ f)
  have oT1 : s1.heap.get? Ta = some (tupD n t) := I1.base.keep Ta _ hT hTn hTr (nil_ Ta)
  refine PySem.W.callWith_F0 ⟨_, _, _, _, of1⟩ ?_
  have un : Un (frs X.stack) [] H H1 s.heap s1.heap := I1.base
  obtain ⟨⟨oc, vs, tq, hoc, hdc, hvc⟩, _, _⟩ := I1.hok c' _ hc
  have rc : codeAny (model X.prog X.w) (X.A.deeper (envOfC qg sg s.heap.objs.size g cdg)) (.call (.ref f) ⟨[], []⟩)
      (CR (L2.CX X.prog X.w) (envOfC qg sg s.heap.objs.size g cdg :: X.stack) X.prog X.w H1 s1 Q E) s1 := by
    refine PySem.W.kla_callFunE hr.depth of1 rfl S.co S.gen rfl ⟨c', oc, vs, tq, rfl, hoc, hdc, hvc⟩ ?_
    obtain ⟨kk, b1, b2⟩ := hb (X.env.qual ++ "<lambda>") (cloFrom X.env.cells scope.names []) Ta pm (.ref c') ctv t
    refine BindsTo.of_defaults (T := Ta) (o := tupD n t) rfl oT1 rfl b1 b2 _ _ _ _ ?_
    refine wpAny_newFunctionEnv (fun y hy => (S.own y hy).1) (fun y hy => ?_) (fun h₁ hns hsb => ⟨I1.nolimit.fresh _ hsb, ?_⟩) S.kind
    · obtain rfl : y = (x, Value.int n t) := List.mem_singleton.mp hy
      exact S.has
    show codeAny _ _ (.expr body (lamEnv X scope s1.heap.objs.size f c')) _ _
    have kp : ∀ b o, s1.heap.get? b = some o → h₁.get? b = some o := fun b o e => hsb.extBut b o (Nat.ne_of_lt (Heap.lt_size e)) (Heap.get?_push_of_some _ e)
    have J := startD (tk := s1.toks + ([(x, Value.int n t)] : List (Str × Value)).length) (E := E) (f := f) (c' := c') I S nx I1.env0 hr.hd un hns kp
    refine PySem.W.kla_codeExpr (wpAny_mono ((hbody _ _ s1 H1 (hr.deeper _)).run [] _ _ H1 Q J ht) (fun v s' ⟨w', H', J', rv, q⟩ => ?_) (fun _ _ hq => hq))
    exact ⟨w', H', J'.os, J'.bare, J'.base, J'.hok, rv, q⟩
  have hx : Passes (L2.CX X.prog X.w) ((cxOf CXg X.prog X.w X.K X.mg X.base Ng qg sg g cdg X.A X.stack s H Eg).tr pn xe) E := passes_call tk hW
  refine wpAny_call (codeAny_mono rc (fun r s' hq => ?_))
  rcases r with e | fl
  · exact hx pinsZ σZ H1 s1 e s' I1 hq
  · cases fl with
    | ret u => exact I1.after hq
    | next => exact hq.elim
    | brk => exact hq.elim
    | cont => exact hq.elim
/-- g(lambda x=i: body) -/
theorem pe_lamD {Ts : List (Addr × Str)} {TT : (XK → Hp → VK → Prop) → Hp → VK → Prop} {gn a x : Str} {n : Int} {g c P : Addr} {k j : Nat} {pg : Arguments} {bg : List Stmt} {sg : Scope} {dV kV doc pm cdv ct oc : Value} {an od : Option Addr} {osl : Array (Option Value)} {Ng : List Str}
    {body : Expr} {scope : Scope} {t : XK → TE} {p lpos pos p1 p2 : Pos} (hg : Gl X gn) (hm : X.mg gn = some (.ref g)) (hk : PySem.W.keepIn X.K (.ref g) = true)
    (lk : X.K.lookup g = some ⟨oc, od, .func (PySem.W.fnOf gn gn pg bg sg dV kV doc pm an cdv ct), osl⟩) (hcg : PySem.W.codeIn X.K cdv gn = true) (hb : L2.Binds X.K (PySem.W.fnOf gn gn pg bg sg dV kV doc pm an cdv ct) [a] [])
    (Sg : FnScope Ng [a] sg) (hNg : Ng[0]? = some a) (hva : Vis sg a) (hG : GivesTo X Ng gn sg g cdv bg a (X.env.qual ++ "<lambda>") TT)
    (TB : TabB X.base X.mg c P) (hcode : X.env.code = .ref c) (hmT : (P, X.env.qual ++ "<lambda>") ∈ Ts) (hu : ∀ p ∈ Ts, p.1 = P → p.2 = X.env.qual ++ "<lambda>") (hr : Room (k + 2) X.A)
    (S : ScD X.env.scope scope x) (nx : ∀ i : Nat, X.N[i]? ≠ some x) (hbd : BindD x n (one x n p1 p2 j) body scope)
    (hbody : ∀ (A : Around) (outer : List Env) (s : Shared) (H : Hp) (E : XK) (f c' : Addr), Room k (A.deeper (lamEnv X scope s.heap.objs.size f c')) → PE (lamCx X A outer s H E scope f c') body (t E))
    (hdb : (gn == ("__debug__" : Str)) = false := by decide) (hd : (a == ("__debug__" : Str)) = false := by decide) (hcd : (a == ("__classdict__" : Str)) = false := by decide) :
    PE X (.Call (.Name gn p) [.Lambda (one x n p1 p2 j) body scope lpos] [] pos) (tLam Ts TT t) := by
  constructor
  intro pins s σ H Q I ⟨hT, h⟩
  refine wpAny_Call_Name_kw (ld_glob I hg hm ?_ hdb)
  refine PySem.W.callWith_K (h₀ := X.base) I.ok.mod.kin hk ?_ (by rfl) (by rfl)
  show wpAny _ _ (spliced ((false, eval (.Lambda (one x n p1 p2 j) body scope lpos) X.env) :: backTo pos (starEach [] X.env))) _ _ s
  refine Calls.spliced_cons (makeD I TB hcode hmT hu hT (S.look I.ok) (fun f c' Ta pm' ctv H1 s' tq I1 eN T1 hf hfn hfr hTa hTn hTr hco => ?_))
  refine Calls.spliced_nil ⟨I1.kIn, ?_⟩
  have rc : codeAny (model X.prog X.w) X.A (.call (.ref g) ⟨[.ref f], []⟩) (CR C8.CX0 X.stack X.prog X.w H1 s' Q C8.E0) s' := by
    refine run_ofS (N := Ng) (ps := [a]) (us := [.ref f]) (vs := [.ref f]) lk hcg Sg hr I1.env0 (hb s' [.ref f] I1.kIn rfl) (.cons rfl .nil) rfl (fun hr' => ?_)
    obtain ⟨t', ht', hq'⟩ := hG f c' s' H1 Q (fun E H' Q' => t E σ H' Q')
      (fun W pn xe E p1 p2 tk hW => actD (i := 0) I1 S nx hf hfn hfr hTa hTn hTr hbd tk hW hr' (fun A outer s H hr2 => hbody A outer s H E f c' hr2) hNg hva hd hcd) hco (h H1 eN T1)
    exact ⟨t', ht'.nox, hq'⟩
  refine wpAny_call (codeAny_mono rc (fun r s2 hq => ?_))
  rcases r with e | fl
  · exact (show False from hq).elim
  · cases fl with
    | ret u => exact I1.after hq
    | next => exact hq.elim
    | brk => exact hq.elim
    | cont => exact hq.elim
end
end LmD


set_option Elab.async false
set_option linter.all false
set_option maxRecDepth 100000
set_option maxHeartbeats 2000000
/-! try: return [call()] / except A as e: return (word, e.field) / .. , given a lambda -/
namespace Hd
open PySem PySem.Spec PyProof.Rows L2 LamX TA2
/-- what a clause hands back -/
def word (w f : Str) (C : Addr) (i : Nat) : Suite := fun a cls d => tRet (tTup (tCons (tC (.str w)) (tCons (tXf a cls d C f (tVar i)) tNil)))
/-- word, field, class -/
abbrev Row := Str × Str × Addr
def rowsOf (i : Nat) (l : List Row) : List (Value × Nat × Suite) := l.map fun r => (.ref r.2.2, i, word r.1 r.2.1 r.2.2 i)
theorem one_clause {X : Cx} {w f x n : Str} {i k1 k2 : Nat} {C : Addr} {p1 p2 p3 p4 p5 p6 p7 : Pos} {hs : List ExceptHandler} {l : List Row} (T : XfC X.K C) (no : PySem.W.findIn X.K (.ref C) f = some none)
    (named : Names X x (.ref C)) (at_ : X.N[i]? = some n) (loc : X.env.kindOf n = some .local) (rest : Clauses X hs (rowsOf i l))
    (hd : (n == ("__debug__" : Str)) = false := by decide) (hcd : (n == ("__classdict__" : Str)) = false := by decide)
    (hb : attributeBase (.Name n p4) f X.env (eval (.Name n p4) X.env) = eval (.Name n p4) X.env := by rfl) :
    Clauses X (.ExceptHandler (some (.Name x p1)) (some n) [.Return (some (.Tuple [.Constant (.str w) k1 p3, .Attribute (.Name n p4) f p5] k2 p6)) p7] p2 :: hs) (rowsOf i ((w, f, C) :: l)) :=
  .more named at_ loc (fun a oe cls d pn hz hf => pss_one (ps_ret (pe_tup (pa_cons pe_str (pa_cons (pe_xf T no hz hf (pe_var at_ (.inl loc) hd hcd) hb) pa_nil))))) rest
/-- the wish, free of slots -/
def hE (K : PySem.W.Frag) (Q : VK) : List Row → XK
  | [] => fun _ _ _ => False
  | (w, f, C) :: more => fun cls d H => ∃ b, PySem.W.exmOne K cls (.ref C) = some b ∧
      (b = true → cls = .ref C ∧ ∃ (dd : Addr) (fs : List (Str × V)) (v : V), d = some dd ∧ H dd = some (.xd fs) ∧ fs.lookup f = some v ∧ ∀ p, H p = none → Q (.ref p) (upd H p (.tup [.str w, v]))) ∧
      (b = false → hE K Q more cls d H)
theorem hE_wish {K : PySem.W.Frag} {Q : VK} {nn i : Nat} {D : Ends} (hi : i < nn) (hD : D.rt = Q) : ∀ {l : List Row} {cls : Value} {d : Option Addr} {σ : L2.St} {H : Hp}, hE K Q l cls d H → wish K nn (fun _ _ _ _ => False) D (rowsOf i l) cls d σ H
  | [], _, _, _, _, h => h
  | (w, f, C) :: more, cls, d, σ, H, h => by
    obtain ⟨b, e, yes, no⟩ := h
    refine ⟨b, e, fun hb hl a _ => ?_, fun hb => hE_wish hi hD (no hb)⟩
    obtain ⟨ec, dd, fs, v, ed, eH, ef, q⟩ := yes hb
    have at_ : (σ.set i (some (.ref a)))[i]? = some (some (V.ref a)) := by
      rw [List.getElem?_set_self (by omega)]
    refine ⟨.ref a, at_, rfl, ec, dd, fs, v, ed, eH, ef, (by show 2 ≤ sizeLine; decide), ?_⟩
    show ∀ p, H p = none → D.rt (.ref p) (upd H p (.tup [.str w, v]))
    rw [hD]
    exact q
/-- what such a def makes of the lambda's reading -/
def TTh (K : PySem.W.Frag) (l : List Row) : (XK → Hp → VK → Prop) → Hp → VK → Prop := fun tl H Q =>
  tl (hE K Q l) H (fun v H' => ∀ p, H' p = none → Q (.ref p) (upd H' p (.lst [v])))
theorem heard_gives {X : Cx} {Ng : List Str} {x a q : Str} {sg : Scope} {g : Addr} {cdg : Value} {i : Nat} {l : List Row} {h0 : ExceptHandler} {hs : List ExceptHandler} {p1 p2 p3 p4 p5 : Pos} (hN : Ng.Nodup) (hi : i < Ng.length)
    (cl : ∀ (s : Shared) (H : Hp), Clauses (cxOf C8.CX0 X.prog X.w X.K X.mg X.base Ng x sg g cdg X.A X.stack s H C8.E0).nox (h0 :: hs) (rowsOf i l))
    (h0' : ∀ f : Addr, (L2.start Ng [V.ref f])[0]? = some (some (V.ref f))) :
    GivesTo X Ng x sg g cdg [.Try [.Return (some (.List [.Call (.Name a p1) [] [] p2] p3)) p4] (h0 :: hs) [] [] p5] a q (TTh X.K l) := by
  intro f c' s H Q tl act hc h
  refine ⟨_, pss_one (try_as (X := (cxOf C8.CX0 X.prog X.w X.K X.mg X.base Ng x sg g cdg X.A X.stack s H C8.E0).nox)
      (tb := fun W D σ H => ∃ Ech : XK, (∀ cls d σ' H', Ech cls d H' → W cls d σ' H') ∧ σ[0]? = some (some (.ref f)) ∧ H c' = some (CodeO c' q) ∧ tl Ech H (fun v H' => ∀ p, H' p = none → D.rt (.ref p) (upd H' p (.lst [v]))))
      rfl rfl hN LamX.takes0 (fun W pn xe tk _ => ?_) (cl s H)), ?_⟩
  · constructor
    intro pins s' σ H' D I ⟨Ech, hW, k1, k2, k3⟩
    have hp := act W pn xe Ech p1 p2 tk hW
    have whole := pss_one (ps_ret (pos := p4) (pe_lst (pos := p3) (pa_cons hp pa_nil)))
    exact whole.run pins s' σ H' D I ⟨k1, k2, by
      refine Eq.mp ?_ k3
      congr 1
      funext v H1
      refine propext ⟨fun z => ⟨(by show 1 ≤ sizeLine; decide), z⟩, fun z => z.2⟩⟩
  · exact ⟨hE X.K Q l, fun cls d σ' H' z => hE_wish (D := { nx := fun _ H' => Q .non H', rt := Q }) hi rfl z, h0' f, hc, h⟩
end Hd


set_option Elab.async false
set_option linter.all false
set_option maxRecDepth 100000
set_option maxHeartbeats 400000
namespace Rs
open PySem L2 Bs Fq LamX LmD Hd TA2
abbrev sHeard : Stmt := top 40
/-- the words, fields and classes of _law_heard -/
def rowsH (CN CF : Addr) : List Row := [("number", "given", CN), ("fraction", "given", CF)]
structure HeardK (K : PySem.W.Frag) (mg : Str → Option Value) (g CN CF : Addr) : Prop where
  mgf : mg "_law_heard" = some (.ref g)
  kp : PySem.W.keepIn K (.ref g) = true
  ex : ∃ (oc : Value) (od : Option Addr) (kV doc pm : Value) (an : Option Addr) (cdv ct : Value) (osl : Array (Option Value)),
    K.lookup g = some ⟨oc, od, .func (PySem.W.fnOf "_law_heard" "_law_heard" (defArgs sHeard) (defBody sHeard) (defScope sHeard) .none kV doc pm an cdv ct), osl⟩ ∧ PySem.W.codeIn K cdv "_law_heard" = true
  mN : mg "BadNumber" = some (.ref CN)
  mF : mg "BadFraction" = some (.ref CF)
  xN : XfC K CN
  xF : XfC K CF
  nN : PySem.W.findIn K (.ref CN) "given" = some none
  nF : PySem.W.findIn K (.ref CF) "given" = some none
  nn : PySem.W.exmOne K (.ref CN) (.ref CN) = some true
  fn : PySem.W.exmOne K (.ref CF) (.ref CN) = some false
  ff : PySem.W.exmOne K (.ref CF) (.ref CF) = some true
theorem scHeard : FnScope ["call", "error"] ["call"] (defScope sHeard) := ⟨rfl, rfl, rfl, by decide +kernel, rfl, by decide +kernel, by decide +kernel⟩
/-- where the lambdas of a def leave their code -/
structure TabOk (X : Cx) (Ts : List (Addr × Str)) (c P : Addr) : Prop where
  tb : TabB X.base X.mg c P
  code : X.env.code = .ref c
  mem : (P, X.env.qual ++ "<lambda>") ∈ Ts
  one : ∀ p ∈ Ts, p.1 = P → p.2 = X.env.qual ++ "<lambda>"
abbrev noA : Arguments := { posonlyargs := [], args := [], vararg := none, kwonlyargs := [], kw_defaults := [], kwarg := none, defaults := [] }
section
variable {X : Cx} {Ts : List (Addr × Str)} {g CN CF c P : Addr} {k : Nat} {body : Expr} {scope : Scope} {t : XK → TE} {p lpos pos : Pos}
theorem heard_here (Hk : HeardK X.K X.mg g CN CF) {q : Str} {cdv : Value} : GivesTo X ["call", "error"] "_law_heard" (defScope sHeard) g cdv (defBody sHeard) "call" q (TTh X.K (rowsH CN CF)) := by
  refine heard_gives (i := 1) (l := rowsH CN CF) scHeard.nd (by decide) (fun s H => ?_) (fun f => rfl)
  exact one_clause (i := 1) Hk.xN Hk.nN ⟨by rfl, by decide, .inl Hk.mN⟩ rfl rfl
    (one_clause (i := 1) Hk.xF Hk.nF ⟨by rfl, by decide, .inl Hk.mF⟩ rfl rfl .stop)
theorem pe_hd (Hk : HeardK X.K X.mg g CN CF) (Tk : TabOk X Ts c P) (hr : Room (k + 2) X.A) (hg : Gl X "_law_heard") (L : LamS X.env.scope scope)
    (hbody : ∀ (A : Around) (outer : List Env) (s : Shared) (H : Hp) (E : XK) (f c' : Addr), Room k (A.deeper (lamEnv X scope s.heap.objs.size f c')) → PE (lamCx X A outer s H E scope f c') body (t E)) :
    PE X (.Call (.Name "_law_heard" p) [.Lambda noA body scope lpos] [] pos) (tLam Ts (TTh X.K (rowsH CN CF)) t) := by
  obtain ⟨oc, od, kV, doc, pm, an, cdv, ct, osl, lk, hc⟩ := Hk.ex
  have F := fun_mk (st := sHeard) lk hc Hk.kp
  have b := F.binds (ps := ["call"]) fun _ _ _ _ _ _ us hl => match us, hl with | [_], _ => rfl
  exact pe_lamcall (P := P) (c := c) hg Hk.mgf Hk.kp lk hc b scHeard rfl (.inl rfl) (heard_here Hk) Tk.tb Tk.code Tk.mem Tk.one hr L rfl (fun _ _ _ _ _ => rfl) hbody
theorem pe_hdD {x : Str} {n : Int} {j : Nat} {p1 p2 : Pos} (Hk : HeardK X.K X.mg g CN CF) (Tk : TabOk X Ts c P) (hr : Room (k + 2) X.A) (hg : Gl X "_law_heard") (S : ScD X.env.scope scope x) (nx : ∀ i : Nat, X.N[i]? ≠ some x)
    (hbd : BindD x n (one x n p1 p2 j) body scope)
    (hbody : ∀ (A : Around) (outer : List Env) (s : Shared) (H : Hp) (E : XK) (f c' : Addr), Room k (A.deeper (lamEnv X scope s.heap.objs.size f c')) → PE (lamCx X A outer s H E scope f c') body (t E)) :
    PE X (.Call (.Name "_law_heard" p) [.Lambda (one x n p1 p2 j) body scope lpos] [] pos) (tLam Ts (TTh X.K (rowsH CN CF)) t) := by
  obtain ⟨oc, od, kV, doc, pm, an, cdv, ct, osl, lk, hc⟩ := Hk.ex
  have F := fun_mk (st := sHeard) lk hc Hk.kp
  have b := F.binds (ps := ["call"]) fun _ _ _ _ _ _ us hl => match us, hl with | [_], _ => rfl
  exact pe_lamD (P := P) (c := c) hg Hk.mgf Hk.kp lk hc b scHeard rfl (.inl rfl) (heard_here Hk) Tk.tb Tk.code Tk.mem Tk.one hr S nx hbd hbody
end
theorem bindD {n : Int} {p1 p2 : Pos} {j : Nat} {body : Expr} {scope : Scope} : BindD "own" n (one "own" n p1 p2 j) body scope := fun _ _ _ _ _ _ _ => ⟨_, rfl, rfl⟩
end Rs


set_option Elab.async false
set_option linter.all false
set_option maxRecDepth 100000
set_option maxHeartbeats 400000
namespace Sh
open PySem
/-- data whose text may be made -/
structure Ok (d : PyData) : Prop where
  s : d.showable = true
  n : d.hasDict = false
  dep : d.depth ≤ 60
  l : d.shown.length ≤ sizeLine
theorem of {d : PyData} (h1 : d.showable = true) (h2 : d.hasDict = false) (h3 : d.depth ≤ 60) (h4 : d.leavesShort 2600 = true) (h5 : d.weight ≤ 6000) : Ok d := by
  refine ⟨h1, h2, h3, ?_⟩
  have := PyData.shown_le 2600 (by decide) d h4
  have e : sizeLine = 16777216 := sizeLine_eq
  have : (2600 + 2) * d.weight ≤ 2602 * 6000 := Nat.mul_le_mul (Nat.le_refl _) h5
  omega
theorem int_short {i : Int} (h : i.natAbs < 2 ^ 2500) : (PyData.shown (.int i)).length ≤ 2600 := by
  have l : i.natAbs.log2 < 2500 := PySem.Flt.log2_lt_of (by decide) h
  have := int_text_length_le (a := i) (k := 2500) (by decide) l
  have e : (PyData.shown (.int i)).length = (toString i).length := by
    show (Str.ofString (toString i)).length = _
    exact ofString_length _
  omega
end Sh


set_option Elab.async false
set_option linter.all false
set_option maxRecDepth 100000
set_option maxHeartbeats 400000
namespace Rs
open PySem L2 Bs Fq LamX
abbrev sGood : Stmt := top 42
/-! ### what stays where lambdas are made and the state is changed -/
def KE (p l : Addr) (H H' : Hp) : Prop := ∀ b o, H b = some o → b ≠ p → b ≠ l → (∀ ps, o ≠ .tbl ps) → H' b = some o
theorem KE.trans {p l : Addr} {H1 H2 H3 : Hp} (a : KE p l H1 H2) (b : KE p l H2 H3) : KE p l H1 H3 := fun x o e n1 n2 n3 => b x o (a x o e n1 n2 n3) n1 n2 n3
theorem Kp.ke {p l : Addr} {H H' : Hp} (k : Kp p l H H') : KE p l H H' := fun b o e n1 n2 _ => k b o e n1 n2
theorem ExtN.ke {p l : Addr} {H H' : Hp} (k : ExtN H H') : KE p l H H' := fun b o e _ _ n => k b o e n
theorem ExtN.same {H H' : Hp} (k : Same H H') : ExtN H H' := fun b o e _ => k b o e
theorem ExtN.t {K : PySem.W.Frag} {H H' : Hp} {a : Addr} {xs : List V} (e : ExtN H H') (h : SqT K H a xs) : SqT K H' a xs := by
  rcases h with (h | ⟨o, h⟩) | h
  · exact .inl (.inl (e _ _ h (by intro ps z; cases z)))
  · exact .inl (.inr ⟨o, e _ _ h (by intro ps z; cases z)⟩)
  · exact .inr h
theorem ExtN.fr {K : PySem.W.Frag} {H H' : Hp} {v : V} {q : F} (e : ExtN H H') (h : Fr K H v q) : Fr K H' v q := by
  obtain ⟨a, rfl, s⟩ := h
  exact ⟨a, rfl, ExtN.t e s⟩
theorem Sta.ext {H H' : Hp} {p c l : Addr} {n : Nat} {t : Int} (S : Sta H p c l n t) (e : ExtN H H') : Sta H' p c l n t := by
  obtain ⟨cs, a1, a2⟩ := S.cs
  obtain ⟨ls, b1, b2⟩ := S.ls
  exact ⟨e _ _ S.d (by intro ps z; cases z), ⟨cs, e _ _ a1 (by intro ps z; cases z), a2⟩, ⟨ls, e _ _ b1 (by intro ps z; cases z), b2⟩, S.ne, S.n1, S.n2, S.t0⟩
theorem Tabs.kp {Ts : List (Addr × Str)} {H H' : Hp} {p c l : Addr} {n : Nat} {t : Int} (T : Tabs Ts H) (S : Sta H p c l n t) (k : Kp p l H H') : Tabs Ts H' := by
  obtain ⟨ls, b1, _⟩ := S.ls
  intro q hq
  obtain ⟨ps, h1, h2, h3⟩ := T q hq
  refine ⟨ps, k _ _ h1 (ne_of h1 S.d (by intro z; cases z)) (ne_of h1 b1 (by intro z; cases z)), h2, fun pos cv hc => ?_⟩
  obtain ⟨c, e1, e2⟩ := h3 pos cv hc
  exact ⟨c, e1, k _ _ e2 (ne_of e2 S.d (by unfold CodeO; intro z; cases z)) (ne_of e2 b1 (by unfold CodeO; intro z; cases z))⟩
theorem Tabs.same {Ts : List (Addr × Str)} {H H' : Hp} (T : Tabs Ts H) (e : Same H H') : Tabs Ts H' := T.ext e
/-! ### sizes -/
theorem red_le {a b : Int} (h : 0 < b) : (red a b).1.natAbs ≤ a.natAbs ∧ (red a b).2 ≤ b := by
  have hg := gI_pos (a := a) (b := b) (by omega)
  refine ⟨?_, ?_⟩
  · show (a / gI a b).natAbs ≤ a.natAbs
    obtain ⟨x, hx⟩ := gI_dvd_l a b
    have e1 : a / gI a b = x := Int.ediv_eq_of_eq_mul_right (by omega) hx
    rw [e1]
    have q1 : a.natAbs = (gI a b).natAbs * x.natAbs := by
      have := congrArg Int.natAbs hx
      rwa [Int.natAbs_mul] at this
    rw [q1]
    exact Nat.le_mul_of_pos_left _ (by omega)
  · show b / gI a b ≤ b
    exact Int.ediv_le_self _ (by omega)
/-- what _law_good draws -/
structure Gd (q r : F) : Prop where
  oq : Fq.Ok q
  or_ : Fq.Ok r
  q1 : Lt2 100 q.1
  q2 : q.2 ≤ 12
  r1 : r.1.natAbs ≤ 6
  r2 : r.2 ≤ 3
section
variable {q r : F} (G : Gd q r)
include G
theorem Gd.dq : Dm q := ⟨G.q1.mono (by decide), G.oq.1, by have := G.q2; omega⟩
theorem Gd.dr : Dm r := ⟨Lt2.mono (m := 3) (by have := G.r1; show r.1.natAbs < 8; omega) (by decide), G.or_.1, by have := G.r2; omega⟩
theorem Gd.lq : Dl q := ⟨G.q1.mono (by decide), G.oq.1, Lt2.mono (m := 4) (by have := G.q2; have := G.oq.1; show q.2.natAbs < 16; omega) (by decide)⟩
theorem Gd.lr : Dl r := ⟨Lt2.mono (m := 3) (by have := G.r1; show r.1.natAbs < 8; omega) (by decide), G.or_.1, Lt2.mono (m := 2) (by have := G.r2; have := G.or_.1; show r.2.natAbs < 4; omega) (by decide)⟩
theorem Gd.p1 : Lt2 6 r.1 := by have := G.r1; show r.1.natAbs < 64; omega
theorem Gd.p2 : Lt2 6 r.2 := by have := G.r2; have := G.or_.1; show r.2.natAbs < 64; omega
end
/-- a fraction whose text is short -/
def Sm (q : F) : Prop := Lt2 500 q.1 ∧ Lt2 500 q.2
theorem sm_red {a b : Int} (h : 0 < b) (h1 : Lt2 500 a) (h2 : Lt2 500 b) : Sm (red a b) := by
  obtain ⟨l1, l2⟩ := red_le (a := a) h
  have p := (red_ok (a := a) h).1
  refine ⟨Nat.lt_of_le_of_lt l1 h1, Nat.lt_of_le_of_lt ?_ h2⟩
  omega
theorem lt2_mul {m n k : Nat} {x y : Int} (h1 : Lt2 m x) (h2 : Lt2 n y) (h : m + n ≤ k) : Lt2 k (x * y) := Lt2.mono (wide_lt h1 h2) h
theorem lt2_add {m k : Nat} {x y : Int} (h1 : Lt2 m x) (h2 : Lt2 m y) (h : m + 1 ≤ k) : Lt2 k (x + y) := by
  refine Lt2.mono (m := m + 1) ?_ h
  show (x + y).natAbs < 2 ^ (m + 1)
  have a : x.natAbs < 2 ^ m := h1
  have b : y.natAbs < 2 ^ m := h2
  rw [Nat.pow_succ]
  have := Int.natAbs_add_le x y
  omega
theorem lt2_sub {m k : Nat} {x y : Int} (h1 : Lt2 m x) (h2 : Lt2 m y) (h : m + 1 ≤ k) : Lt2 k (x - y) := by
  rw [Int.sub_eq_add_neg]
  exact lt2_add h1 (lt2_neg h2) h
section
variable {q r : F}
theorem sm_add (a : Dm q) (b : Dm r) (_ : Lt2 100 q.1) (h1 : Lt2 200 q.1) (h2 : Lt2 200 r.1) : Sm (add q r) :=
  sm_red (Int.mul_pos a.pos b.pos) (lt2_add (m := 215) (lt2_mul h1 b.l2 (by decide)) (lt2_mul h2 a.l2 (by decide)) (by decide)) (lt2_mul a.l2 b.l2 (by decide))
theorem sm_sub (a : Dm q) (b : Dm r) (h1 : Lt2 200 q.1) (h2 : Lt2 200 r.1) : Sm (sub q r) :=
  sm_red (Int.mul_pos a.pos b.pos) (lt2_sub (m := 215) (lt2_mul h1 b.l2 (by decide)) (lt2_mul h2 a.l2 (by decide)) (by decide)) (lt2_mul a.l2 b.l2 (by decide))
theorem sm_mul (a : Dm q) (b : Dm r) (h1 : Lt2 200 q.1) (h2 : Lt2 200 r.1) : Sm (mul q r) :=
  sm_red (Int.mul_pos a.pos b.pos) (lt2_mul h1 h2 (by decide)) (lt2_mul a.l2 b.l2 (by decide))
theorem sm_div (a : Dm q) (b : Dm r) (h1 : Lt2 200 q.1) (h2 : Lt2 200 r.1) (n : r.1 ≠ 0) : Sm (div q r) := by
  have t1 : Lt2 500 (q.1 * r.2) := lt2_mul h1 b.l2 (by decide)
  have t2 : Lt2 500 (q.2 * r.1) := lt2_mul a.l2 h2 (by decide)
  rcases Int.lt_or_gt_of_ne n with c | c
  · have s := Int.mul_neg_of_pos_of_neg a.pos c
    rw [div, redP_neg s]
    exact sm_red (by omega) (lt2_neg t1) (lt2_neg t2)
  · have s := Int.mul_pos a.pos c
    rw [div, redP_pos s]
    exact sm_red s t1 t2
theorem sm_pw (h1 : Lt2 6 q.1) (h2 : Lt2 6 q.2) {n : Nat} (hn : n ≤ 20) : Sm (pw q n) := ⟨(pow_lt2 h1 hn).mono (by decide), (pow_lt2 h2 hn).mono (by decide)⟩
theorem sm_short (h : Sm q) : (dF q).leavesShort 2600 = true := by
  simp only [dF, PyData.leavesShort, PyData.leavesShortAll, Bool.and_eq_true, decide_eq_true_eq, and_true]
  exact ⟨Sh.int_short (h.1.mono (by decide)), Sh.int_short (h.2.mono (by decide))⟩
end
end Rs


set_option Elab.async false
set_option linter.all false
set_option maxRecDepth 100000
set_option maxHeartbeats 400000
namespace Rs
open PySem L2 Bs Fq LamX
theorem dF_inj {q r : F} (h : dF q = dF r) : q = r := by
  obtain ⟨a, b⟩ := q
  obtain ⟨c, d⟩ := r
  simp only [dF, PyData.tuple.injEq, List.cons.injEq, PyData.int.injEq, and_true] at h
  rw [h.1, h.2]
theorem shaped_dF (q : F) : SeqAt.shaped (dF q) = true := by
  simp [SeqAt.shaped, dF, PyData.canLay0, PyData.canLayAll0, PyData.depth, PyData.depthAll]
theorem eqv_dF (q : F) : PyData.eqv (dF q) (dF q) = true := SeqAt.eqv_refl _ (SeqAt.canLay_of_shaped (shaped_dF q))
section
variable {K : PySem.W.Frag} {H H' : Hp}
theorem sqL_ext (e : ExtN H H') {a : Addr} {xs : List V} (h : SqL K H a xs) : SqL K H' a xs := by
  rcases h with (h | ⟨o, h⟩) | h
  · exact .inl (.inl (e _ _ h (by intro ps z; cases z)))
  · exact .inl (.inr ⟨o, e _ _ h (by intro ps z; cases z)⟩)
  · exact .inr h
mutual
theorem dp_ext (e : ExtN H H') : ∀ (d : PyData) (v : V), Dp K H v d → Dp K H' v d
  | .none, _, h => by
    cases h
    exact .non
  | .bool b, _, h => by
    cases h
    exact .bl _
  | .int i, _, h => by
    cases h
    exact .int _
  | .str x, _, h => by
    cases h
    exact .str _
  | .list ds, _, h => by
    cases h with
    | lst hs ha => exact .lst (sqL_ext e hs) (dpAll_ext e ds _ ha)
  | .tuple ds, _, h => by
    cases h with
    | tup hs ha => exact .tup (ExtN.t e hs) (dpAll_ext e ds _ ha)
  | .dict _, _, h => by cases h
theorem dpAll_ext (e : ExtN H H') : ∀ (ds : List PyData) (vs : List V), DpAll K H vs ds → DpAll K H' vs ds
  | [], _, h => by
    cases h
    exact .nil
  | d :: ds, _, h => by
    cases h with
    | cons h1 h2 => exact .cons (dp_ext e d _ h1) (dpAll_ext e ds _ h2)
end
theorem dp_same (e : Same H H') {d : PyData} {v : V} (h : Dp K H v d) : Dp K H' v d := dp_ext (ExtN.same e) d v h
end
section
variable {q r : F} {n : Int} {α : Prop}
theorem nofrac (o : Fq.Ok q) (z : fracD (dF q) = false) : α := by
  rw [fracD_dF o] at z
  cases z
theorem nobet (n0 : 0 ≤ n) (n1 : n ≤ 20) (z : betwD 0 20 (.int n) = false) : α := by
  simp [betwD, n0, n1] at z
theorem two_fin {P : F → F → Prop} (h : P q r) : ∀ q' r', dF q = dF q' → Fq.Ok q' → dF r = dF r' → Fq.Ok r' → P q' r' := by
  intro q' r' e1 _ e2 _
  rw [← dF_inj e1, ← dF_inj e2]
  exact h
theorem pow_fin {P : F → Int → Prop} (h : P q n) : ∀ q' m, dF q = dF q' → Fq.Ok q' → PyData.int n = .int m → 0 ≤ m → m ≤ 20 → P q' m := by
  intro q' m e1 _ e2 _ _
  rw [← dF_inj e1]
  cases e2
  exact h
end
/-- the data of what is told and due -/
def dTold (q r : F) (m : Int) : PyData := .list [dF (add q r), dF (sub r q), dF (mul q r), .bool (lt q r), dF (pw r m.toNat)]
theorem log_le {x : Int} (h : Lt2 500 x) : x.natAbs.log2 < 500 := PySem.Flt.log2_lt_of (by decide) h
theorem sm_show {q : F} (h : Sm q) : (dF q).showable = true := by
  have a := log_le h.1
  have b := log_le h.2
  simp only [dF, PyData.showable, PyData.showableAll, Bool.and_eq_true, decide_eq_true_eq, and_true]
  omega
theorem wt_le {x : Int} (h : Lt2 500 x) : (if x = 0 then 0 else x.natAbs.log2 + 1) ≤ 500 := by
  have := log_le h
  split <;> omega
theorem sm_wt {q : F} (h : Sm q) : (dF q).weight ≤ 1003 := by
  have a := wt_le h.1
  have b := wt_le h.2
  simp only [dF, PyData.weight, PyData.weightAll, beq_iff_eq]
  omega
theorem sh_told {q r : F} {m : Int} (G : Gd q r) (m0 : 0 ≤ m) (m1 : m ≤ 20) : Sh.Ok (dTold q r m) := by
  have a := sm_add G.dq G.dr G.q1 (G.q1.mono (by decide)) (G.p1.mono (by decide))
  have b := sm_sub G.dr G.dq (G.p1.mono (by decide)) (G.q1.mono (by decide))
  have c := sm_mul G.dq G.dr (G.q1.mono (by decide)) (G.p1.mono (by decide))
  have d := sm_pw G.p1 G.p2 (n := m.toNat) (by omega)
  refine Sh.of ?_ (by rfl) ?_ ?_ ?_
  · simp only [dTold, PyData.showable, PyData.showableAll, sm_show a, sm_show b, sm_show c, sm_show d]
    rfl
  · simp [dTold, dF, PyData.depth, PyData.depthAll]
  · simp only [dTold, PyData.leavesShort, PyData.leavesShortAll, sm_short a, sm_short b, sm_short c, sm_short d]
    rfl
  · have a' := sm_wt a
    have b' := sm_wt b
    have c' := sm_wt c
    have d' := sm_wt d
    simp only [dTold, PyData.weight, PyData.weightAll]
    omega
theorem sh_div {q r : F} (G : Gd q r) (n : r.1 ≠ 0) : Sh.Ok (.list [dF (div q r)]) := by
  have a := sm_div G.dq G.dr (G.q1.mono (by decide)) (G.p1.mono (by decide)) n
  refine Sh.of ?_ (by rfl) ?_ ?_ ?_
  · simp only [PyData.showable, PyData.showableAll, sm_show a]
    rfl
  · simp [dF, PyData.depth, PyData.depthAll]
  · simp only [PyData.leavesShort, PyData.leavesShortAll, sm_short a]
    rfl
  · have a' := sm_wt a
    simp only [PyData.weight, PyData.weightAll]
    omega
theorem sh_zero : Sh.Ok (.tuple [.str "fraction", dF (0, 1)]) := Sh.of (by rfl) (by rfl) (by decide +kernel) (by decide +kernel) (by decide +kernel)
theorem zero_of {r : F} (o : Fq.Ok r) (h : r.1 = 0) : r = (0, 1) := by
  obtain ⟨a, b⟩ := r
  obtain ⟨h1, h2⟩ := o
  simp only at h h1 h2
  subst h
  simp only [Int.natAbs_zero, Nat.gcd_zero_left] at h2
  have : b = 1 := by omega
  rw [this]
end Rs


set_option Elab.async false
set_option linter.all false
set_option maxRecDepth 100000
set_option maxHeartbeats 400000
namespace Rs
open PySem L2 Bs Fq LamX
/-- a def whose code object is known by its address -/
structure FunC (K : PySem.W.Frag) (x qual : Str) (st : Stmt) (f : Addr) (fd : FuncData) (c : Addr) : Prop where
  ex : ∃ (oc : Value) (od : Option Addr) (kV doc pm : Value) (an : Option Addr) (ct : Value) (osl : Array (Option Value)),
    fd = PySem.W.fnOf x qual (defArgs st) (defBody st) (defScope st) .none kV doc pm an (.ref c) ct ∧ K.lookup f = some ⟨oc, od, .func fd, osl⟩ ∧ PySem.W.codeIn K (.ref c) qual = true
structure DefC (K : PySem.W.Frag) (mg : Str → Option Value) (x : Str) (st : Stmt) (ps : List Str) (c : Addr) : Prop where
  ex : ∃ (f : Addr) (fd : FuncData), FunC K x x st f fd c ∧ mg x = some (.ref f) ∧ PySem.W.keepIn K (.ref f) = true ∧ Binds K fd ps []
section
variable {P : Program} {w : World} {K : PySem.W.Frag} {mg : Str → Option Value} {base : Heap} {k : Nat} {f c : Addr} {fd : FuncData} {sp : Sp} {x qual : Str} {st : Stmt} {N ps : List Str}
theorem DefC.calG (D : DefC K mg x st ps c) (h : ∀ f fd, FunC K x x st f fd c → FnG P w K mg base k f fd ps sp) : CalG P w K mg base k x sp := by
  obtain ⟨f, fd, F, m, kp, b⟩ := D.ex
  exact ⟨f, fd, ps, h f fd F, m, kp, b⟩
theorem FnG.okC (F : FunC K x qual st f fd c) (S : FnScope N ps (defScope st)) (len : ∀ vs H Q E, sp vs H Q E → vs.length = ps.length)
    (hbody : ∀ (A : Around) (outer : List Env) (s : Shared) (H : Hp) (vs : List V) (Q : VK) (E : XK), A.guards = some [] → Room k (A.deeper (PyProof.Rows.envOfC qual (defScope st) s.heap.objs.size f (.ref c))) → sp vs H Q E →
      ∃ t, PSs (cxOf CX0 P w K mg base N qual (defScope st) f (.ref c) A outer s H E).nox (defBody st) t ∧ t { nx := fun _ H' => Q .non H', rt := Q } (start N vs) H) : FnG P w K mg base (k + 1) f fd ps sp := by
  obtain ⟨oc, od, kV, doc, pm, an, ct, osl, rfl, lk, hcd⟩ := F.ex
  refine ⟨len, fun A outer s H args us vs Q E hg hr e0 hb r h => ?_⟩
  refine LamX.run_ofS lk hcd S hr e0 hb r (len _ _ _ _ h) (fun hr' => ?_)
  obtain ⟨t, a, b⟩ := hbody A outer s H vs Q E hg hr' h
  exact ⟨t, a.nox, b⟩
end
/-- what holds between the statements -/
structure Rel (Ts : List (Addr × Str)) (H H1 : Hp) (p c l : Addr) (n : Nat) (u : Int) : Prop where
  S : Sta H1 p c l n u
  T : Tabs Ts H1
  k : KE p l H H1
theorem Rel.kp {Ts : List (Addr × Str)} {H H1 H2 : Hp} {p c l : Addr} {n : Nat} {u v : Int} (R : Rel Ts H H1 p c l n u) (S : Sta H2 p c l n v) (k : Kp p l H1 H2) : Rel Ts H H2 p c l n v := ⟨S, Tabs.kp R.T R.S k, R.k.trans k.ke⟩
theorem Rel.same {Ts : List (Addr × Str)} {H H1 H2 : Hp} {p c l : Addr} {n : Nat} {u : Int} (R : Rel Ts H H1 p c l n u) (e : Same H1 H2) : Rel Ts H H2 p c l n u := R.kp (R.S.mono e) (Kp.of e)
/-- _law_good(state) -/
def spGood (Ts : List (Addr × Str)) : Sp := fun vs H Q _ => ∃ (p c l : Addr) (n : Nat) (t : Int), vs = [.ref p] ∧ Sta H p c l n t ∧ t ≤ 5000 ∧ Tabs Ts H ∧ ∀ H', Rel Ts H H' p c l n (t + 7) → Q (.bl true) H'
section
variable {P : Program} {w : World} {K : PySem.W.Frag} {mg : Str → Option Value} {base : Heap} {f c1 P1 g CN CF : Addr} {fd : FuncData} {Ts : List (Addr × Str)}
theorem scGood : FnScope ["state", "wide", "top", "bottom", "many", "told", "due", "wanted", "far", "one"] ["state"] (defScope sGood) := ⟨rfl, rfl, rfl, by decide +kernel, rfl, by decide +kernel, by decide +kernel⟩
theorem ok_good (F : FunC K "_law_good" "_law_good" sGood f fd c1) (T : Blt mg) (Hk : HeardK K mg g CN CF)
    (Tk : ∀ A outer s H E, TabOk (cxOf CX0 P w K mg base ["state", "wide", "top", "bottom", "many", "told", "due", "wanted", "far", "one"] "_law_good" (defScope sGood) f (.ref c1) A outer s H E).nox Ts c1 P1)
    (OF : Cal P w K mg base 3 "_law_of" (spOf K)) (DR : Cal P w K mg base 2 "_law_draw" spDraw) (LR : Cal P w K mg base 1 "_law_ratio" spLRatio) (SM : Cal P w K mg base 3 "_law_small" spSmall)
    (RA : CalX P w K mg base 3 "ratio" (spRatio K CN)) (NF : CalX P w K mg base 3 "need_fraction" (spNeedF K CF))
    (PL : CalX P w K mg base 4 "plus" (spTwo K CF (rOp add dom2))) (LE : CalX P w K mg base 4 "less" (spTwo K CF (rOp sub dom2))) (TI : CalX P w K mg base 4 "times" (spTwo K CF (rOp mul dom2)))
    (IL : CalX P w K mg base 4 "is_less" (spTwo K CF rLt)) (PW_ : CalX P w K mg base 4 "power" (spPower K CF CN)) (OV : CalX P w K mg base 4 "over" (spTwo K CF (rOver CF)))
    (lP : Cal P w K mg base 2 "_law_plus" (spOp K add domL)) (lL : Cal P w K mg base 2 "_law_less" (spOp K sub domL)) (lT : Cal P w K mg base 2 "_law_times" (spOp K mul domL)) (lU : Cal P w K mg base 1 "_law_under" (spLt' K))
    (lW : Cal P w K mg base 3 "_law_power" (spLPower K)) (lD : Cal P w K mg base 3 "_law_divided" (spLDivided K)) :
    FnG P w K mg base 7 f fd ["state"] (spGood Ts) := by
  refine FnG.okC F scGood (fun vs H Q E h => ?_) (fun A outer s H vs Q E hgd hr h => ?_)
  · obtain ⟨p, c, l, n, t, rfl, _⟩ := h
    rfl
  · obtain ⟨p, c, l, n, t, rfl, S, t5, TT, k⟩ := h
    refine ⟨_, C8.pss_cut (ps_set (i := 1) scGood.nd rfl (Or.inl rfl) (pe_n OF hr (by decide) (by rfl) (pa_cons (pv 0) (pa_cons (pe_lst (pa_cons pe_int (pa_cons pe_int (pa_cons (pe_op op_pow pe_int pe_int) (pa_cons (pe_op op_pow pe_int pe_int) pa_nil))))) pa_nil))))
      (C8.pss_cut (ps_par (i := 2) (j := 3) (by rfl) scGood.nd rfl rfl (by decide) rfl rfl
        (pa_cons (pe_op op_mulW (pe_op op_sub (pe_n DR hr (by decide) (by rfl) (pa_cons (pv 0) (pa_cons pe_int pa_nil))) pe_int) (pv 1))
        (pa_cons (pe_op op_mulW (pe_op op_add pe_int (pe_n DR hr (by decide) (by rfl) (pa_cons (pv 0) (pa_cons pe_int pa_nil)))) (pe_n OF hr (by decide) (by rfl) (pa_cons (pv 0) (pa_cons (pe_lst (pa_cons pe_int (pa_cons (pe_un un_neg pe_int) pa_nil))) pa_nil)))) pa_nil)) (by rfl))
      (C8.pss_cut (ps_asg (pe_tup (pa_cons (pe_n LR hr (by decide) (by rfl) (pa_cons (pe_ifExp (pt_cmpR op_gt (pv 3) pe_int (nomark _)) (pv 2) (pe_un un_neg (pv 2))) (pa_cons (pe_callB call_abs (by rfl) T.abs (by decide +kernel) (pa_cons (pv 3) pa_nil)) pa_nil)))
          (pa_cons (pe_n SM hr (by decide) (by rfl) (pa_cons (pv 0) pa_nil)) pa_nil))) (pg_tup rfl (pgs_cons (pg_name (i := 9) scGood.nd rfl (.inr rfl)) (pgs_cons (pg_name (i := 8) scGood.nd rfl (.inr rfl)) pgs_nil))))
      (C8.pss_cut (ps_set (i := 4) scGood.nd rfl (Or.inl rfl) (pe_n DR hr (by decide) (by rfl) (pa_cons (pv 0) (pa_cons pe_int pa_nil))))
      (C8.pss_cut (ps_if (PW.pt (pw_or (pt_cmpR (op_neD hr.units) (pe_x RA hr (by decide) (by rfl) passL (pa_cons (pv 2) (pa_cons (pv 3) pa_nil))) (pv 9) (nomark _))
          (pw_or1 (pt_cmpR (op_neD hr.units) (pe_x NF hr (by decide) (by rfl) passL (pa_cons (pv 9) pa_nil)) (pv 9) (nomark _))))) (pss_one (ps_ret pe_bl)) pss_nil)
      (C8.pss_cut (ps_set (i := 5) scGood.nd rfl (Or.inl rfl) (pe_lst (pa_cons (pe_x PL hr (by decide) (by rfl) passL (pa_cons (pv 9) (pa_cons (pv 8) pa_nil))) (pa_cons (pe_x LE hr (by decide) (by rfl) passL (pa_cons (pv 8) (pa_cons (pv 9) pa_nil)))
          (pa_cons (pe_x TI hr (by decide) (by rfl) passL (pa_cons (pv 9) (pa_cons (pv 8) pa_nil))) (pa_cons (pe_x IL hr (by decide) (by rfl) passL (pa_cons (pv 9) (pa_cons (pv 8) pa_nil))) (pa_cons (pe_x PW_ hr (by decide) (by rfl) passL (pa_cons (pv 8) (pa_cons (pv 4) pa_nil))) pa_nil)))))))
      (C8.pss_cut (ps_set (i := 6) scGood.nd rfl (Or.inl rfl) (pe_lst (pa_cons (pe_n lP hr (by decide) (by rfl) (pa_cons (pv 9) (pa_cons (pv 8) pa_nil))) (pa_cons (pe_n lL hr (by decide) (by rfl) (pa_cons (pv 8) (pa_cons (pv 9) pa_nil)))
          (pa_cons (pe_n lT hr (by decide) (by rfl) (pa_cons (pv 9) (pa_cons (pv 8) pa_nil))) (pa_cons (pe_n lU hr (by decide) (by rfl) (pa_cons (pv 9) (pa_cons (pv 8) pa_nil))) pa_nil))))))
      (pss_cons (ps_expr (pe_bm PySem.F.plainAttrs_list PySem.F.slot_list_append PySem.F.type_list_append mt_append (pv 6) (pa_cons (pe_n lW hr (by decide) (by rfl) (pa_cons (pv 8) (pa_cons (pv 4) pa_nil))) pa_nil)))
      (pss_cons (ps_if (pt_cmpR op_ne (pe_callB (call_repr hgd hr.units) (by rfl) T.repr (by decide +kernel) (pa_cons (pv 5) pa_nil)) (pe_callB (call_repr hgd hr.units) (by rfl) T.repr (by decide +kernel) (pa_cons (pv 6) pa_nil)) (nomark _)) (pss_one (ps_ret pe_bl)) pss_nil)
      (pss_cons (ps_set (i := 7) scGood.nd rfl (Or.inl rfl) (pe_ifExp (pt_cmpR op_ne (pe_ix ix_tup (pv 8) pe_int (fun _ _ => rfl)) pe_int (nomark _)) (pe_lst (pa_cons (pe_n lD hr (by decide) (by rfl) (pa_cons (pv 9) (pa_cons (pv 8) pa_nil))) pa_nil))
          (pe_tup (pa_cons pe_str (pa_cons (pe_tup (pa_cons pe_int (pa_cons pe_int pa_nil))) pa_nil)))))
      (pss_one (ps_ret (pe_cmpR op_eq (pe_callB (call_repr hgd hr.units) (by rfl) T.repr (by decide +kernel) (pa_cons (pe_hd (k := 4) (t := fun E => tCall (spTwo K CF (rOver CF)) [] E (tCons (tVar 9) (tCons (tVar 8) tNil))) Hk (Tk A outer s H E) hr (by rfl) (lamS_by (sc := defScope sGood) (by decide +kernel))
          (fun A' outer' s' H' E' f' c' hr' => pe_x OV hr' (by decide) (by rfl) (passes_call (takes_of rfl rfl rfl rfl) (fun _ _ _ _ h => h)) (pa_cons (pv 9) (pa_cons (pv 8) pa_nil)))) pa_nil))
          (pe_callB (call_repr hgd hr.units) (by rfl) T.repr (by decide +kernel) (pa_cons (pv 7) pa_nil)) (nomark _))))))))))))), ?_⟩
    have R0 : Rel Ts H H p c l n t := ⟨S, TT, fun _ _ e _ _ _ => e⟩
    -- wide
    refine ⟨fun σ H1 => ∃ wv : Int, 0 < wv ∧ Lt2 85 wv ∧ Rel Ts H H1 p c l n (t + 1) ∧ σ = [some (V.ref p), some (V.int wv), none, none, none, none, none, none, none, none], ?_, ?_⟩
    · refine ⟨_, rfl, _, _, rfl, rfl, ⟨by decide, by decide, by decide⟩, _, _, rfl, rfl, ⟨by decide, by decide, by decide⟩, (by show 4 ≤ sizeLine; decide), fun b hb => ?_⟩
      have R1 := R0.same (same_new (o := .lst [V.int 1, V.int 1, V.int (10 ^ (18 : Int).toNat), V.int (7 ^ (30 : Int).toNat)]) hb)
      obtain ⟨ls, b1, _⟩ := S.ls
      refine ⟨p, c, l, b, n, t, _, rfl, R1.S, by omega, SqL.of upd_same, (by show 1 ≤ 4; decide), (by show 4 ≤ 1000; decide), (ne_of_none b1 hb).symm, fun H2 v hv S2 k2 => ?_⟩
      have R2 := R1.kp S2 k2
      simp only [List.mem_cons, List.not_mem_nil, or_false] at hv
      rcases hv with rfl | rfl | rfl | rfl
      · exact ⟨1, by decide, (by show (1 : Int).natAbs < 2 ^ 85; decide), R2, rfl⟩
      · exact ⟨1, by decide, (by show (1 : Int).natAbs < 2 ^ 85; decide), R2, rfl⟩
      · exact ⟨_, by decide, (by show ((10 : Int) ^ (18 : Int).toNat).natAbs < 2 ^ 85; decide), R2, rfl⟩
      · exact ⟨_, by decide, (by show ((7 : Int) ^ (30 : Int).toNat).natAbs < 2 ^ 85; decide), R2, rfl⟩
    rintro σ H1 ⟨wv, w0, w1, R1, rfl⟩
    -- top, bottom
    refine ⟨fun σ H1 => ∃ T B : Int, Lt2 100 T ∧ B ≠ 0 ∧ B.natAbs ≤ 12 ∧ Rel Ts H H1 p c l n (t + 4) ∧ σ = [some (V.ref p), some (V.int wv), some (V.int T), some (V.int B), none, none, none, none, none, none], ?_, ?_⟩
    · refine ⟨_, rfl, p, c, l, n, t + 1, 31, rfl, R1.S, by omega, by decide, by decide, fun H2 x x0 x1 S2 k2 => ?_⟩
      have R2 := R1.kp S2 k2
      refine ⟨_, _, rfl, rfl, _, rfl, _, _, rfl, rfl, Lt2.c (m := 5) (n := 85) (by show (x - 15).natAbs < 32; omega) w1, ?_⟩
      refine ⟨_, rfl, p, c, l, n, t + 1 + 1, 12, rfl, R2.S, by omega, by decide, by decide, fun H3 y y0 y1 S3 k3 => ?_⟩
      have R3 := R2.kp S3 k3
      refine ⟨_, _, rfl, rfl, _, rfl, _, rfl, (by show 2 ≤ sizeLine; decide), fun b hb => ?_⟩
      have R4 := R3.same (same_new (o := .lst [V.int 1, V.int (-1)]) hb)
      obtain ⟨ls, b1, _⟩ := R3.S.ls
      refine ⟨p, c, l, b, n, t + 1 + 1 + 1, _, rfl, R4.S, by omega, SqL.of upd_same, (by show 1 ≤ 2; decide), (by show 2 ≤ 1000; decide), (ne_of_none b1 hb).symm, fun H5 v hv S5 k5 => ?_⟩
      have R5 := R4.kp S5 k5
      have e4 : t + 1 + 1 + 1 + 1 = t + 4 := by omega
      rw [e4] at R5
      have hT : Lt2 100 ((x - 15) * wv) := lt2_mul (m := 5) (n := 85) (by show (x - 15).natAbs < 32; omega) w1 (by decide)
      simp only [List.mem_cons, List.not_mem_nil, or_false] at hv
      rcases hv with rfl | rfl
      · exact ⟨_, _, rfl, rfl, Lt2.c (m := 5) (n := 5) (by show (1 + y).natAbs < 32; omega) (by show (1 : Int).natAbs < 32; decide), _, _, rfl, _, _, hT, by omega, by omega, R5, rfl⟩
      · exact ⟨_, _, rfl, rfl, Lt2.c (m := 5) (n := 5) (by show (1 + y).natAbs < 32; omega) (by show (-1 : Int).natAbs < 32; decide), _, _, rfl, _, _, hT, by omega, by omega, R5, rfl⟩
    rintro σ H1 ⟨T_, B, hT, hB, hB2, R1, rfl⟩
    -- one, far
    refine ⟨fun σ H1 => ∃ (a1 a2 : Addr) (q r : Fq.F), q = redP T_ B ∧ Gd q r ∧ Fr K H1 (.ref a1) q ∧ Fr K H1 (.ref a2) r ∧ Rel Ts H H1 p c l n (t + 6) ∧ σ = [some (V.ref p), some (V.int wv), some (V.int T_), some (V.int B), none, none, none, none, some (V.ref a2), some (V.ref a1)], ?_, ?_⟩
    · refine ⟨_, rfl, _, _, rfl, rfl, _, rfl, ?_⟩
      have hA : 0 < (if B < 0 then -B else B) := by split <;> omega
      have hA2 : (if B < 0 then -B else B).natAbs ≤ 12 := by split <;> omega
      have hAl : Lt2 8000 (if B < 0 then -B else B) := Lt2.mono (m := 4) (by show _ < 16; omega) (by decide)
      have whole : ∀ tv : Int, red tv (if B < 0 then -B else B) = redP T_ B → tv.natAbs = T_.natAbs → ∀ (p1 : Addr), H1 p1 = none →
          ∀ (H3 : Hp) (a2 : Addr) (x y : Int), -6 ≤ x → x ≤ 6 → 1 ≤ y → y ≤ 3 → H3 a2 = some (fr (red x y)) → Sta H3 p c l n (t + 4 + 2) → Kp p l (upd H1 p1 (fr (red tv (if B < 0 then -B else B)))) H3 →
          ∀ tp, H3 tp = none → ∃ (a1 a2' : Addr) (q r : Fq.F), q = redP T_ B ∧ Gd q r ∧ Fr K (upd H3 tp (.tup [V.ref p1, V.ref a2])) (.ref a1) q ∧ Fr K (upd H3 tp (.tup [V.ref p1, V.ref a2])) (.ref a2') r ∧ Rel Ts H (upd H3 tp (.tup [V.ref p1, V.ref a2])) p c l n (t + 6) ∧
            [some (V.ref p), some (V.int wv), some (V.int T_), some (V.int B), none, none, none, none, some (V.ref a2), some (V.ref p1)] = [some (V.ref p), some (V.int wv), some (V.int T_), some (V.int B), none, none, none, none, some (V.ref a2'), some (V.ref a1)] := by
        intro tv e et p1 h1 H3 a2 x y x0 x1 y0 y1 h3 S3 k3 tp htp
        have R2 := R1.same (same_new (o := fr (red tv (if B < 0 then -B else B))) h1)
        have R3 := R2.kp S3 k3
        have e6 : t + 4 + 2 = t + 6 := by omega
        rw [e6] at R3
        have s4 := same_new (o := .tup [V.ref p1, V.ref a2]) htp
        have f1 : Fr K H3 (.ref p1) (redP T_ B) := by
          rw [← e]
          exact k3.fr R2.S (Fr.of upd_same)
        have l1 := red_le (a := tv) hA
        have l2 := red_le (a := x) (b := y) (by omega)
        refine ⟨p1, a2, redP T_ B, red x y, rfl, ⟨?_, red_ok (by omega), ?_, ?_, by omega, by omega⟩, f1.mono s4, (Fr.of h3).mono s4, R3.same s4, rfl⟩
        · rw [← e]
          exact red_ok hA
        · rw [← e]
          refine Nat.lt_of_le_of_lt l1.1 ?_
          rw [et]
          exact hT
        · rw [← e]
          omega
      refine ite2 (fun c0 => ?_) (fun c0 => ?_)
      · have c1 : 0 < B := of_decide_eq_true c0
        refine ⟨_, rfl, _, rfl, B, rfl, _, _, rfl, hA, hAl, fun p1 h1 => ?_⟩
        have R2 := R1.same (same_new (o := fr (red T_ (if B < 0 then -B else B))) h1)
        refine ⟨_, rfl, p, c, l, n, t + 4, rfl, R2.S, by omega, fun H3 a2 x y x0 x1 y0 y1 h3 S3 k3 => ?_⟩
        refine ⟨(by show 2 ≤ sizeLine; decide), fun tp htp => ⟨tp, _, rfl, SqT.of upd_same, rfl, _, _, rfl, _, _, rfl, rfl, ?_⟩⟩
        exact whole T_ (by rw [if_neg (by omega), redP_pos c1]) rfl p1 h1 H3 a2 x y x0 x1 y0 y1 h3 S3 k3 tp htp
      · have c1 : B < 0 := by
          have : ¬ 0 < B := fun z => c0 (decide_eq_true z)
          omega
        refine ⟨_, rfl, _, rfl, _, rfl, B, rfl, _, _, rfl, hA, hAl, fun p1 h1 => ?_⟩
        have R2 := R1.same (same_new (o := fr (red (-T_) (if B < 0 then -B else B))) h1)
        refine ⟨_, rfl, p, c, l, n, t + 4, rfl, R2.S, by omega, fun H3 a2 x y x0 x1 y0 y1 h3 S3 k3 => ?_⟩
        refine ⟨(by show 2 ≤ sizeLine; decide), fun tp htp => ⟨tp, _, rfl, SqT.of upd_same, rfl, _, _, rfl, _, _, rfl, rfl, ?_⟩⟩
        exact whole (-T_) (by rw [if_pos c1, redP_neg c1]) (Int.natAbs_neg _) p1 h1 H3 a2 x y x0 x1 y0 y1 h3 S3 k3 tp htp
    rintro σ H1 ⟨a1, a2, q, r, eq, G, f1, f2, R1, rfl⟩
    -- many
    refine ⟨fun σ H1 => ∃ m : Int, 0 ≤ m ∧ m ≤ 20 ∧ Fr K H1 (.ref a1) q ∧ Fr K H1 (.ref a2) r ∧ Rel Ts H H1 p c l n (t + 7) ∧ σ = [some (V.ref p), some (V.int wv), some (V.int T_), some (V.int B), some (V.int m), none, none, none, some (V.ref a2), some (V.ref a1)], ?_, ?_⟩
    · refine ⟨_, rfl, p, c, l, n, t + 6, 21, rfl, R1.S, by omega, by decide, by decide, fun H2 x x0 x1 S2 k2 => ?_⟩
      have e7 : t + 6 + 1 = t + 7 := by omega
      have R2 := R1.kp S2 k2
      rw [e7] at R2
      exact ⟨x, x0, by omega, k2.fr R1.S f1, k2.fr R1.S f2, R2, rfl⟩
    rintro σ H1' ⟨m, m0, m1, g1, g2, R2, rfl⟩
    -- ratio, need_fraction
    refine ⟨fun σ H1 => Fr K H1 (.ref a1) q ∧ Fr K H1 (.ref a2) r ∧ Rel Ts H H1 p c l n (t + 7) ∧ σ = [some (V.ref p), some (V.int wv), some (V.int T_), some (V.int B), some (V.int m), none, none, none, some (V.ref a2), some (V.ref a1)], ?_, ?_⟩
    · refine ⟨_, rfl, _, rfl, _, _, .int T_, .int B, rfl, .int _, .int _, (fun z => by cases z), fun aa e => ?_⟩
      cases e
      refine ⟨fun bb e' _ => ?_, fun z => absurd (z B rfl) hB⟩
      cases e'
      refine ⟨by omega, fun pp hpp => ?_⟩
      have s1 := same_new (o := fr (redP T_ B)) hpp
      have e1 : Fr K (upd H1' pp (fr (redP T_ B))) (.ref pp) q := by
        rw [eq]
        exact Fr.of upd_same
      refine ⟨_, rfl, dF q, dF q, e1.dp, (g1.mono s1).dp, shaped_dF q, shaped_dF q, _, rfl, ?_⟩
      rw [eqv_dF]
      refine ⟨_, rfl, _, dF q, rfl, (g1.mono s1).dp, fun _ => ?_, nofrac G.oq⟩
      refine ⟨_, rfl, dF q, dF q, (g1.mono s1).dp, (g1.mono s1).dp, shaped_dF q, shaped_dF q, _, rfl, ?_⟩
      rw [eqv_dF]
      exact ⟨g1.mono s1, g2.mono s1, R2.same s1, rfl⟩
    rintro σ H1'' ⟨j1, j2, R3, rfl⟩
    have sh := sh_told G m0 m1
    -- told
    refine ⟨fun σ H1 => ∃ a5 : Addr, Dp K H1 (.ref a5) (dTold q r m) ∧ Fr K H1 (.ref a1) q ∧ Fr K H1 (.ref a2) r ∧ Rel Ts H H1 p c l n (t + 7) ∧ σ = [some (V.ref p), some (V.int wv), some (V.int T_), some (V.int B), some (V.int m), some (V.ref a5), none, none, some (V.ref a2), some (V.ref a1)], ?_, ?_⟩
    · refine ⟨_, rfl, _, rfl, _, _, dF q, dF r, rfl, j1.dp, j2.dp, nofrac G.oq, (fun _ => nofrac G.or_), two_fin ?_⟩
      refine ⟨⟨G.dq, G.dr⟩, fun b1 h1 => ?_⟩
      have s1 := same_new (o := fr (add q r)) h1
      have x1 : Fr K (upd H1'' b1 (fr (add q r))) (.ref b1) (add q r) := Fr.of upd_same
      refine ⟨_, rfl, _, rfl, _, _, dF r, dF q, rfl, (j2.mono s1).dp, (j1.mono s1).dp, nofrac G.or_, (fun _ => nofrac G.oq), two_fin ?_⟩
      refine ⟨⟨G.dr, G.dq⟩, fun b2 h2 => ?_⟩
      have s2 := same_new (o := fr (sub r q)) h2
      have x2 : Fr K (upd _ b2 (fr (sub r q))) (.ref b2) (sub r q) := Fr.of (upd_same (H := upd H1'' b1 (fr (add q r))))
      have s12 := s1.trans s2
      refine ⟨_, rfl, _, rfl, _, _, dF q, dF r, rfl, (j1.mono s12).dp, (j2.mono s12).dp, nofrac G.oq, (fun _ => nofrac G.or_), two_fin ?_⟩
      refine ⟨⟨G.dq, G.dr⟩, fun b3 h3 => ?_⟩
      have s3 := same_new (o := fr (mul q r)) h3
      have x3 : Fr K _ (.ref b3) (mul q r) := Fr.of (upd_same (H := upd (upd H1'' b1 (fr (add q r))) b2 (fr (sub r q))) (a := b3) (o := fr (mul q r)))
      have s13 := s12.trans s3
      refine ⟨_, rfl, _, rfl, _, _, dF q, dF r, rfl, (j1.mono s13).dp, (j2.mono s13).dp, nofrac G.oq, (fun _ => nofrac G.or_), two_fin ?_⟩
      refine ⟨⟨G.dq, G.dr⟩, ?_⟩
      refine ⟨_, rfl, _, rfl, _, _, dF r, .int m, rfl, (j2.mono s13).dp, .int _, nofrac G.or_, (fun _ => nobet m0 m1), pow_fin ?_⟩
      refine ⟨G.p1, G.p2, fun b4 h4 => ?_⟩
      have s4 := same_new (o := fr (pw r m.toNat)) h4
      have x4 : Fr K _ (.ref b4) (pw r m.toNat) := Fr.of (upd_same (H := upd (upd (upd H1'' b1 (fr (add q r))) b2 (fr (sub r q))) b3 (fr (mul q r))) (a := b4) (o := fr (pw r m.toNat)))
      refine ⟨(by show 5 ≤ sizeLine; decide), fun a5 h5 => ?_⟩
      have s5 := same_new (o := .lst [.ref b1, .ref b2, .ref b3, .bl (lt q r), .ref b4]) h5
      have s15 := (s13.trans s4).trans s5
      refine ⟨a5, ?_, j1.mono s15, j2.mono s15, R3.same s15, rfl⟩
      have s34 := s3.trans (s4.trans s5)
      exact .lst (SqL.of upd_same) (.cons (x1.mono (s2.trans s34)).dp (.cons (x2.mono s34).dp (.cons (x3.mono (s4.trans s5)).dp (.cons (.bl _) (.cons (x4.mono s5).dp .nil)))))
    rintro σ H2 ⟨a5, d5, k1, k2, R4, rfl⟩
    -- due
    refine ⟨fun σ H1 => ∃ (H0 : Hp) (a6 b1 b2 b3 : Addr), H1 = upd H0 a6 (.lst [.ref b1, .ref b2, .ref b3, .bl (lt q r)]) ∧ H0 a6 = none ∧ Fr K H0 (.ref b1) (add q r) ∧ Fr K H0 (.ref b2) (sub r q) ∧ Fr K H0 (.ref b3) (mul q r) ∧
        Same H2 H0 ∧ σ = [some (V.ref p), some (V.int wv), some (V.int T_), some (V.int B), some (V.int m), some (V.ref a5), some (V.ref a6), none, some (V.ref a2), some (V.ref a1)], ?_, ?_⟩
    · refine ⟨_, rfl, _, rfl, _, _, q, r, rfl, k1, k2, ⟨G.lq, G.lr⟩, fun b1 h1 => ?_⟩
      have s1 := same_new (o := fr (add q r)) h1
      have x1 : Fr K (upd H2 b1 (fr (add q r))) (.ref b1) (add q r) := Fr.of upd_same
      refine ⟨_, rfl, _, rfl, _, _, r, q, rfl, k2.mono s1, k1.mono s1, ⟨G.lr, G.lq⟩, fun b2 h2 => ?_⟩
      have s2 := same_new (o := fr (sub r q)) h2
      have x2 : Fr K (upd _ b2 (fr (sub r q))) (.ref b2) (sub r q) := Fr.of (upd_same (H := upd H2 b1 (fr (add q r))))
      have s12 := s1.trans s2
      refine ⟨_, rfl, _, rfl, _, _, q, r, rfl, k1.mono s12, k2.mono s12, ⟨G.lq, G.lr⟩, fun b3 h3 => ?_⟩
      have s3 := same_new (o := fr (mul q r)) h3
      have x3 : Fr K _ (.ref b3) (mul q r) := Fr.of (upd_same (H := upd (upd H2 b1 (fr (add q r))) b2 (fr (sub r q))) (a := b3) (o := fr (mul q r)))
      have s13 := s12.trans s3
      refine ⟨_, rfl, _, rfl, _, _, q, r, rfl, k1.mono s13, k2.mono s13, ⟨G.lq, G.lr⟩, ?_⟩
      refine ⟨(by show 4 ≤ sizeLine; decide), fun a6 h6 => ?_⟩
      exact ⟨_, a6, b1, b2, b3, rfl, h6, x1.mono (s2.trans s3), x2.mono s3, x3, s13, rfl⟩
    rintro σ H3 ⟨H0, a6, b1, b2, b3, rfl, n6, x1, x2, x3, s0, rfl⟩
    -- append
    have s6 := same_new (o := .lst [.ref b1, .ref b2, .ref b3, .bl (lt q r)]) n6
    refine ⟨_, rfl, Or.inl ⟨rfl, _, SqL.of upd_same⟩, _, rfl, _, rfl, _, r, m, rfl, (k2.mono s0).mono s6, G.or_, G.p1, G.p2, m0, m1, fun H4 b5 s7 h5 => ?_⟩
    have l6 := s7 _ _ (upd_same (H := H0) (a := a6) (o := .lst [.ref b1, .ref b2, .ref b3, .bl (lt q r)]))
    refine ⟨a6, _, _, rfl, rfl, l6, (by show 4 < sizeLine; decide), ?_⟩
    have s8 : Same H0 (upd H4 a6 (.lst ([.ref b1, .ref b2, .ref b3, .bl (lt q r)] ++ [.ref b5]))) := fun b o e => (upd_ne (ne_of_none e n6)).trans (s7 b o (s6 b o e))
    have n56 : b5 ≠ a6 := by
      intro z
      rw [z, l6] at h5
      cases h5
    have x5 : Fr K (upd H4 a6 (.lst ([.ref b1, .ref b2, .ref b3, .bl (lt q r)] ++ [.ref b5]))) (.ref b5) (pw r m.toNat) := Fr.of ((upd_ne n56).trans h5)
    have d6 : Dp K (upd H4 a6 (.lst ([.ref b1, .ref b2, .ref b3, .bl (lt q r)] ++ [.ref b5]))) (.ref a6) (dTold q r m) :=
      .lst (SqL.of upd_same) (.cons (x1.mono s8).dp (.cons (x2.mono s8).dp (.cons (x3.mono s8).dp (.cons (.bl _) (.cons x5.dp .nil)))))
    have s9 := s0.trans s8
    generalize upd H4 a6 (.lst ([.ref b1, .ref b2, .ref b3, .bl (lt q r)] ++ [.ref b5])) = H5 at d6 s9
    have d5' := dp_same s9 d5
    have w1' := k1.mono s9
    have w2' := k2.mono s9
    have R5 := R4.same s9
    clear x5 s8
    refine ⟨_, rfl, a5, _, rfl, d5', sh.s, sh.n, sh.dep, sh.l, _, rfl, a6, _, rfl, d6, sh.s, sh.n, sh.dep, sh.l, rfl, false, by simp, ?_⟩
    -- the end, whatever is wanted
    have fin : ∀ (H6 : Hp) (a7 : Addr) (dW : PyData), Same H5 H6 → Dp K H6 (.ref a7) dW → Sh.Ok dW → (r.1 ≠ 0 → dW = .list [dF (div q r)]) → (r.1 = 0 → dW = .tuple [.str "fraction", dF r]) →
        tRet (tOp rEq (tCB (rRepr K) (tCons (tLam Ts (Hd.TTh K (rowsH CN CF)) fun E => tCall (spTwo K CF (rOver CF)) [] E (tCons (tVar 9) (tCons (tVar 8) tNil))) tNil)) (tCB (rRepr K) (tCons (tVar 7) tNil)))
          { nx := fun x H' => Q V.non H', rt := Q } [some (V.ref p), some (V.int wv), some (V.int T_), some (V.int B), some (V.int m), some (V.ref a5), some (V.ref a6), some (V.ref a7), some (V.ref a2), some (V.ref a1)] H6 := by
      intro H6 a7 dW s10 dw shw e1 e0
      have R6 := R5.same s10
      have v1 := w1'.mono s10
      have v2 := w2'.mono s10
      refine ⟨R6.T, fun H7 ext T7 => ?_⟩
      have R7 : Rel Ts H H7 p c l n (t + 7) := ⟨R6.S.ext ext, T7, R6.k.trans (ExtN.ke ext)⟩
      have u1 := ExtN.fr ext v1
      have u2 := ExtN.fr ext v2
      have dw7 := dp_ext ext _ _ dw
      refine ⟨_, rfl, _, rfl, _, _, dF q, dF r, rfl, u1.dp, u2.dp, nofrac G.oq, (fun _ => nofrac G.or_), two_fin ?_⟩
      have last : ∀ (H8 : Hp) (a8 : Addr), Same H7 H8 → Dp K H8 (.ref a8) dW → rRepr K [.ref a8] H8 fun x H1 => (tCB (rRepr K) (tCons (tVar 7) tNil)) [some (V.ref p), some (V.int wv), some (V.int T_), some (V.int B), some (V.int m), some (V.ref a5), some (V.ref a6), some (V.ref a7), some (V.ref a2), some (V.ref a1)] H1 fun y H2 => rEq x y H2 Q := by
        intro H8 a8 s11 d8
        refine ⟨a8, dW, rfl, d8, shw.s, shw.n, shw.dep, shw.l, ?_⟩
        refine ⟨_, rfl, a7, dW, rfl, dp_same s11 dw7, shw.s, shw.n, shw.dep, shw.l, rfl, ?_⟩
        rw [decide_eq_true (rfl : V.str dW.shown = V.str dW.shown)]
        exact k _ (R7.same s11)
      refine ⟨fun r0 => ?_, fun rn => ⟨⟨G.dq, G.dr, rn, by have := G.r1; omega⟩, fun b8 h8 a8 h9 => ?_⟩⟩
      · intro d hd
        refine ⟨false, Hk.fn, (fun z => by cases z), fun _ => ⟨true, Hk.ff, fun _ => ⟨rfl, d, _, _, rfl, upd_same, rfl, fun a8 h8 => ?_⟩, fun z => by cases z⟩⟩
        have s11 := same_new (o := .xd [("given", V.ref a2)]) hd
        have s12 := same_new (o := .tup [.str "fraction", V.ref a2]) h8
        refine last _ a8 (s11.trans s12) ?_
        rw [e0 r0]
        exact .tup (SqT.of upd_same) (.cons (.str _) (.cons ((u2.mono s11).mono s12).dp .nil))
      · have s11 := same_new (o := fr (div q r)) h8
        have s12 := same_new (o := .lst [.ref b8]) h9
        refine last _ a8 (s11.trans s12) ?_
        rw [e1 rn]
        have z1 : Fr K (upd H7 b8 (fr (div q r))) (.ref b8) (div q r) := Fr.of upd_same
        exact .lst (SqL.of upd_same) (.cons (z1.mono s12).dp .nil)
    -- wanted
    obtain ⟨ar, er, sr⟩ := w2'
    cases er
    refine ⟨_, rfl, _, _, _, _, rfl, rfl, sr, rfl, rfl, _, rfl, ?_⟩
    refine ite2 (fun c0 => ?_) (fun c0 => ?_)
    · have rn : r.1 ≠ 0 := by
        intro z
        rw [z] at c0
        simp at c0
      refine ⟨_, rfl, _, rfl, _, _, q, r, rfl, w1', ⟨_, rfl, sr⟩, ⟨G.lq, G.lr⟩, rn, fun H6 a7 s10 h7 => ⟨(by show 1 ≤ sizeLine; decide), fun a8 h8 => ?_⟩⟩
      have s11 := same_new (o := .lst [.ref a7]) h8
      have z1 : Fr K H6 (.ref a7) (div q r) := Fr.of h7
      exact fin _ a8 _ (s10.trans s11) (.lst (SqL.of upd_same) (.cons (z1.mono s11).dp .nil)) (sh_div G rn) (fun _ => rfl) (fun z => absurd z rn)
    · have rz : r.1 = 0 := by
        have : ¬ (!decide (V.int r.1 = V.int 0)) = true := c0
        simpa using this
      refine ⟨(by show 2 ≤ sizeLine; decide), fun a7 h7 => ⟨(by show 2 ≤ sizeLine; decide), fun a8 h8 => ?_⟩⟩
      have s10 := same_new (o := .tup [.int 0, .int 1]) h7
      have s11 := same_new (o := .tup [.str "fraction", .ref a7]) h8
      have rr := zero_of G.or_ rz
      refine fin _ a8 (.tuple [.str "fraction", dF (0, 1)]) (s10.trans s11) (.tup (SqT.of upd_same) (.cons (.str _) (.cons ?_ .nil))) sh_zero (fun z => absurd rz z) (fun _ => by rw [rr])
      have z1 : Fr K (upd H5 a7 (.tup [.int 0, .int 1])) (.ref a7) (0, 1) := Fr.of upd_same
      exact (z1.mono s11).dp
end
end Rs


set_option Elab.async false
set_option linter.all false
set_option maxRecDepth 100000
set_option maxHeartbeats 400000
namespace Rs
open PySem L2 Bs Fq LamX LmD
abbrev sRefused : Stmt := top 43
abbrev sLaw : Stmt := top 44
/-- the words of the classes -/
inductive RowOf (CN CF : Addr) : Str → Addr → Prop
  | n : RowOf CN CF "number" CN
  | f : RowOf CN CF "fraction" CF
section
variable {P : Program} {w : World} {K : PySem.W.Frag} {mg : Str → Option Value} {g CN CF C : Addr} {Q : VK} {H : Hp} {v : V} {wd : Str}
theorem out_of (Hk : HeardK K mg g CN CF) (R : RowOf CN CF wd C) (h : ∀ p H3, Same H H3 → H3 p = some (.tup [.str wd, v]) → Q (.ref p) H3) : Out (Hd.hE K Q (rowsH CN CF)) C v H := by
  intro d hd
  have s1 := same_new (o := .xd [("given", v)]) hd
  cases R with
  | n => exact ⟨true, Hk.nn, fun _ => ⟨rfl, d, _, v, rfl, upd_same, rfl, fun p hp => h p _ (s1.trans (same_new hp)) upd_same⟩, fun z => by cases z⟩
  | f => exact ⟨false, Hk.fn, (fun z => by cases z), fun _ => ⟨true, Hk.ff, fun _ => ⟨rfl, d, _, v, rfl, upd_same, rfl, fun p hp => h p _ (s1.trans (same_new hp)) upd_same⟩, fun z => by cases z⟩⟩
end
section
variable {dx dy d : PyData} {q r : F} {n : Int} {α : Prop}
theorem bad1 {P : F → F → Prop} (h : fracD dx = false) : ∀ q' r', dx = dF q' → Fq.Ok q' → dy = dF r' → Fq.Ok r' → P q' r' := by
  intro q' r' e1 o1 _ _
  rw [e1, fracD_dF o1] at h
  cases h
theorem bad2 {P : F → F → Prop} (h : fracD dy = false) : ∀ q' r', dx = dF q' → Fq.Ok q' → dy = dF r' → Fq.Ok r' → P q' r' := by
  intro q' r' _ _ e2 o2
  rw [e2, fracD_dF o2] at h
  cases h
theorem badp1 {P : F → Int → Prop} (h : fracD dx = false) : ∀ q' m, dx = dF q' → Fq.Ok q' → dy = .int m → 0 ≤ m → m ≤ 20 → P q' m := by
  intro q' m e1 o1 _ _ _
  rw [e1, fracD_dF o1] at h
  cases h
theorem badp2 {P : F → Int → Prop} (h : betwD 0 20 dy = false) : ∀ q' m, dx = dF q' → Fq.Ok q' → dy = .int m → 0 ≤ m → m ≤ 20 → P q' m := by
  intro q' m _ _ e2 m0 m1
  rw [e2] at h
  simp [betwD, m0, m1] at h
theorem nope {b : Bool} (h : b = false) (z : b = true) : α := by
  rw [h] at z
  cases z
theorem nowhole {x : Int} (h : wholeD d = false) (z : d = .int x) : α := by
  rw [z] at h
  cases h
theorem ok11 : Fq.Ok (1, 1) := ⟨by decide, by decide⟩
theorem ok12 : Fq.Ok (1, 2) := ⟨by decide, by decide⟩
end
theorem dpAll_get {K : PySem.W.Frag} {H : Hp} : ∀ {ds : List PyData} {xs : List V} {i : Nat} {x : V}, DpAll K H xs ds → xs[i]? = some x → ∃ d, d ∈ ds ∧ Dp K H x d
  | _, _, i, x, .nil, h => by simp at h
  | _, _, 0, x, .cons h1 h2, h => by
    simp only [List.getElem?_cons_zero, Option.some.injEq] at h
    rw [← h]
    exact ⟨_, List.mem_cons_self, h1⟩
  | _, _, i + 1, x, .cons h1 h2, h => by
    simp only [List.getElem?_cons_succ] at h
    obtain ⟨d, m, e⟩ := dpAll_get h2 h
    exact ⟨d, List.mem_cons_of_mem _ m, e⟩
theorem ExtN.t2 {K : PySem.W.Frag} {H H' : Hp} {v : V} {d : PyData} (e : ExtN H H') (h : Dp K H v d) : Dp K H' v d := dp_ext e d v h
theorem ExtN.l {H H' : Hp} {a : Addr} {xs : List V} (e : ExtN H H') (h : H a = some (.lst xs)) : H' a = some (.lst xs) := e _ _ h (by intro ps z; cases z)
theorem ExtN.tp {H H' : Hp} {a : Addr} {xs : List V} (e : ExtN H H') (h : H a = some (.tup xs)) : H' a = some (.tup xs) := e _ _ h (by intro ps z; cases z)
/-- a tuple of a word and data -/
theorem dp_word {K : PySem.W.Frag} {H : Hp} {a : Addr} {x : Str} {v : V} {d : PyData} (h : H a = some (.tup [.str x, v])) (hd : Dp K H v d) : Dp K H (.ref a) (.tuple [.str x, d]) := .tup (SqT.of h) (.cons (.str x) (.cons hd .nil))
theorem dp_lit {K : PySem.W.Frag} {H : Hp} {p : Addr} {a b : Int} : Dp K (upd H p (.tup [.int a, .int b])) (.ref p) (dF (a, b)) := .tup (SqT.of upd_same) (.cons (.int _) (.cons (.int _) .nil))
/-- conditions of a text, told of data without heap -/
def shB (d : PyData) : Bool := d.showable && !d.hasDict && decide (d.depth ≤ 60) && d.leavesShort 2600 && decide (d.weight ≤ 6000)
theorem sh_by {d : PyData} (h : shB d = true) : Sh.Ok d := by
  simp only [shB, Bool.and_eq_true, decide_eq_true_eq, Bool.not_eq_true'] at h
  obtain ⟨⟨⟨⟨h1, h2⟩, h3⟩, h4⟩, h5⟩ := h
  exact Sh.of h1 h2 h3 h4 h5
/-- what is no number -/
def ds1 : List PyData := [.none, .bool true, .str "2", .tuple [.int 1, .int 1]]
/-- what is no fraction -/
def ds2 : List PyData := [.none, .int 2, .tuple [.int 3, .int 6], .tuple [.int 1, .int 0], .tuple [.int 2, .int (-3)], .tuple [.int 0, .int 5], .list [.int 1, .int 3], .tuple [.bool false, .int 1], .tuple [.int 1, .int 2, .int 3]]
def dN (d : PyData) : PyData := .tuple [.str "number", d]
def dFr (d : PyData) : PyData := .tuple [.str "fraction", d]
theorem ds1_ok : ∀ d ∈ ds1, wholeD d = false ∧ betwD 0 20 d = false ∧ shB (.list [dN d, dN d, dN d]) = true := by decide +kernel
theorem ds2_ok : ∀ d ∈ ds2, fracD d = false ∧ shB (.list [dFr d, dFr d, dFr d, dFr d, dFr d, dFr d, dFr d]) = true := by decide +kernel
/-- all but the list at l -/
def KL (l : Addr) (H H' : Hp) : Prop := ∀ b o, H b = some o → b ≠ l → (∀ ps, o ≠ .tbl ps) → H' b = some o
theorem KL.of {l : Addr} {H H' : Hp} (e : ExtN H H') : KL l H H' := fun b o h _ n => e b o h n
theorem KL.trans {l : Addr} {H1 H2 H3 : Hp} (a : KL l H1 H2) (b : KL l H2 H3) : KL l H1 H3 := fun x o e n1 n2 => b x o (a x o e n1 n2) n1 n2
theorem KL.upd {l : Addr} {H : Hp} {o : HO} : KL l H (upd H l o) := fun b o e n _ => (upd_ne n).trans e
theorem KL.ext {l : Addr} {H0 H1 H2 : Hp} (e : ExtN H0 H1) (h : H0 l = none) (k : KL l H1 H2) : ExtN H0 H2 := fun b o z n => k b o (e b o z n) (ne_of_none z h) n
theorem KL.tp {l p : Addr} {H H' : Hp} {xs ys : List V} (k : KL l H H') (hl : H l = some (.lst ys)) (h : H p = some (.tup xs)) : H' p = some (.tup xs) := k p _ h (ne_of h hl (by intro z; cases z)) (by intro ps z; cases z)
theorem tabs_app {Ts : List (Addr × Str)} {H : Hp} {l : Addr} {xs ys : List V} (T : Tabs Ts H) (hl : H l = some (.lst xs)) : Tabs Ts (upd H l (.lst ys)) := by
  intro q hq
  obtain ⟨ps, h1, h2, h3⟩ := T q hq
  refine ⟨ps, (upd_ne (ne_of h1 hl (by intro z; cases z))).trans h1, h2, fun pos cv hc => ?_⟩
  obtain ⟨c, e1, e2⟩ := h3 pos cv hc
  exact ⟨c, e1, (upd_ne (ne_of e2 hl (by unfold CodeO; intro z; cases z))).trans e2⟩
theorem dpAll_app {K : PySem.W.Frag} {H : Hp} : ∀ {ds es : List PyData} {xs ys : List V}, DpAll K H xs ds → DpAll K H ys es → DpAll K H (xs ++ ys) (ds ++ es)
  | _, _, _, _, .nil, h => h
  | _, _, _, _, .cons h1 h2, h => .cons h1 (dpAll_app h2 h)
/-- what is heard behind so many turns -/
def dsI : Nat → List PyData
  | 0 => [dFr .none, dFr .none]
  | i + 1 => dsI i ++ [dFr (dF (2, 4))] ++ [dFr (dF (2, 4))]
theorem dsI_len : ∀ i : Nat, (dsI i).length = 2 + 2 * i
  | 0 => rfl
  | i + 1 => by
    simp only [dsI, List.length_append, dsI_len i, List.length_cons, List.length_nil]
    omega
end Rs


set_option Elab.async false
set_option linter.all false
set_option maxRecDepth 100000
set_option maxHeartbeats 1000000
namespace Rs
open PySem L2 Bs Fq LamX LmD
/-- _law_refused_good() -/
def spRefused (Ts : List (Addr × Str)) : Sp := fun vs H Q _ => vs = [] ∧ Tabs Ts H ∧ ∀ H', ExtN H H' → Tabs Ts H' → Q (.bl true) H'
theorem scRefused : FnScope ["odd", "heard", "turn"] [] (defScope sRefused) := ⟨rfl, rfl, rfl, by decide +kernel, rfl, by decide +kernel, by decide +kernel⟩
theorem nown : ∀ i : Nat, (["odd", "heard", "turn"] : List Str)[i]? ≠ some "own"
  | 0 => by decide
  | 1 => by decide
  | 2 => by decide
  | i + 3 => by simp
section
variable {P : Program} {w : World} {K : PySem.W.Frag} {mg : Str → Option Value} {base : Heap} {f c1 P1 g CN CF : Addr} {fd : FuncData} {Ts : List (Addr × Str)}
theorem ok_refused (F : FunC K "_law_refused_good" "_law_refused_good" sRefused f fd c1) (T : Blt mg) (Hk : HeardK K mg g CN CF)
    (Tk : ∀ A outer s H E, TabOk (cxOf CX0 P w K mg base ["odd", "heard", "turn"] "_law_refused_good" (defScope sRefused) f (.ref c1) A outer s H E).nox Ts c1 P1)
    (RA : CalX P w K mg base 3 "ratio" (spRatio K CN)) (NF : CalX P w K mg base 3 "need_fraction" (spNeedF K CF))
    (PL : CalX P w K mg base 4 "plus" (spTwo K CF (rOp add dom2))) (LE : CalX P w K mg base 4 "less" (spTwo K CF (rOp sub dom2))) (TI : CalX P w K mg base 4 "times" (spTwo K CF (rOp mul dom2)))
    (IL : CalX P w K mg base 4 "is_less" (spTwo K CF rLt)) (PW_ : CalX P w K mg base 4 "power" (spPower K CF CN)) (OV : CalX P w K mg base 4 "over" (spTwo K CF (rOver CF))) :
    FnG P w K mg base 7 f fd [] (spRefused Ts) := by
  refine FnG.okC F scRefused (fun vs H Q E h => ?_) (fun A outer s H vs Q E hgd hr h => ?_)
  · obtain ⟨rfl, _⟩ := h
    rfl
  · obtain ⟨rfl, TT, k⟩ := h
    refine ⟨_, (C8.pss_cut (ps_for PassesOwn.never rfl (pi_tup (pe_tup (pa_cons pe_non (pa_cons pe_bl (pa_cons pe_str (pa_cons (pe_tup (pa_cons pe_int (pa_cons pe_int pa_nil))) pa_nil)))))) (pg_name (i := 0) scRefused.nd rfl (Or.inr rfl))
      (C8.pss_cut (ps_set (i := 1) scRefused.nd rfl (Or.inl rfl) (pe_lst (pa_cons (pe_hd (k := 4) (t := (fun E => tCall (spRatio K CN) [] E (tCons (tVar 0) (tCons (tC .non) tNil)))) Hk (Tk A outer s H E) hr (by rfl) (lamS_by (sc := defScope sRefused) (by decide +kernel)) (fun A' outer' s' H' E' f' c' hr' => pe_x RA hr' (by decide) (by rfl) (passes_call (takes_of rfl rfl rfl rfl) (fun _ _ _ _ h => h)) (pa_cons (pv 0) (pa_cons pe_non pa_nil)))) (pa_cons (pe_hdD (k := 4) (t := (fun E => tCall (spRatio K CN) [] E (tCons (tC (.int 2)) (tCons (tVar 0) tNil)))) Hk (Tk A outer s H E) hr (by rfl) (scD_by (sc := defScope sRefused) (by decide +kernel)) nown bindD (fun A' outer' s' H' E' f' c' hr' => pe_x RA hr' (by decide) (by rfl) (passes_call (takes_of rfl rfl rfl rfl) (fun _ _ _ _ h => h)) (pa_cons pe_int (pa_cons (pv 0) pa_nil)))) pa_nil))))
      (pss_one (ps_if (pt_cmpR op_ne (pe_callB (call_repr hgd hr.units) (by rfl) T.repr (by decide +kernel) (pa_cons (pe_op op_cat (pv 1) (pe_lst (pa_cons (pe_hd (k := 4) (t := (fun E => tCall (spPower K CF CN) [] E (tCons (tTup (tCons (tC (.int 1)) (tCons (tC (.int 2)) tNil))) (tCons (tVar 0) tNil)))) Hk (Tk A outer s H E) hr (by rfl) (lamS_by (sc := defScope sRefused) (by decide +kernel)) (fun A' outer' s' H' E' f' c' hr' => pe_x PW_ hr' (by decide) (by rfl) (passes_call (takes_of rfl rfl rfl rfl) (fun _ _ _ _ h => h)) (pa_cons (pe_tup (pa_cons pe_int (pa_cons pe_int pa_nil))) (pa_cons (pv 0) pa_nil)))) pa_nil))) pa_nil)) (pe_callB (call_repr hgd hr.units) (by rfl) T.repr (by decide +kernel) (pa_cons (pe_op op_rep (pe_lst (pa_cons (pe_tup (pa_cons pe_str (pa_cons (pv 0) pa_nil))) pa_nil)) pe_int) pa_nil)) (nomark _)) (pss_one (ps_ret pe_bl)) pss_nil))))
      (C8.pss_cut (ps_for PassesOwn.never rfl (pi_tup (pe_tup (pa_cons pe_non (pa_cons pe_int (pa_cons (pe_tup (pa_cons pe_int (pa_cons pe_int pa_nil))) (pa_cons (pe_tup (pa_cons pe_int (pa_cons pe_int pa_nil))) (pa_cons (pe_tup (pa_cons pe_int (pa_cons (pe_un un_neg pe_int) pa_nil))) (pa_cons (pe_tup (pa_cons pe_int (pa_cons pe_int pa_nil))) (pa_cons (pe_lst (pa_cons pe_int (pa_cons pe_int pa_nil))) (pa_cons (pe_tup (pa_cons pe_bl (pa_cons pe_int pa_nil))) (pa_cons (pe_tup (pa_cons pe_int (pa_cons pe_int (pa_cons pe_int pa_nil)))) pa_nil))))))))))) (pg_name (i := 0) scRefused.nd rfl (Or.inr rfl))
      (C8.pss_cut (ps_set (i := 1) scRefused.nd rfl (Or.inl rfl) (pe_lst (pa_cons (pe_hd (k := 4) (t := (fun E => tCall (spNeedF K CF) [] E (tCons (tVar 0) tNil))) Hk (Tk A outer s H E) hr (by rfl) (lamS_by (sc := defScope sRefused) (by decide +kernel)) (fun A' outer' s' H' E' f' c' hr' => pe_x NF hr' (by decide) (by rfl) (passes_call (takes_of rfl rfl rfl rfl) (fun _ _ _ _ h => h)) (pa_cons (pv 0) pa_nil))) (pa_cons (pe_hdD (k := 4) (t := (fun E => tCall (spTwo K CF (rOp add dom2)) [] E (tCons (tTup (tCons (tC (.int 1)) (tCons (tC (.int 1)) tNil))) (tCons (tVar 0) tNil)))) Hk (Tk A outer s H E) hr (by rfl) (scD_by (sc := defScope sRefused) (by decide +kernel)) nown bindD (fun A' outer' s' H' E' f' c' hr' => pe_x PL hr' (by decide) (by rfl) (passes_call (takes_of rfl rfl rfl rfl) (fun _ _ _ _ h => h)) (pa_cons (pe_tup (pa_cons pe_int (pa_cons pe_int pa_nil))) (pa_cons (pv 0) pa_nil)))) pa_nil))))
      (C8.pss_cut (ps_set (i := 1) scRefused.nd rfl (Or.inl rfl) (pe_op op_cat (pv 1) (pe_lst (pa_cons (pe_hd (k := 4) (t := (fun E => tCall (spTwo K CF (rOp sub dom2)) [] E (tCons (tVar 0) (tCons (tC .non) tNil)))) Hk (Tk A outer s H E) hr (by rfl) (lamS_by (sc := defScope sRefused) (by decide +kernel)) (fun A' outer' s' H' E' f' c' hr' => pe_x LE hr' (by decide) (by rfl) (passes_call (takes_of rfl rfl rfl rfl) (fun _ _ _ _ h => h)) (pa_cons (pv 0) (pa_cons pe_non pa_nil)))) (pa_cons (pe_hdD (k := 4) (t := (fun E => tCall (spTwo K CF (rOp mul dom2)) [] E (tCons (tTup (tCons (tC (.int 1)) (tCons (tC (.int 1)) tNil))) (tCons (tVar 0) tNil)))) Hk (Tk A outer s H E) hr (by rfl) (scD_by (sc := defScope sRefused) (by decide +kernel)) nown bindD (fun A' outer' s' H' E' f' c' hr' => pe_x TI hr' (by decide) (by rfl) (passes_call (takes_of rfl rfl rfl rfl) (fun _ _ _ _ h => h)) (pa_cons (pe_tup (pa_cons pe_int (pa_cons pe_int pa_nil))) (pa_cons (pv 0) pa_nil)))) pa_nil)))))
      (C8.pss_cut (ps_set (i := 1) scRefused.nd rfl (Or.inl rfl) (pe_op op_cat (pv 1) (pe_lst (pa_cons (pe_hd (k := 4) (t := (fun E => tCall (spTwo K CF (rOver CF)) [] E (tCons (tVar 0) (tCons (tC .non) tNil)))) Hk (Tk A outer s H E) hr (by rfl) (lamS_by (sc := defScope sRefused) (by decide +kernel)) (fun A' outer' s' H' E' f' c' hr' => pe_x OV hr' (by decide) (by rfl) (passes_call (takes_of rfl rfl rfl rfl) (fun _ _ _ _ h => h)) (pa_cons (pv 0) (pa_cons pe_non pa_nil)))) (pa_cons (pe_hdD (k := 4) (t := (fun E => tCall (spPower K CF CN) [] E (tCons (tVar 0) (tCons (tC .non) tNil)))) Hk (Tk A outer s H E) hr (by rfl) (scD_by (sc := defScope sRefused) (by decide +kernel)) nown bindD (fun A' outer' s' H' E' f' c' hr' => pe_x PW_ hr' (by decide) (by rfl) (passes_call (takes_of rfl rfl rfl rfl) (fun _ _ _ _ h => h)) (pa_cons (pv 0) (pa_cons pe_non pa_nil)))) pa_nil)))))
      (C8.pss_cut (ps_expr (pe_bm PySem.F.plainAttrs_list PySem.F.slot_list_append PySem.F.type_list_append mt_append (pv 1) (pa_cons (pe_hd (k := 4) (t := (fun E => tCall (spTwo K CF rLt) [] E (tCons (tVar 0) (tCons (tC .non) tNil)))) Hk (Tk A outer s H E) hr (by rfl) (lamS_by (sc := defScope sRefused) (by decide +kernel)) (fun A' outer' s' H' E' f' c' hr' => pe_x IL hr' (by decide) (by rfl) (passes_call (takes_of rfl rfl rfl rfl) (fun _ _ _ _ h => h)) (pa_cons (pv 0) (pa_cons pe_non pa_nil)))) pa_nil)))
      (pss_one (ps_if (pt_cmpR op_ne (pe_callB (call_repr hgd hr.units) (by rfl) T.repr (by decide +kernel) (pa_cons (pv 1) pa_nil)) (pe_callB (call_repr hgd hr.units) (by rfl) T.repr (by decide +kernel) (pa_cons (pe_op op_rep (pe_lst (pa_cons (pe_tup (pa_cons pe_str (pa_cons (pv 0) pa_nil))) pa_nil)) pe_int) pa_nil)) (nomark _)) (pss_one (ps_ret pe_bl)) pss_nil)))))))
      (C8.pss_cut (ps_set (i := 1) scRefused.nd rfl (Or.inl rfl) (pe_lst (pa_cons (pe_hd (k := 4) (t := (fun E => tCall (spTwo K CF (rOp add dom2)) [] E (tCons (tC .non) (tCons (tC (.int 5)) tNil)))) Hk (Tk A outer s H E) hr (by rfl) (lamS_by (sc := defScope sRefused) (by decide +kernel)) (fun A' outer' s' H' E' f' c' hr' => pe_x PL hr' (by decide) (by rfl) (passes_call (takes_of rfl rfl rfl rfl) (fun _ _ _ _ h => h)) (pa_cons pe_non (pa_cons pe_int pa_nil)))) (pa_cons (pe_hdD (k := 4) (t := (fun E => tCall (spTwo K CF (rOp mul dom2)) [] E (tCons (tC .non) (tCons (tC (.int 5)) tNil)))) Hk (Tk A outer s H E) hr (by rfl) (scD_by (sc := defScope sRefused) (by decide +kernel)) nown bindD (fun A' outer' s' H' E' f' c' hr' => pe_x TI hr' (by decide) (by rfl) (passes_call (takes_of rfl rfl rfl rfl) (fun _ _ _ _ h => h)) (pa_cons pe_non (pa_cons pe_int pa_nil)))) pa_nil))))
      (C8.pss_cut (ps_for PassesOwn.never rfl (pi_range1 rfl T.range (pa_cons pe_int pa_nil)) (pg_name (i := 2) scRefused.nd rfl (Or.inl rfl))
      (pss_cons (ps_expr (pe_bm PySem.F.plainAttrs_list PySem.F.slot_list_append PySem.F.type_list_append mt_append (pv 1) (pa_cons (pe_hd (k := 4) (t := (fun E => tCall (spTwo K CF (rOp sub dom2)) [] E (tCons (tTup (tCons (tC (.int 1)) (tCons (tC (.int 1)) tNil))) (tCons (tTup (tCons (tC (.int 2)) (tCons (tC (.int 4)) tNil))) tNil)))) Hk (Tk A outer s H E) hr (by rfl) (lamS_by (sc := defScope sRefused) (by decide +kernel)) (fun A' outer' s' H' E' f' c' hr' => pe_x LE hr' (by decide) (by rfl) (passes_call (takes_of rfl rfl rfl rfl) (fun _ _ _ _ h => h)) (pa_cons (pe_tup (pa_cons pe_int (pa_cons pe_int pa_nil))) (pa_cons (pe_tup (pa_cons pe_int (pa_cons pe_int pa_nil))) pa_nil)))) pa_nil)))
      (pss_one (ps_expr (pe_bm PySem.F.plainAttrs_list PySem.F.slot_list_append PySem.F.type_list_append mt_append (pv 1) (pa_cons (pe_hd (k := 4) (t := (fun E => tCall (spTwo K CF rLt) [] E (tCons (tTup (tCons (tC (.int 1)) (tCons (tC (.int 1)) tNil))) (tCons (tTup (tCons (tC (.int 2)) (tCons (tC (.int 4)) tNil))) tNil)))) Hk (Tk A outer s H E) hr (by rfl) (lamS_by (sc := defScope sRefused) (by decide +kernel)) (fun A' outer' s' H' E' f' c' hr' => pe_x IL hr' (by decide) (by rfl) (passes_call (takes_of rfl rfl rfl rfl) (fun _ _ _ _ h => h)) (pa_cons (pe_tup (pa_cons pe_int (pa_cons pe_int pa_nil))) (pa_cons (pe_tup (pa_cons pe_int (pa_cons pe_int pa_nil))) pa_nil)))) pa_nil))))))
      (C8.pss_cut (ps_set (i := 1) scRefused.nd rfl (Or.inl rfl) (pe_op op_cat (pv 1) (pe_lst (pa_cons (pe_hd (k := 4) (t := (fun E => tCall (spTwo K CF (rOver CF)) [] E (tCons (tTup (tCons (tC (.int 1)) (tCons (tC (.int 1)) tNil))) (tCons (tTup (tCons (tC (.int 2)) (tCons (tC (.int 4)) tNil))) tNil)))) Hk (Tk A outer s H E) hr (by rfl) (lamS_by (sc := defScope sRefused) (by decide +kernel)) (fun A' outer' s' H' E' f' c' hr' => pe_x OV hr' (by decide) (by rfl) (passes_call (takes_of rfl rfl rfl rfl) (fun _ _ _ _ h => h)) (pa_cons (pe_tup (pa_cons pe_int (pa_cons pe_int pa_nil))) (pa_cons (pe_tup (pa_cons pe_int (pa_cons pe_int pa_nil))) pa_nil)))) (pa_cons (pe_hdD (k := 4) (t := (fun E => tCall (spTwo K CF (rOver CF)) [] E (tCons (tTup (tCons (tC (.int 1)) (tCons (tC (.int 1)) tNil))) (tCons (tTup (tCons (tC (.int 2)) (tCons (tC (.int 4)) tNil))) tNil)))) Hk (Tk A outer s H E) hr (by rfl) (scD_by (sc := defScope sRefused) (by decide +kernel)) nown bindD (fun A' outer' s' H' E' f' c' hr' => pe_x OV hr' (by decide) (by rfl) (passes_call (takes_of rfl rfl rfl rfl) (fun _ _ _ _ h => h)) (pa_cons (pe_tup (pa_cons pe_int (pa_cons pe_int pa_nil))) (pa_cons (pe_tup (pa_cons pe_int (pa_cons pe_int pa_nil))) pa_nil)))) pa_nil)))))
      (C8.pss_cut (ps_if (pt_cmpR (op_neD hr.units) (pv 1) (pe_op op_cat (pe_op op_rep (pe_lst (pa_cons (pe_tup (pa_cons pe_str (pa_cons pe_non pa_nil))) pa_nil)) pe_int) (pe_op op_rep (pe_lst (pa_cons (pe_tup (pa_cons pe_str (pa_cons (pe_tup (pa_cons pe_int (pa_cons pe_int pa_nil))) pa_nil))) pa_nil)) pe_int)) (nomark _)) (pss_one (ps_ret pe_bl)) pss_nil)
      (C8.pss_cut (ps_set (i := 1) scRefused.nd rfl (Or.inl rfl) (pe_lst (pa_cons (pe_hd (k := 4) (t := (fun E => tCall (spPower K CF CN) [] E (tCons (tTup (tCons (tC (.int 1)) (tCons (tC (.int 2)) tNil))) (tCons (tC (.int 21)) tNil)))) Hk (Tk A outer s H E) hr (by rfl) (lamS_by (sc := defScope sRefused) (by decide +kernel)) (fun A' outer' s' H' E' f' c' hr' => pe_x PW_ hr' (by decide) (by rfl) (passes_call (takes_of rfl rfl rfl rfl) (fun _ _ _ _ h => h)) (pa_cons (pe_tup (pa_cons pe_int (pa_cons pe_int pa_nil))) (pa_cons pe_int pa_nil)))) (pa_cons (pe_hdD (k := 4) (t := (fun E => tCall (spPower K CF CN) [] E (tCons (tTup (tCons (tC (.int 1)) (tCons (tC (.int 2)) tNil))) (tCons (tUn (rU fun i => .int (-i)) (tC (.int 1))) tNil)))) Hk (Tk A outer s H E) hr (by rfl) (scD_by (sc := defScope sRefused) (by decide +kernel)) nown bindD (fun A' outer' s' H' E' f' c' hr' => pe_x PW_ hr' (by decide) (by rfl) (passes_call (takes_of rfl rfl rfl rfl) (fun _ _ _ _ h => h)) (pa_cons (pe_tup (pa_cons pe_int (pa_cons pe_int pa_nil))) (pa_cons (pe_un un_neg pe_int) pa_nil)))) pa_nil))))
      (pss_one (ps_ret (pe_cmpR (op_eqD hr.units) (pe_op op_cat (pv 1) (pe_lst (pa_cons (pe_hd (k := 4) (t := (fun E => tCall (spRatio K CN) [] E (tCons (tC (.int 1)) (tCons (tC (.int 0)) tNil)))) Hk (Tk A outer s H E) hr (by rfl) (lamS_by (sc := defScope sRefused) (by decide +kernel)) (fun A' outer' s' H' E' f' c' hr' => pe_x RA hr' (by decide) (by rfl) (passes_call (takes_of rfl rfl rfl rfl) (fun _ _ _ _ h => h)) (pa_cons pe_int (pa_cons pe_int pa_nil)))) pa_nil))) (pe_lst (pa_cons (pe_tup (pa_cons pe_str (pa_cons pe_int pa_nil))) (pa_cons (pe_tup (pa_cons pe_str (pa_cons (pe_un un_neg pe_int) pa_nil))) (pa_cons (pe_tup (pa_cons pe_str (pa_cons pe_int pa_nil))) pa_nil)))) (nomark _))))))))))), ?_⟩
    have two : (2 : Nat) ≤ sizeLine := by decide
    have one1 : (1 : Nat) ≤ sizeLine := by decide
    -- first loop
    refine ⟨fun σ H1 => ∃ v0 v1 : Option V, ExtN H H1 ∧ Tabs Ts H1 ∧ σ = [v0, v1, none], ?_, ?_⟩
    · refine ⟨two, fun t1 h1 => ⟨(by show 4 ≤ sizeLine; decide), fun a ha => ⟨a, rfl, ⟨_, SqT.of upd_same⟩, ?_⟩⟩⟩
      have s1 := same_new (o := .tup [.int 1, .int 1]) h1
      have s2 := same_new (o := .tup [.non, .bl true, .str "2", .ref t1]) ha
      refine for_tup (xs := [.non, .bl true, .str "2", .ref t1]) (fun i σ H1 => ∃ v0 v1 : Option V, ExtN H H1 ∧ Tabs Ts H1 ∧ SqT K H1 a [.non, .bl true, .str "2", .ref t1] ∧ DpAll K H1 [.non, .bl true, .str "2", .ref t1] ds1 ∧ σ = [v0, v1, none])
        ⟨none, none, ExtN.same (s1.trans s2), Tabs.same TT (s1.trans s2), SqT.of upd_same, .cons .non (.cons (.bl _) (.cons (.str _) (.cons (dp_same s2 dp_lit) .nil))), rfl⟩ ?_ ?_ ?_
      · rintro i σ H1 _ ⟨_, _, _, _, z, _, _⟩
        exact z
      · rintro i x σ H1 hx ⟨v0, v1, x1, T1, sa, da, rfl⟩
        obtain ⟨d, md, dx⟩ := dpAll_get da hx
        obtain ⟨nw, nb, shd0⟩ := ds1_ok d md
        have shd := sh_by shd0
        -- heard
        refine ⟨fun σ H2 => ∃ l p1 p2 : Addr, ExtN H1 H2 ∧ Tabs Ts H2 ∧ H2 l = some (.lst [.ref p1, .ref p2]) ∧ Dp K H2 (.ref p1) (dN d) ∧ Dp K H2 (.ref p2) (dN d) ∧ σ = [some x, some (.ref l), none], ?_, ?_⟩
        · refine ⟨T1, fun H2 x2 T2 => ⟨_, rfl, _, _, d, .none, rfl, ExtN.t2 x2 dx, .non, fun _ => out_of Hk .n (fun p1 H3 s3 h3 => ?_), fun aa e => nowhole nw e⟩⟩
          have x3 : ExtN H1 H3 := ExtN.trans x2 (ExtN.same s3)
          have T3 := Tabs.same T2 s3
          have e1 : Dp K H3 (.ref p1) (dN d) := dp_word h3 (ExtN.t2 x3 dx)
          refine ⟨T3, fun H4 x4 T4 => ⟨_, rfl, _, _, .int 2, d, rfl, .int 2, ExtN.t2 (ExtN.trans x3 x4) dx, (fun z => by cases z), fun aa e => ⟨fun bb e' _ => nowhole nw e', fun _ => out_of Hk .n (fun p2 H5 s5 h5 => ?_)⟩⟩⟩
          have x5 : ExtN H3 H5 := ExtN.trans x4 (ExtN.same s5)
          have T5 := Tabs.same T4 s5
          have e2 : Dp K H5 (.ref p2) (dN d) := dp_word h5 (ExtN.t2 (ExtN.trans x3 x5) dx)
          refine ⟨two, fun l hl => ?_⟩
          have s6 := same_new (o := .lst [.ref p1, .ref p2]) hl
          exact ⟨l, p1, p2, ExtN.trans x3 (ExtN.trans x5 (ExtN.same s6)), Tabs.same T5 s6, upd_same, ExtN.t2 (ExtN.trans x5 (ExtN.same s6)) e1, dp_same s6 e2, rfl⟩
        rintro σ H2 ⟨l, p1, p2, x2, T2, hl, e1, e2, rfl⟩
        have dx2 := ExtN.t2 x2 dx
        refine ⟨_, rfl, T2, fun H3 x3 T3 => ⟨two, fun t1' h1' => ?_⟩⟩
        have s3 := same_new (o := .tup [.int 1, .int 2]) h1'
        refine ⟨_, rfl, _, _, dF (1, 2), d, rfl, dp_lit, dp_same s3 (ExtN.t2 x3 dx2), nofrac ok12, fun _ _ => out_of Hk .n (fun p3 H4 s4 h4 => ?_), badp2 nb⟩
        have x4 : ExtN H2 H4 := ExtN.trans x3 (ExtN.same (s3.trans s4))
        have T4 := Tabs.same (Tabs.same T3 s3) s4
        have e3 : Dp K H4 (.ref p3) (dN d) := dp_word h4 (ExtN.t2 x4 dx2)
        refine ⟨one1, fun l2 hl2 => ?_⟩
        have s5 := same_new (o := .lst [.ref p3]) hl2
        refine ⟨l, l2, _, _, rfl, rfl, ExtN.l (ExtN.trans x4 (ExtN.same s5)) hl, upd_same, (by show 3 ≤ sizeLine; decide), fun l3 hl3 => ?_⟩
        have s6 := same_new (o := .lst ([.ref p1, .ref p2] ++ [.ref p3])) hl3
        have x6 := ExtN.trans x4 (ExtN.same (s5.trans s6))
        refine ⟨l3, .list [dN d, dN d, dN d], rfl, .lst (SqL.of upd_same) (.cons (ExtN.t2 x6 e1) (.cons (ExtN.t2 x6 e2) (.cons (dp_same (s5.trans s6) e3) .nil))), shd.s, shd.n, shd.dep, shd.l, ?_⟩
        refine ⟨_, rfl, two, fun p4 hp4 => ⟨one1, fun l4 hl4 => ?_⟩⟩
        have s7 := same_new (o := .tup [.str "number", x]) hp4
        have s8 := same_new (o := .lst [.ref p4]) hl4
        refine ⟨l4, 3, _, rfl, rfl, upd_same, by decide, by decide, (by show 3 ≤ sizeLine; decide), fun l5 hl5 => ?_⟩
        have s9 := same_new (o := .lst [.ref p4, .ref p4, .ref p4]) hl5
        have e4 := dp_same (s8.trans s9) (dp_word upd_same (dp_same s7 (ExtN.t2 x6 dx2)))
        refine ⟨l5, .list [dN d, dN d, dN d], rfl, .lst (SqL.of upd_same) (.cons e4 (.cons e4 (.cons e4 .nil))), shd.s, shd.n, shd.dep, shd.l, rfl, false, by simp, ?_⟩
        have s79 := s7.trans (s8.trans s9)
        have xe := ExtN.trans x2 (ExtN.trans x6 (ExtN.same s79))
        exact ⟨some x, some (.ref l), ExtN.trans x1 xe, Tabs.same (Tabs.same T4 (s5.trans s6)) s79, ExtN.t xe sa, dpAll_ext xe _ _ da, rfl⟩
      · rintro σ H1 ⟨v0, v1, x1, T1, _, _, rfl⟩
        exact ⟨v0, v1, x1, T1, rfl⟩
    rintro σ Hh ⟨vv0, vv1, xh, Th, rfl⟩
    -- second loop
    refine ⟨fun σ H1 => ∃ v0 v1 : Option V, ExtN H H1 ∧ Tabs Ts H1 ∧ σ = [v0, v1, none], ?_, ?_⟩
    · refine ⟨two, fun t1 h1 => ⟨two, fun t2 h2 => ⟨_, rfl, two, fun t3 h3 => ⟨two, fun t4 h4 => ⟨two, fun t5 h5 => ⟨two, fun t6 h6 => ⟨(by show 3 ≤ sizeLine; decide), fun t7 h7 => ⟨(by show 9 ≤ sizeLine; decide), fun a ha => ⟨a, rfl, ⟨_, SqT.of upd_same⟩, ?_⟩⟩⟩⟩⟩⟩⟩⟩⟩
      have u1 := same_new (o := .tup [.int 3, .int 6]) h1
      have u2 := same_new (o := .tup [.int 1, .int 0]) h2
      have u3 := same_new (o := .tup [.int 2, .int (-3)]) h3
      have u4 := same_new (o := .tup [.int 0, .int 5]) h4
      have u5 := same_new (o := .lst [.int 1, .int 3]) h5
      have u6 := same_new (o := .tup [.bl false, .int 1]) h6
      have u7 := same_new (o := .tup [.int 1, .int 2, .int 3]) h7
      have m7 := same_new (o := .tup [.non, .int 2, .ref t1, .ref t2, .ref t3, .ref t4, .ref t5, .ref t6, .ref t7]) ha
      have m6 := u7.trans m7
      have m5 := u6.trans m6
      have m4 := u5.trans m5
      have m3 := u4.trans m4
      have m2 := u3.trans m3
      have m1 := u2.trans m2
      have m0 := u1.trans m1
      refine for_tup (xs := [.non, .int 2, .ref t1, .ref t2, .ref t3, .ref t4, .ref t5, .ref t6, .ref t7]) (fun i σ H1 => ∃ v0 v1 : Option V, ExtN H H1 ∧ Tabs Ts H1 ∧ SqT K H1 a [.non, .int 2, .ref t1, .ref t2, .ref t3, .ref t4, .ref t5, .ref t6, .ref t7] ∧ DpAll K H1 [.non, .int 2, .ref t1, .ref t2, .ref t3, .ref t4, .ref t5, .ref t6, .ref t7] ds2 ∧ σ = [v0, v1, none])
        ⟨vv0, vv1, ExtN.trans xh (ExtN.same m0), Tabs.same Th m0, SqT.of upd_same, .cons .non (.cons (.int _) (.cons (dp_same m1 dp_lit) (.cons (dp_same m2 dp_lit) (.cons (dp_same m3 dp_lit) (.cons (dp_same m4 dp_lit) (.cons (dp_same m5 (.lst (SqL.of upd_same) (.cons (.int _) (.cons (.int _) .nil)))) (.cons (dp_same m6 (.tup (SqT.of upd_same) (.cons (.bl _) (.cons (.int _) .nil)))) (.cons (dp_same m7 (.tup (SqT.of upd_same) (.cons (.int _) (.cons (.int _) (.cons (.int _) .nil))))) .nil)))))))), rfl⟩ ?_ ?_ ?_
      · rintro i σ H1 _ ⟨_, _, _, _, z, _, _⟩
        exact z
      · rintro i x σ H1 hx ⟨v0, v1, x1, T1, sa, da, rfl⟩
        obtain ⟨d, md, dx⟩ := dpAll_get da hx
        obtain ⟨bf, shd0⟩ := ds2_ok d md
        have shd := sh_by shd0
        refine ⟨fun σ H2 => ∃ (l : Addr) (xs : List V), ExtN H1 H2 ∧ Tabs Ts H2 ∧ H2 l = some (.lst xs) ∧ DpAll K H2 xs (List.replicate 2 (dFr d)) ∧ σ = [some x, some (.ref l), none], ?_, ?_⟩
        · have z0 : ExtN H1 H1 := ExtN.refl H1
          refine ⟨T1, fun Ha11 xa11 Ta11 => ⟨_, rfl, _, d, rfl, (ExtN.t2 (ExtN.trans z0 xa11) dx), (fun z => nope bf z), fun _ => out_of Hk .f (fun p11 H11 s11 q11 => ?_)⟩⟩
          have y11 : ExtN H1 H11 := ExtN.trans xa11 (ExtN.same s11)
          have T11 := Tabs.same Ta11 s11
          have e11 : Dp K H11 (.ref p11) (dFr d) := dp_word q11 (ExtN.t2 (ExtN.trans z0 y11) dx)
          refine ⟨T11, fun Ha12 xa12 Ta12 => ⟨two, fun ta12 ha12 => ?_⟩⟩
          have sa12 := same_new (o := .tup [.int 1, .int 1]) ha12
          refine ⟨_, rfl, _, _, dF (1, 1), d, rfl, dp_lit, dp_same sa12 (ExtN.t2 (ExtN.trans y11 xa12) dx), nofrac ok11, fun _ _ => out_of Hk .f (fun p12 H12 s12 q12 => ?_), bad2 bf⟩
          have y12 : ExtN H11 H12 := ExtN.trans xa12 (ExtN.same (sa12.trans s12))
          have T12 := Tabs.same Ta12 (sa12.trans s12)
          have e12 : Dp K H12 (.ref p12) (dFr d) := dp_word q12 (ExtN.t2 (ExtN.trans y11 y12) dx)
          refine ⟨two, fun l hl => ?_⟩
          have s6 := same_new (o := .lst [.ref p11, .ref p12]) hl
          exact ⟨l, _, ExtN.trans y11 (ExtN.trans y12 (ExtN.same s6)), Tabs.same T12 s6, upd_same, .cons (ExtN.t2 (ExtN.trans y12 (ExtN.same s6)) e11) (.cons (dp_same s6 e12) .nil), rfl⟩
        rintro σ H2 ⟨l, xs, x2, T2, hl, dl, rfl⟩
        have ln : xs.length = 2 := by rw [dpAll_len dl, List.length_replicate]
        refine ⟨fun σ H2 => ∃ (l : Addr) (xs : List V), ExtN H1 H2 ∧ Tabs Ts H2 ∧ H2 l = some (.lst xs) ∧ DpAll K H2 xs (List.replicate 4 (dFr d)) ∧ σ = [some x, some (.ref l), none], ?_, ?_⟩
        · -- two more
          refine ⟨_, rfl, T2, fun Ha13 xa13 Ta13 => ⟨_, rfl, _, _, d, .none, rfl, (ExtN.t2 (ExtN.trans x2 xa13) dx), .non, fun _ => out_of Hk .f (fun p13 H13 s13 q13 => ?_), (fun z => nope bf z), bad1 bf⟩⟩
          have y13 : ExtN H2 H13 := ExtN.trans xa13 (ExtN.same s13)
          have T13 := Tabs.same Ta13 s13
          have e13 : Dp K H13 (.ref p13) (dFr d) := dp_word q13 (ExtN.t2 (ExtN.trans x2 y13) dx)
          refine ⟨T13, fun Ha14 xa14 Ta14 => ⟨two, fun ta14 ha14 => ?_⟩⟩
          have sa14 := same_new (o := .tup [.int 1, .int 1]) ha14
          refine ⟨_, rfl, _, _, dF (1, 1), d, rfl, dp_lit, dp_same sa14 (ExtN.t2 (ExtN.trans (ExtN.trans x2 y13) xa14) dx), nofrac ok11, fun _ _ => out_of Hk .f (fun p14 H14 s14 q14 => ?_), bad2 bf⟩
          have y14 : ExtN H13 H14 := ExtN.trans xa14 (ExtN.same (sa14.trans s14))
          have T14 := Tabs.same Ta14 (sa14.trans s14)
          have e14 : Dp K H14 (.ref p14) (dFr d) := dp_word q14 (ExtN.t2 (ExtN.trans (ExtN.trans x2 y13) y14) dx)
          refine ⟨two, fun l2 hl2 => ?_⟩
          have s5 := same_new (o := .lst [.ref p13, .ref p14]) hl2
          have xx := ExtN.trans y13 (ExtN.trans y14 (ExtN.same s5))
          refine ⟨l, l2, _, _, rfl, rfl, ExtN.l xx hl, upd_same, (by rw [ln]; show 4 ≤ sizeLine; decide), fun l3 hl3 => ?_⟩
          have s6 := same_new (o := .lst (xs ++ [.ref p13, .ref p14])) hl3
          have xy := ExtN.trans xx (ExtN.same s6)
          exact ⟨l3, _, ExtN.trans x2 xy, Tabs.same (Tabs.same T14 s5) s6, upd_same, dpAll_app (ds := List.replicate 2 (dFr d)) (es := [dFr d, dFr d]) (dpAll_ext xy _ _ dl) (.cons (ExtN.t2 (ExtN.trans y14 (ExtN.same (s5.trans s6))) e13) (.cons (dp_same (s5.trans s6) e14) .nil)), rfl⟩
        rintro σ H2 ⟨l, xs, x2, T2, hl, dl, rfl⟩
        have ln : xs.length = 4 := by rw [dpAll_len dl, List.length_replicate]
        refine ⟨fun σ H2 => ∃ (l : Addr) (xs : List V) (H0 : Hp), ExtN H1 H0 ∧ H0 l = none ∧ ExtN H0 H2 ∧ Tabs Ts H2 ∧ H2 l = some (.lst xs) ∧ DpAll K H0 xs (List.replicate 6 (dFr d)) ∧ σ = [some x, some (.ref l), none], ?_, ?_⟩
        · -- two more
          refine ⟨_, rfl, T2, fun Ha13 xa13 Ta13 => ⟨_, rfl, _, _, d, .none, rfl, (ExtN.t2 (ExtN.trans x2 xa13) dx), .non, fun _ => out_of Hk .f (fun p13 H13 s13 q13 => ?_), (fun z => nope bf z), bad1 bf⟩⟩
          have y13 : ExtN H2 H13 := ExtN.trans xa13 (ExtN.same s13)
          have T13 := Tabs.same Ta13 s13
          have e13 : Dp K H13 (.ref p13) (dFr d) := dp_word q13 (ExtN.t2 (ExtN.trans x2 y13) dx)
          refine ⟨T13, fun Ha14 xa14 Ta14 => ⟨_, rfl, _, _, d, .none, rfl, (ExtN.t2 (ExtN.trans (ExtN.trans x2 y13) xa14) dx), .non, fun _ => out_of Hk .f (fun p14 H14 s14 q14 => ?_), (fun z => nope bf z), badp1 bf⟩⟩
          have y14 : ExtN H13 H14 := ExtN.trans xa14 (ExtN.same s14)
          have T14 := Tabs.same Ta14 s14
          have e14 : Dp K H14 (.ref p14) (dFr d) := dp_word q14 (ExtN.t2 (ExtN.trans (ExtN.trans x2 y13) y14) dx)
          refine ⟨two, fun l2 hl2 => ?_⟩
          have s5 := same_new (o := .lst [.ref p13, .ref p14]) hl2
          have xx := ExtN.trans y13 (ExtN.trans y14 (ExtN.same s5))
          refine ⟨l, l2, _, _, rfl, rfl, ExtN.l xx hl, upd_same, (by rw [ln]; show 6 ≤ sizeLine; decide), fun l3 hl3 => ?_⟩
          have s6 := same_new (o := .lst (xs ++ [.ref p13, .ref p14])) hl3
          have xy := ExtN.trans xx (ExtN.same s6)
          exact ⟨l3, _, _, ExtN.trans x2 xx, hl3, ExtN.same s6, Tabs.same (Tabs.same T14 s5) s6, upd_same, dpAll_app (ds := List.replicate 4 (dFr d)) (es := [dFr d, dFr d]) (dpAll_ext xx _ _ dl) (.cons (ExtN.t2 (ExtN.trans y14 (ExtN.same s5)) e13) (.cons (dp_same s5 e14) .nil)), rfl⟩
        rintro σ H2 ⟨l, xs, H0, x0, n0, x2, T2, hl, dl, rfl⟩
        have ln : xs.length = 6 := by rw [dpAll_len dl, List.length_replicate]
        refine ⟨fun σ H2 => ∃ l : Addr, ExtN H1 H2 ∧ Tabs Ts H2 ∧ Dp K H2 (.ref l) (.list [dFr d, dFr d, dFr d, dFr d, dFr d, dFr d, dFr d]) ∧ σ = [some x, some (.ref l), none], ?_, ?_⟩
        · -- one more
          refine ⟨_, rfl, Or.inl ⟨rfl, _, SqL.of hl⟩, T2, fun Ha15 xa15 Ta15 => ⟨_, rfl, _, _, d, .none, rfl, (ExtN.t2 (ExtN.trans (ExtN.trans x0 x2) xa15) dx), .non, fun _ => out_of Hk .f (fun p15 H15 s15 q15 => ?_), (fun z => nope bf z), bad1 bf⟩⟩
          have y15 : ExtN H2 H15 := ExtN.trans xa15 (ExtN.same s15)
          have T15 := Tabs.same Ta15 s15
          have e15 : Dp K H15 (.ref p15) (dFr d) := dp_word q15 (ExtN.t2 (ExtN.trans (ExtN.trans x0 x2) y15) dx)
          have hl' := ExtN.l y15 hl
          refine ⟨l, xs, _, rfl, rfl, hl', (by rw [ln]; show 6 < sizeLine; decide), ?_⟩
          have xf : ExtN H0 (upd H15 l (.lst (xs ++ [.ref p15]))) := KL.ext (ExtN.trans x2 y15) n0 KL.upd
          have qf := KL.tp KL.upd hl' q15 (H' := upd H15 l (.lst (xs ++ [.ref p15])))
          refine ⟨l, ExtN.trans x0 xf, tabs_app T15 hl', .lst (SqL.of upd_same) ?_, rfl⟩
          exact dpAll_app (ds := List.replicate 6 (dFr d)) (es := [dFr d]) (dpAll_ext xf _ _ dl) (.cons (dp_word qf (ExtN.t2 (ExtN.trans x0 xf) dx)) .nil)
        rintro σ H2 ⟨l, x2, T2, D1, rfl⟩
        refine ⟨_, rfl, l, _, rfl, D1, shd.s, shd.n, shd.dep, shd.l, ?_⟩
        refine ⟨_, rfl, two, fun p4 hp4 => ⟨one1, fun l4 hl4 => ?_⟩⟩
        have s7 := same_new (o := .tup [.str "fraction", x]) hp4
        have s8 := same_new (o := .lst [.ref p4]) hl4
        refine ⟨l4, 7, _, rfl, rfl, upd_same, by decide, by decide, (by show 7 ≤ sizeLine; decide), fun l5 hl5 => ?_⟩
        have s9 := same_new (o := .lst [.ref p4, .ref p4, .ref p4, .ref p4, .ref p4, .ref p4, .ref p4]) hl5
        have e4 := dp_same (s8.trans s9) (dp_word upd_same (dp_same s7 (ExtN.t2 x2 dx)))
        refine ⟨l5, .list [dFr d, dFr d, dFr d, dFr d, dFr d, dFr d, dFr d], rfl, .lst (SqL.of upd_same) (.cons e4 (.cons e4 (.cons e4 (.cons e4 (.cons e4 (.cons e4 (.cons e4 .nil))))))), shd.s, shd.n, shd.dep, shd.l, rfl, false, by simp, ?_⟩
        have s79 := s7.trans (s8.trans s9)
        have xe := ExtN.trans x2 (ExtN.same s79)
        exact ⟨some x, some (.ref l), ExtN.trans x1 xe, Tabs.same T2 s79, ExtN.t xe sa, dpAll_ext xe _ _ da, rfl⟩
      · rintro σ H1 ⟨v0, v1, x1, T1, _, _, rfl⟩
        exact ⟨v0, v1, x1, T1, rfl⟩
    rintro σ H1 ⟨w0, w1, x1, T1, rfl⟩
    -- the two before the turns
    refine ⟨fun σ H2 => ∃ (l : Addr) (H0 : Hp) (xs : List V), ExtN H H0 ∧ H0 l = none ∧ ExtN H0 H2 ∧ Tabs Ts H2 ∧ H2 l = some (.lst xs) ∧ DpAll K H0 xs (dsI 0) ∧ σ = [w0, some (.ref l), none], ?_, ?_⟩
    · -- plus, times
      refine ⟨T1, fun Ha21 xa21 Ta21 => ⟨_, _, .none, .int 5, rfl, .non, .int 5, fun _ => out_of Hk .f (fun p21 H21 s21 q21 => ?_), (fun z => nope rfl z), bad1 rfl⟩⟩
      have y21 : ExtN H1 H21 := ExtN.trans xa21 (ExtN.same s21)
      have T21 := Tabs.same Ta21 s21
      have e21 : Dp K H21 (.ref p21) (dFr .none) := dp_word q21 .non
      refine ⟨T21, fun Ha22 xa22 Ta22 => ⟨_, _, .none, .int 5, rfl, .non, .int 5, fun _ => out_of Hk .f (fun p22 H22 s22 q22 => ?_), (fun z => nope rfl z), bad1 rfl⟩⟩
      have y22 : ExtN H21 H22 := ExtN.trans xa22 (ExtN.same s22)
      have T22 := Tabs.same Ta22 s22
      have e22 : Dp K H22 (.ref p22) (dFr .none) := dp_word q22 .non
      refine ⟨two, fun l hl => ?_⟩
      have s6 := same_new (o := .lst [.ref p21, .ref p22]) hl
      exact ⟨l, H22, _, ExtN.trans x1 (ExtN.trans y21 y22), hl, ExtN.same s6, Tabs.same T22 s6, upd_same, .cons (ExtN.t2 y22 e21) (.cons e22 .nil), rfl⟩
    rintro σ H2 ⟨l, H0, xs0, x0, n0, x2, T2, hl, dl, rfl⟩
    -- the turns
    refine ⟨fun σ H2 => ∃ (xs : List V) (v2 : Option V), ExtN H0 H2 ∧ Tabs Ts H2 ∧ H2 l = some (.lst xs) ∧ DpAll K H2 xs (dsI 2) ∧ σ = [w0, some (.ref l), v2], ?_, ?_⟩
    · refine ⟨2, rfl, by decide, by decide, for_range (n := 2) (fun i σ H1 => ∃ (xs : List V) (v2 : Option V), ExtN H0 H1 ∧ Tabs Ts H1 ∧ H1 l = some (.lst xs) ∧ (∀ H', KL l H1 H' → DpAll K H' xs (dsI i)) ∧ σ = [w0, some (.ref l), v2])
        ⟨xs0, none, x2, T2, hl, fun H' kk => dpAll_ext (KL.ext x2 n0 kk) _ _ dl, rfl⟩ ?_ ?_⟩
      · rintro i σ H3 hi ⟨xs, v2, x3, T3, hl3, dl3, rfl⟩
        have ln : xs.length = 2 + 2 * i := by rw [dpAll_len (dl3 _ (KL.of (ExtN.refl _))), dsI_len]
        refine ⟨_, rfl, Or.inl ⟨rfl, _, SqL.of hl3⟩, T3, fun Ha31 xa31 Ta31 => ⟨two, fun ta31 ha31 => ⟨two, fun tb31 hb31 => ?_⟩⟩⟩
        have sa31 := same_new (o := .tup [.int 1, .int 1]) ha31
        have sb31 := same_new (o := .tup [.int 2, .int 4]) hb31
        refine ⟨_, _, dF (1, 1), dF (2, 4), rfl, dp_same sb31 dp_lit, dp_lit, nofrac ok11, fun _ _ => out_of Hk .f (fun p31 H31 s31 q31 => ?_), bad2 (by decide)⟩
        have y31 : ExtN H3 H31 := ExtN.trans xa31 (ExtN.same ((sa31.trans sb31).trans s31))
        have T31 := Tabs.same Ta31 ((sa31.trans sb31).trans s31)
        have e31 : Dp K H31 (.ref p31) (dFr (dF (2, 4))) := dp_word q31 (dp_same s31 dp_lit)
        have hl31 := ExtN.l y31 hl3
        refine ⟨l, xs, _, rfl, rfl, hl31, Nat.lt_of_lt_of_le (m := 1000) (by omega) (by decide), ?_⟩
        have T4 := tabs_app (ys := xs ++ [.ref p31]) T31 hl31
        have hl4 : upd H31 l (.lst (xs ++ [.ref p31])) l = some (.lst (xs ++ [.ref p31])) := upd_same
        have k4 : KL l H3 (upd H31 l (.lst (xs ++ [.ref p31]))) := KL.trans (KL.of y31) KL.upd
        have b31 : H31 tb31 = some (.tup [.int 2, .int 4]) := s31 _ _ upd_same
        have d4 : ∀ H', KL l (upd H31 l (.lst (xs ++ [.ref p31]))) H' → DpAll K H' (xs ++ [.ref p31]) (dsI i ++ [dFr (dF (2, 4))]) := by
          intro H' kk
          have k5 := KL.trans (KL.upd (H := H31) (o := .lst (xs ++ [.ref p31]))) kk
          exact dpAll_app (dl3 H' (KL.trans (KL.of y31) k5)) (.cons (dp_word (KL.tp k5 hl31 q31) (.tup (SqT.of (KL.tp k5 hl31 b31)) (.cons (.int _) (.cons (.int _) .nil)))) .nil)
        generalize upd H31 l (.lst (xs ++ [.ref p31])) = H4 at T4 hl4 k4 d4
        refine ⟨_, rfl, Or.inl ⟨rfl, _, SqL.of hl4⟩, T4, fun Ha32 xa32 Ta32 => ⟨two, fun ta32 ha32 => ⟨two, fun tb32 hb32 => ?_⟩⟩⟩
        have sa32 := same_new (o := .tup [.int 1, .int 1]) ha32
        have sb32 := same_new (o := .tup [.int 2, .int 4]) hb32
        refine ⟨_, _, dF (1, 1), dF (2, 4), rfl, dp_same sb32 dp_lit, dp_lit, nofrac ok11, fun _ _ => out_of Hk .f (fun p32 H32 s32 q32 => ?_), bad2 (by decide)⟩
        have y32 : ExtN H4 H32 := ExtN.trans xa32 (ExtN.same ((sa32.trans sb32).trans s32))
        have T32 := Tabs.same Ta32 ((sa32.trans sb32).trans s32)
        have e32 : Dp K H32 (.ref p32) (dFr (dF (2, 4))) := dp_word q32 (dp_same s32 dp_lit)
        have hl32 := ExtN.l y32 hl4
        refine ⟨l, xs ++ [.ref p31], _, rfl, rfl, hl32, Nat.lt_of_lt_of_le (m := 1000) (by rw [List.length_append, ln]; show 2 + 2 * i + 1 < 1000; omega) (by decide), ?_⟩
        have b32 : H32 tb32 = some (.tup [.int 2, .int 4]) := s32 _ _ upd_same
        have k6 : KL l H3 (upd H32 l (.lst (xs ++ [.ref p31] ++ [.ref p32]))) := KL.trans k4 (KL.trans (KL.of y32) KL.upd)
        refine ⟨xs ++ [.ref p31] ++ [.ref p32], _, KL.ext x3 n0 k6, tabs_app T32 hl32, upd_same, fun H' kk => ?_, rfl⟩
        have k5 := KL.trans (KL.upd (H := H32) (o := .lst (xs ++ [.ref p31] ++ [.ref p32]))) kk
        exact dpAll_app (d4 H' (KL.trans (KL.of y32) k5)) (.cons (dp_word (KL.tp k5 hl32 q32) (.tup (SqT.of (KL.tp k5 hl32 b32)) (.cons (.int _) (.cons (.int _) .nil)))) .nil)
      · rintro σ H3 ⟨xs, v2, x3, T3, hl3, dl3, rfl⟩
        exact ⟨xs, v2, x3, T3, hl3, dl3 _ (KL.of (ExtN.refl _)), rfl⟩
    rintro σ H3 ⟨xs, v2, x3, T3, hl3, dl3, rfl⟩
    have ln : xs.length = 6 := by rw [dpAll_len dl3]; rfl
    -- two more
    refine ⟨fun σ H2 => ∃ l : Addr, ExtN H0 H2 ∧ Tabs Ts H2 ∧ Dp K H2 (.ref l) (.list (dsI 2 ++ [dFr (dF (2, 4)), dFr (dF (2, 4))])) ∧ σ = [w0, some (.ref l), v2], ?_, ?_⟩
    · -- over, over
      refine ⟨_, rfl, T3, fun Ha41 xa41 Ta41 => ⟨two, fun ta41 ha41 => ⟨two, fun tb41 hb41 => ?_⟩⟩⟩
      have sa41 := same_new (o := .tup [.int 1, .int 1]) ha41
      have sb41 := same_new (o := .tup [.int 2, .int 4]) hb41
      refine ⟨_, _, dF (1, 1), dF (2, 4), rfl, dp_same sb41 dp_lit, dp_lit, nofrac ok11, fun _ _ => out_of Hk .f (fun p41 H41 s41 q41 => ?_), bad2 (by decide)⟩
      have y41 : ExtN H3 H41 := ExtN.trans xa41 (ExtN.same ((sa41.trans sb41).trans s41))
      have T41 := Tabs.same Ta41 ((sa41.trans sb41).trans s41)
      have e41 : Dp K H41 (.ref p41) (dFr (dF (2, 4))) := dp_word q41 (dp_same s41 dp_lit)
      refine ⟨T41, fun Ha42 xa42 Ta42 => ⟨two, fun ta42 ha42 => ⟨two, fun tb42 hb42 => ?_⟩⟩⟩
      have sa42 := same_new (o := .tup [.int 1, .int 1]) ha42
      have sb42 := same_new (o := .tup [.int 2, .int 4]) hb42
      refine ⟨_, _, dF (1, 1), dF (2, 4), rfl, dp_same sb42 dp_lit, dp_lit, nofrac ok11, fun _ _ => out_of Hk .f (fun p42 H42 s42 q42 => ?_), bad2 (by decide)⟩
      have y42 : ExtN H41 H42 := ExtN.trans xa42 (ExtN.same ((sa42.trans sb42).trans s42))
      have T42 := Tabs.same Ta42 ((sa42.trans sb42).trans s42)
      have e42 : Dp K H42 (.ref p42) (dFr (dF (2, 4))) := dp_word q42 (dp_same s42 dp_lit)
      refine ⟨two, fun l2 hl2 => ?_⟩
      have s5 := same_new (o := .lst [.ref p41, .ref p42]) hl2
      have xx := ExtN.trans y41 (ExtN.trans y42 (ExtN.same s5))
      refine ⟨l, l2, _, _, rfl, rfl, ExtN.l xx hl3, upd_same, (by rw [ln]; show 8 ≤ sizeLine; decide), fun l3 hl3' => ?_⟩
      have s6 := same_new (o := .lst (xs ++ [.ref p41, .ref p42])) hl3'
      have xy := ExtN.trans xx (ExtN.same s6)
      exact ⟨l3, ExtN.trans x3 xy, Tabs.same (Tabs.same T42 s5) s6, .lst (SqL.of upd_same) (dpAll_app (dpAll_ext xy _ _ dl3) (.cons (ExtN.t2 (ExtN.trans y42 (ExtN.same (s5.trans s6))) e41) (.cons (dp_same (s5.trans s6) e42) .nil))), rfl⟩
    rintro σ H4 ⟨l', x4, T4, D4, rfl⟩
    -- as wanted
    refine ⟨fun σ H2 => ExtN H0 H2 ∧ Tabs Ts H2 ∧ σ = [w0, some (.ref l'), v2], ?_, ?_⟩
    · refine ⟨_, rfl, two, fun a1 h1 => ⟨one1, fun b1 g1 => ⟨b1, 2, _, rfl, rfl, upd_same, by decide, by decide, (by show 2 ≤ sizeLine; decide), fun c1 k1 => ⟨two, fun t1 i1 => ⟨two, fun a2 h2 => ⟨one1, fun b2 g2 => ⟨b2, 6, _, rfl, rfl, upd_same, by decide, by decide, (by show 6 ≤ sizeLine; decide), fun c2 k2 => ?_⟩⟩⟩⟩⟩⟩⟩
      have r1 := same_new (o := .tup [.str "fraction", .non]) h1
      have r2 := same_new (o := .lst [.ref a1]) g1
      have r3 := same_new (o := .lst [.ref a1, .ref a1]) k1
      have r4 := same_new (o := .tup [.int 2, .int 4]) i1
      have r5 := same_new (o := .tup [.str "fraction", .ref t1]) h2
      have r6 := same_new (o := .lst [.ref a2]) g2
      have r7 := same_new (o := .lst [.ref a2, .ref a2, .ref a2, .ref a2, .ref a2, .ref a2]) k2
      refine ⟨c1, c2, [.ref a1, .ref a1], [.ref a2, .ref a2, .ref a2, .ref a2, .ref a2, .ref a2], rfl, rfl, (r4.trans (r5.trans (r6.trans r7))) _ _ upd_same, upd_same, (by show 8 ≤ sizeLine; decide), fun c3 k3 => ?_⟩
      have r8 := same_new (o := .lst [.ref a1, .ref a1, .ref a2, .ref a2, .ref a2, .ref a2, .ref a2, .ref a2]) k3
      have f1 : Dp K _ (.ref a1) (dFr .none) := dp_same (r2.trans (r3.trans (r4.trans (r5.trans (r6.trans (r7.trans r8)))))) (dp_word upd_same .non)
      have f2 : Dp K _ (.ref a2) (dFr (dF (2, 4))) := dp_same (r6.trans (r7.trans r8)) (dp_word upd_same (dp_same r5 dp_lit))
      have rr := r1.trans (r2.trans (r3.trans (r4.trans (r5.trans (r6.trans (r7.trans r8))))))
      refine ⟨_, .list [dFr .none, dFr .none, dFr (dF (2, 4)), dFr (dF (2, 4)), dFr (dF (2, 4)), dFr (dF (2, 4)), dFr (dF (2, 4)), dFr (dF (2, 4))], dp_same rr D4, .lst (SqL.of upd_same) (.cons f1 (.cons f1 (.cons f2 (.cons f2 (.cons f2 (.cons f2 (.cons f2 (.cons f2 .nil)))))))), by decide +kernel, by decide +kernel, false, by decide +kernel, ?_⟩
      exact ⟨ExtN.trans x4 (ExtN.same rr), Tabs.same T4 rr, rfl⟩
    rintro σ H5 ⟨x5, T5, rfl⟩
    -- the last three
    refine ⟨fun σ H2 => ∃ (l : Addr) (xs : List V), ExtN H0 H2 ∧ Tabs Ts H2 ∧ H2 l = some (.lst xs) ∧ DpAll K H2 xs [dN (.int 21), dN (.int (-1))] ∧ σ = [w0, some (.ref l), v2], ?_, ?_⟩
    · -- power, power
      refine ⟨T5, fun Ha51 xa51 Ta51 => ⟨two, fun ta51 ha51 => ?_⟩⟩
      have sa51 := same_new (o := .tup [.int 1, .int 2]) ha51
      refine ⟨_, _, dF (1, 2), .int 21, rfl, dp_lit, .int 21, nofrac ok12, fun _ _ => out_of Hk .n (fun p51 H51 s51 q51 => ?_), badp2 (by decide)⟩
      have y51 : ExtN H5 H51 := ExtN.trans xa51 (ExtN.same (sa51.trans s51))
      have T51 := Tabs.same Ta51 (sa51.trans s51)
      have e51 : Dp K H51 (.ref p51) (dN (.int 21)) := dp_word q51 (.int 21)
      refine ⟨T51, fun Ha52 xa52 Ta52 => ⟨two, fun ta52 ha52 => ⟨_, rfl, ?_⟩⟩⟩
      have sa52 := same_new (o := .tup [.int 1, .int 2]) ha52
      refine ⟨_, _, dF (1, 2), .int (-1), rfl, dp_lit, .int (-1), nofrac ok12, fun _ _ => out_of Hk .n (fun p52 H52 s52 q52 => ?_), badp2 (by decide)⟩
      have y52 : ExtN H51 H52 := ExtN.trans xa52 (ExtN.same (sa52.trans s52))
      have T52 := Tabs.same Ta52 (sa52.trans s52)
      have e52 : Dp K H52 (.ref p52) (dN (.int (-1))) := dp_word q52 (.int (-1))
      refine ⟨two, fun l hl => ?_⟩
      have s6 := same_new (o := .lst [.ref p51, .ref p52]) hl
      exact ⟨l, _, ExtN.trans x5 (ExtN.trans y51 (ExtN.trans y52 (ExtN.same s6))), Tabs.same T52 s6, upd_same, .cons (ExtN.t2 (ExtN.trans y52 (ExtN.same s6)) e51) (.cons (dp_same s6 e52) .nil), rfl⟩
    rintro σ H6 ⟨l6, xs6, x6, T6, hl6, dl6, rfl⟩
    have ln6 : xs6.length = 2 := by rw [dpAll_len dl6]; rfl
    refine ⟨_, rfl, T6, fun Ha61 xa61 Ta61 => ⟨_, _, .int 1, .int 0, rfl, .int 1, .int 0, (fun z => by cases z), fun aa e => ⟨fun bb e' nz => absurd (PyData.int.inj e').symm nz, fun _ => out_of Hk .n (fun p61 H61 s61 q61 => ?_)⟩⟩⟩
    have y61 : ExtN H6 H61 := ExtN.trans xa61 (ExtN.same s61)
    have T61 := Tabs.same Ta61 s61
    have e61 : Dp K H61 (.ref p61) (dN (.int 0)) := dp_word q61 (.int 0)
    refine ⟨one1, fun l2 hl2 => ?_⟩
    have s5 := same_new (o := .lst [.ref p61]) hl2
    have xx := ExtN.trans y61 (ExtN.same s5)
    refine ⟨l6, l2, _, _, rfl, rfl, ExtN.l xx hl6, upd_same, (by rw [ln6]; show 3 ≤ sizeLine; decide), fun l3 hl3' => ?_⟩
    have s6 := same_new (o := .lst (xs6 ++ [.ref p61])) hl3'
    refine ⟨two, fun a1 h1 => ⟨_, rfl, two, fun a2 h2 => ⟨two, fun a3 h3 => ⟨(by show 3 ≤ sizeLine; decide), fun b h4 => ?_⟩⟩⟩⟩
    have r1 := same_new (o := .tup [.str "number", .int 21]) h1
    have r2 := same_new (o := .tup [.str "number", .int (-1)]) h2
    have r3 := same_new (o := .tup [.str "number", .int 0]) h3
    have r4 := same_new (o := .lst [.ref a1, .ref a2, .ref a3]) h4
    have rr := s6.trans (r1.trans (r2.trans (r3.trans r4)))
    have D1 : DpAll K _ (xs6 ++ [.ref p61]) [dN (.int 21), dN (.int (-1)), dN (.int 0)] := dpAll_app (ds := [dN (.int 21), dN (.int (-1))]) (es := [dN (.int 0)]) (dpAll_ext (ExtN.trans xx (ExtN.same rr)) _ _ dl6) (.cons (dp_same (s5.trans rr) e61) .nil)
    refine ⟨.list [dN (.int 21), dN (.int (-1)), dN (.int 0)], .list [dN (.int 21), dN (.int (-1)), dN (.int 0)], .lst (SqL.of ((r1.trans (r2.trans (r3.trans r4))) _ _ upd_same)) D1,
      .lst (SqL.of upd_same) (.cons (dp_same (r2.trans (r3.trans r4)) (dp_word upd_same (.int _))) (.cons (dp_same (r3.trans r4) (dp_word upd_same (.int _))) (.cons (dp_same r4 (dp_word upd_same (.int _))) .nil))), by decide +kernel, by decide +kernel, ?_⟩
    rw [show PyData.eqv (.list [dN (.int 21), dN (.int (-1)), dN (.int 0)]) (.list [dN (.int 21), dN (.int (-1)), dN (.int 0)]) = true from by decide +kernel]
    exact k _ (ExtN.trans x0 (ExtN.trans x6 (ExtN.trans xx (ExtN.same rr)))) (Tabs.same (Tabs.same T61 s5) rr)
end
end Rs


set_option Elab.async false
set_option linter.all false
set_option maxRecDepth 100000
set_option maxHeartbeats 1000000
namespace Rs
open PySem L2 Bs Fq LamX LmD
/-- law(script) -/
def spLaw (K : PySem.W.Frag) (Ts : List (Addr × Str)) : Sp := fun vs H Q _ => ∃ (a : Addr) (ns : List Int), vs = [.ref a] ∧ SqL K H a (ns.map V.int) ∧ ns.length ≤ 63 ∧ Tabs Ts H ∧ ∀ H', Q (.bl true) H'
theorem scLaw : FnScope ["script", "state", "turn"] ["script"] (defScope sLaw) := ⟨rfl, rfl, rfl, by decide +kernel, rfl, by decide +kernel, by decide +kernel⟩
theorem dp_new {K : PySem.W.Frag} {H : Hp} {p : Addr} {q : F} : Dp K (upd H p (fr q)) (.ref p) (dF q) := (Fr.of upd_same).dp
theorem sq_same {K : PySem.W.Frag} {H H' : Hp} {a : Addr} {xs : List V} (e : Same H H') (h : SqL K H a xs) : SqL K H' a xs := sqL_ext (ExtN.same e) h
theorem ok01 : Fq.Ok (0, 1) := ⟨by decide, by decide⟩
theorem ok13 : Fq.Ok (1, 3) := ⟨by decide, by decide⟩
theorem ok21 : Fq.Ok (2, 1) := ⟨by decide, by decide⟩
theorem ok23 : Fq.Ok (-2, 3) := ⟨by decide, by decide⟩
theorem ok34 : Fq.Ok (-3, 4) := ⟨by decide, by decide⟩
theorem dm12 : Dm (1, 2) := ⟨Lt2.mono (m := 5) (by show (1 : Int).natAbs < 32; decide) (by decide), by decide, by decide⟩
theorem dm13 : Dm (1, 3) := ⟨Lt2.mono (m := 5) (by show (1 : Int).natAbs < 32; decide) (by decide), by decide, by decide⟩
theorem dm34 : Dm (-3, 4) := ⟨Lt2.mono (m := 5) (by show (-3 : Int).natAbs < 32; decide) (by decide), by decide, by decide⟩
section
variable {P : Program} {w : World} {K : PySem.W.Frag} {mg : Str → Option Value} {base : Heap} {f c1 P1 g CN CF : Addr} {fd : FuncData} {Ts : List (Addr × Str)}
theorem ok_law (F : FunC K "law" "law" sLaw f fd c1) (T : Blt mg) (Hk : HeardK K mg g CN CF)
    (Tk : ∀ A outer s H E, TabOk (cxOf CX0 P w K mg base ["script", "state", "turn"] "law" (defScope sLaw) f (.ref c1) A outer s H E).nox Ts c1 P1)
    (RA : CalX P w K mg base 3 "ratio" (spRatio K CN)) (PW_ : CalX P w K mg base 4 "power" (spPower K CF CN)) (OV : CalX P w K mg base 4 "over" (spTwo K CF (rOver CF))) (IL : CalX P w K mg base 4 "is_less" (spTwo K CF rLt))
    (RF : CalG P w K mg base 7 "_law_refused_good" (spRefused Ts)) (BG : Cal P w K mg base 2 "_law_begin" (spBegin K)) (GD : CalG P w K mg base 7 "_law_good" (spGood Ts)) :
    FnG P w K mg base 8 f fd ["script"] (spLaw K Ts) := by
  refine FnG.okC F scLaw (fun vs H Q E h => ?_) (fun A outer s H vs Q E hgd hr h => ?_)
  · obtain ⟨a, ns, rfl, _⟩ := h
    rfl
  · obtain ⟨a, ns, rfl, sq, ln, TT, k⟩ := h
    refine ⟨_, (C8.pss_cut (ps_if (pt_cmpR (op_neD hr.units) (pe_lst (pa_cons (pe_x RA hr (by decide) (by rfl) passL (pa_cons pe_int (pa_cons (pe_un un_neg pe_int) pa_nil))) (pa_cons (pe_x RA hr (by decide) (by rfl) passL (pa_cons (pe_un un_neg pe_int) (pa_cons (pe_un un_neg pe_int) pa_nil))) (pa_cons (pe_x RA hr (by decide) (by rfl) passL (pa_cons pe_int (pa_cons (pe_un un_neg pe_int) pa_nil))) (pa_cons (pe_x PW_ hr (by decide) (by rfl) passL (pa_cons (pe_tup (pa_cons pe_int (pa_cons pe_int pa_nil))) (pa_cons pe_int pa_nil))) pa_nil))))) (pe_lst (pa_cons (pe_tup (pa_cons pe_int (pa_cons pe_int pa_nil))) (pa_cons (pe_tup (pa_cons pe_int (pa_cons pe_int pa_nil))) (pa_cons (pe_tup (pa_cons (pe_un un_neg pe_int) (pa_cons pe_int pa_nil))) (pa_cons (pe_tup (pa_cons pe_int (pa_cons pe_int pa_nil))) pa_nil))))) (nomark _)) (pss_one (ps_ret pe_bl)) pss_nil)
      (C8.pss_cut (ps_if (pt_cmpR (op_neD hr.units) (pe_lst (pa_cons (pe_x OV hr (by decide) (by rfl) passL (pa_cons (pe_tup (pa_cons pe_int (pa_cons pe_int pa_nil))) (pa_cons (pe_tup (pa_cons (pe_un un_neg pe_int) (pa_cons pe_int pa_nil))) pa_nil))) (pa_cons (pe_x PW_ hr (by decide) (by rfl) passL (pa_cons (pe_tup (pa_cons (pe_un un_neg pe_int) (pa_cons pe_int pa_nil))) (pa_cons pe_int pa_nil))) (pa_cons (pe_x PW_ hr (by decide) (by rfl) passL (pa_cons (pe_tup (pa_cons pe_int (pa_cons pe_int pa_nil))) (pa_cons pe_int pa_nil))) pa_nil)))) (pe_lst (pa_cons (pe_tup (pa_cons (pe_un un_neg pe_int) (pa_cons pe_int pa_nil))) (pa_cons (pe_tup (pa_cons (pe_un un_neg pe_int) (pa_cons pe_int pa_nil))) (pa_cons (pe_tup (pa_cons pe_int (pa_cons pe_int pa_nil))) pa_nil)))) (nomark _)) (pss_one (ps_ret pe_bl)) pss_nil)
      (C8.pss_cut (ps_if (PW.pt (pw_or (pt_cmpR op_isnot_bl (pe_x IL hr (by decide) (by rfl) passL (pa_cons (pe_tup (pa_cons pe_int (pa_cons pe_int pa_nil))) (pa_cons (pe_tup (pa_cons pe_int (pa_cons pe_int pa_nil))) pa_nil))) pe_bl (nomark _)) (pw_or1 (pt_cmpR (op_neD hr.units) (pe_hd (k := 5) (t := (fun E => tCall (spTwo K CF (rOver CF)) [] E (tCons (tTup (tCons (tC (.int 1)) (tCons (tC (.int 1)) tNil))) (tCons (tTup (tCons (tC (.int 0)) (tCons (tC (.int 1)) tNil))) tNil)))) Hk (Tk A outer s H E) hr (by rfl) (lamS_by (sc := defScope sLaw) (by decide +kernel)) (fun A' outer' s' H' E' f' c' hr' => pe_x OV hr' (by decide) (by rfl) (passes_call (takes_of rfl rfl rfl rfl) (fun _ _ _ _ h => h)) (pa_cons (pe_tup (pa_cons pe_int (pa_cons pe_int pa_nil))) (pa_cons (pe_tup (pa_cons pe_int (pa_cons pe_int pa_nil))) pa_nil)))) (pe_tup (pa_cons pe_str (pa_cons (pe_tup (pa_cons pe_int (pa_cons pe_int pa_nil))) pa_nil))) (nomark _))))) (pss_one (ps_ret pe_bl)) pss_nil)
      (C8.pss_cut (ps_if (pt_not (pt_val (pe_g0 RF hgd hr (by decide) (by rfl)))) (pss_one (ps_ret pe_bl)) pss_nil)
      (C8.pss_cut (ps_set (i := 1) scLaw.nd rfl (Or.inl rfl) (pe_n BG hr (by decide) (by rfl) (pa_cons (pv 0) pa_nil)))
      (C8.pss_cut (ps_for PassesOwn.never rfl (pi_range1 rfl T.range (pa_cons (pe_op op_add pe_int (pe_callB (call_min2 rfl) (by rfl) T.min (by decide +kernel) (pa_cons (pe_callB call_len_seq (by rfl) T.len (by decide +kernel) (pa_cons (pv 0) pa_nil)) (pa_cons pe_int pa_nil)))) pa_nil)) (pg_name (i := 2) scLaw.nd rfl (Or.inl rfl)) (pss_one (ps_if (pt_not (pt_val (pe_g GD hgd hr (by decide) (by rfl) (pa_cons (pv 1) pa_nil)))) (pss_one (ps_ret pe_bl)) pss_nil)))
      (pss_one (ps_ret pe_bl)))))))), ?_⟩
    have two : (2 : Nat) ≤ sizeLine := by decide
    -- ratios
    refine ⟨fun σ H1 => SqL K H1 a (ns.map V.int) ∧ Tabs Ts H1 ∧ σ = [some (V.ref a), none, none], ?_, ?_⟩
    · refine ⟨_, rfl, _, _, .int 0, .int (-7), rfl, .int _, .int _, (fun z => by cases z), fun aa e => ?_⟩
      cases e
      refine ⟨fun bb e' _ => ?_, fun z => absurd (z _ rfl) (by decide)⟩
      cases e'
      refine ⟨by decide, fun p1 h1 => ?_⟩
      have u1 := same_new (o := fr (redP 0 (-7))) h1
      refine ⟨_, rfl, _, rfl, _, _, .int (-4), .int (-6), rfl, .int _, .int _, (fun z => by cases z), fun aa e => ?_⟩
      cases e
      refine ⟨fun bb e' _ => ?_, fun z => absurd (z _ rfl) (by decide)⟩
      cases e'
      refine ⟨by decide, fun p2 h2 => ?_⟩
      have u2 := same_new (o := fr (redP (-4) (-6))) h2
      refine ⟨_, rfl, _, _, .int 9, .int (-6), rfl, .int _, .int _, (fun z => by cases z), fun aa e => ?_⟩
      cases e
      refine ⟨fun bb e' _ => ?_, fun z => absurd (z _ rfl) (by decide)⟩
      cases e'
      refine ⟨by decide, fun p3 h3 => ?_⟩
      have u3 := same_new (o := fr (redP 9 (-6))) h3
      refine ⟨two, fun t4 h4 => ?_⟩
      have u4 := same_new (o := .tup [.int 0, .int 1]) h4
      refine ⟨_, _, dF (0, 1), .int 0, rfl, dp_lit, .int 0, nofrac ok01, (fun _ => nobet (by decide) (by decide)), pow_fin ?_⟩
      refine ⟨(by show (0 : Int).natAbs < 64; decide), (by show (1 : Int).natAbs < 64; decide), fun p5 h5 => ?_⟩
      have u5 := same_new (o := fr (pw (0, 1) (0 : Int).toNat)) h5
      refine ⟨(by show 4 ≤ sizeLine; decide), fun l6 h6 => ?_⟩
      have u6 := same_new (o := .lst [.ref p1, .ref p2, .ref p3, .ref p5]) h6
      refine ⟨two, fun b1 g1 => ⟨two, fun b2 g2 => ⟨_, rfl, two, fun b3 g3 => ⟨two, fun b4 g4 => ⟨(by show 4 ≤ sizeLine; decide), fun l2 hl2 => ?_⟩⟩⟩⟩⟩
      have v1 := same_new (o := .tup [.int 0, .int 1]) g1
      have v2 := same_new (o := .tup [.int 2, .int 3]) g2
      have v3 := same_new (o := .tup [.int (-3), .int 2]) g3
      have v4 := same_new (o := .tup [.int 1, .int 1]) g4
      have v5 := same_new (o := .lst [.ref b1, .ref b2, .ref b3, .ref b4]) hl2
      have r4 := v4.trans v5
      have r3 := v3.trans r4
      have r2 := v2.trans r3
      have m6 := v1.trans r2
      have m5 := u6.trans m6
      have m4 := u5.trans m5
      have m3 := u4.trans m4
      have m2 := u3.trans m3
      have m1 := u2.trans m2
      refine ⟨.list [dF (redP 0 (-7)), dF (redP (-4) (-6)), dF (redP 9 (-6)), dF (pw (0, 1) (0 : Int).toNat)], .list [dF (0, 1), dF (2, 3), dF (-3, 2), dF (1, 1)],
        .lst (SqL.of (m6 _ _ upd_same)) (.cons (dp_same m1 dp_new) (.cons (dp_same m2 dp_new) (.cons (dp_same m3 dp_new) (.cons (dp_same m5 dp_new) .nil)))),
        .lst (SqL.of upd_same) (.cons (dp_same r2 dp_lit) (.cons (dp_same r3 dp_lit) (.cons (dp_same r4 dp_lit) (.cons (dp_same v5 dp_lit) .nil)))), by decide +kernel, by decide +kernel, false, by decide +kernel, ?_⟩
      exact ⟨sq_same (u1.trans m1) sq, Tabs.same TT (u1.trans m1), rfl⟩
    rintro σ H1 ⟨sq1, T1, rfl⟩
    -- quotients, powers
    refine ⟨fun σ H1 => SqL K H1 a (ns.map V.int) ∧ Tabs Ts H1 ∧ σ = [some (V.ref a), none, none], ?_, ?_⟩
    · refine ⟨two, fun t1 h1 => ⟨_, rfl, two, fun t2 h2 => ?_⟩⟩
      have u1 := same_new (o := .tup [.int 1, .int 2]) h1
      have u2 := same_new (o := .tup [.int (-3), .int 4]) h2
      refine ⟨_, _, dF (1, 2), dF (-3, 4), rfl, dp_same u2 dp_lit, dp_lit, nofrac ok12, (fun _ => nofrac ok34), two_fin ?_⟩
      refine ⟨fun z => absurd z (by decide), fun _ => ⟨⟨dm12, dm34, by decide, by decide⟩, fun p3 h3 => ?_⟩⟩
      have u3 := same_new (o := fr (div (1, 2) (-3, 4))) h3
      refine ⟨_, rfl, two, fun t4 h4 => ?_⟩
      have u4 := same_new (o := .tup [.int (-2), .int 3]) h4
      refine ⟨_, _, dF (-2, 3), .int 3, rfl, dp_lit, .int 3, nofrac ok23, (fun _ => nobet (by decide) (by decide)), pow_fin ?_⟩
      refine ⟨(by show (-2 : Int).natAbs < 64; decide), (by show (3 : Int).natAbs < 64; decide), fun p5 h5 => ?_⟩
      have u5 := same_new (o := fr (pw (-2, 3) (3 : Int).toNat)) h5
      refine ⟨two, fun t6 h6 => ?_⟩
      have u6 := same_new (o := .tup [.int 2, .int 1]) h6
      refine ⟨_, _, dF (2, 1), .int 20, rfl, dp_lit, .int 20, nofrac ok21, (fun _ => nobet (by decide) (by decide)), pow_fin ?_⟩
      refine ⟨(by show (2 : Int).natAbs < 64; decide), (by show (1 : Int).natAbs < 64; decide), fun p7 h7 => ?_⟩
      have u7 := same_new (o := fr (pw (2, 1) (20 : Int).toNat)) h7
      refine ⟨(by show 3 ≤ sizeLine; decide), fun l8 h8 => ?_⟩
      have u8 := same_new (o := .lst [.ref p3, .ref p5, .ref p7]) h8
      refine ⟨_, rfl, two, fun b1 g1 => ⟨_, rfl, two, fun b2 g2 => ⟨two, fun b3 g3 => ⟨(by show 3 ≤ sizeLine; decide), fun l2 hl2 => ?_⟩⟩⟩⟩
      have v1 := same_new (o := .tup [.int (-2), .int 3]) g1
      have v2 := same_new (o := .tup [.int (-8), .int 27]) g2
      have v3 := same_new (o := .tup [.int 1048576, .int 1]) g3
      have v4 := same_new (o := .lst [.ref b1, .ref b2, .ref b3]) hl2
      have r3 := v3.trans v4
      have r2 := v2.trans r3
      have m8 := v1.trans r2
      have m7 := u8.trans m8
      have m6 := u7.trans m7
      have m5 := u6.trans m6
      have m4 := u5.trans m5
      have m3 := u4.trans m4
      have m2 := u3.trans m3
      have m1 := u2.trans m2
      refine ⟨.list [dF (div (1, 2) (-3, 4)), dF (pw (-2, 3) (3 : Int).toNat), dF (pw (2, 1) (20 : Int).toNat)], .list [dF (-2, 3), dF (-8, 27), dF (1048576, 1)],
        .lst (SqL.of (m8 _ _ upd_same)) (.cons (dp_same m3 dp_new) (.cons (dp_same m5 dp_new) (.cons (dp_same m7 dp_new) .nil))),
        .lst (SqL.of upd_same) (.cons (dp_same r2 dp_lit) (.cons (dp_same r3 dp_lit) (.cons (dp_same v4 dp_lit) .nil))), by decide +kernel, by decide +kernel, false, by decide +kernel, ?_⟩
      exact ⟨sq_same (u1.trans m1) sq1, Tabs.same T1 (u1.trans m1), rfl⟩
    rintro σ H2 ⟨sq2, T2, rfl⟩
    -- is_less, over
    refine ⟨fun σ H1 => SqL K H1 a (ns.map V.int) ∧ Tabs Ts H1 ∧ σ = [some (V.ref a), none, none], ?_, ?_⟩
    · refine ⟨two, fun t1 h1 => ⟨two, fun t2 h2 => ?_⟩⟩
      have u1 := same_new (o := .tup [.int 1, .int 3]) h1
      have u2 := same_new (o := .tup [.int 1, .int 3]) h2
      refine ⟨_, _, dF (1, 3), dF (1, 3), rfl, dp_same u2 dp_lit, dp_lit, nofrac ok13, (fun _ => nofrac ok13), two_fin ?_⟩
      refine ⟨⟨dm13, dm13⟩, _, false, rfl, rfl, false, by decide +kernel, ?_⟩
      have T3 := Tabs.same T2 (u1.trans u2)
      refine ⟨T3, fun H4 x4 T4 => ⟨two, fun ta ha => ⟨two, fun tb hb => ?_⟩⟩⟩
      have sa := same_new (o := .tup [.int 1, .int 1]) ha
      have sb := same_new (o := .tup [.int 0, .int 1]) hb
      refine ⟨_, _, dF (1, 1), dF (0, 1), rfl, dp_same sb dp_lit, dp_lit, nofrac ok11, (fun _ => nofrac ok01), two_fin ?_⟩
      refine ⟨fun _ => out_of Hk .f (fun p5 H5 s5 q5 => ?_), fun z => absurd rfl z⟩
      have e5 : Dp K H5 (.ref p5) (dFr (dF (0, 1))) := dp_word q5 (dp_same s5 dp_lit)
      refine ⟨two, fun c1 k1 => ⟨two, fun c2 k2 => ?_⟩⟩
      have w1 := same_new (o := .tup [.int 0, .int 1]) k1
      have w2 := same_new (o := .tup [.str "fraction", .ref c1]) k2
      have sx := (sa.trans sb).trans (s5.trans (w1.trans w2))
      refine ⟨dFr (dF (0, 1)), dFr (dF (0, 1)), dp_same (w1.trans w2) e5, dp_word upd_same (dp_same w2 dp_lit), by decide +kernel, by decide +kernel, false, by decide +kernel, ?_⟩
      exact ⟨sq_same sx (sqL_ext x4 (sq_same (u1.trans u2) sq2)), Tabs.same T4 sx, rfl⟩
    rintro σ H3 ⟨sq3, T3, rfl⟩
    -- _law_refused_good
    refine ⟨fun σ H1 => SqL K H1 a (ns.map V.int) ∧ Tabs Ts H1 ∧ σ = [some (V.ref a), none, none], ?_, ?_⟩
    · exact ⟨rfl, T3, fun H4 x4 T4 => ⟨true, rfl, sqL_ext x4 sq3, T4, rfl⟩⟩
    rintro σ H4 ⟨sq4, T4, rfl⟩
    -- state
    refine ⟨fun σ H1 => ∃ (p c l : Addr) (n : Nat), Sta H1 p c l n 0 ∧ SqL K H1 a (ns.map V.int) ∧ Tabs Ts H1 ∧ σ = [some (V.ref a), some (V.ref p), none], ?_, ?_⟩
    · exact ⟨_, rfl, a, ns, rfl, sq4, ln, fun H5 p c l n s5 _ _ S => ⟨p, c, l, n, S, sq_same s5 sq4, Tabs.same T4 s5, rfl⟩⟩
    rintro σ H5 ⟨p, c, l, n, S, sq5, T5, rfl⟩
    -- the turns
    refine ⟨fun σ H1 => True, ?_, fun σ H1 _ => k H1⟩
    have hm : ∀ m : Nat, m ≤ 63 → 0 ≤ (4 : Int) + (if (4 : Int) < (m : Int) then 4 else (m : Int)) ∧ (4 : Int) + (if (4 : Int) < (m : Int) then 4 else (m : Int)) ≤ 8 := by
      intro m hm
      split <;> omega
    have hm2 := hm (ns.map V.int).length (by rw [List.length_map]; exact ln)
    refine ⟨_, rfl, a, _, rfl, Or.inl sq5, _, _, rfl, _, _, rfl, rfl, _, rfl, ?_⟩
    generalize (4 : Int) + (if (4 : Int) < ((ns.map V.int).length : Int) then 4 else ((ns.map V.int).length : Int)) = m at hm2 ⊢
    refine ⟨by omega, by omega, for_range (n := m.toNat) (fun i σ H1 => ∃ v : Option V, Sta H1 p c l n (7 * i) ∧ Tabs Ts H1 ∧ σ = [some (V.ref a), some (V.ref p), v]) ⟨none, (by rw [show (7 * ((0 : Nat) : Int)) = 0 from rfl]; exact S), T5, rfl⟩ ?_ (fun _ _ _ => trivial)⟩
    rintro i σ H6 hi ⟨v, S6, T6, rfl⟩
    refine ⟨_, rfl, p, c, l, n, _, rfl, S6, by omega, T6, fun H7 R => ⟨true, rfl, _, ?_, R.T, rfl⟩⟩
    have e7 : (7 * (i : Int) + 7) = 7 * ((i + 1 : Nat) : Int) := by omega
    rw [← e7]
    exact R.S
end
end Rs


set_option Elab.async false
set_option linter.all false
set_option maxRecDepth 100000
set_option maxHeartbeats 1000000
/-! the end of a law with tables of lambdas, for a promise that wants no guards -/
namespace Rs
open PySem PySem.Spec PyProof.Rows L2 Bs LamX
/-- what is tracked at the law's call: the empty tables; the script, if t -/
def hof (ts : List Addr) (a : Addr) (t : Bool) (u : HO) : Hp := fun b => if b ∈ ts then some (.tbl #[]) else if b = a ∧ t = true then some u else none
section
variable {ts : List Addr} {a b : Addr} {t : Bool} {u x : HO}
theorem hof_some (h : hof ts a t u b = some x) : (b ∈ ts ∧ x = .tbl #[]) ∨ (b = a ∧ t = true ∧ x = u) := by
  unfold hof at h
  split at h
  · rename_i m
    cases h
    exact .inl ⟨m, rfl⟩
  · split at h
    · rename_i z
      cases h
      exact .inr ⟨z.1, z.2, rfl⟩
    · cases h
theorem hof_tab (m : b ∈ ts) : hof ts a t u b = some (.tbl #[]) := if_pos m
theorem hof_at (n : a ∉ ts) (e : t = true) : hof ts a t u a = some u := (if_neg n).trans (if_pos ⟨rfl, e⟩)
end
section
variable {P : Program} {w : World} {K : PySem.W.Frag} {mg mb : Str → Option Value} {k : Nat} {fa a : Addr} {cs : List (Addr × Addr)} {fd : FuncData} {x : Str} {sp : Sp} {s0 : Shared} {vs : List Value} {ns : List Int}
theorem callG (inK : K.In s0.heap) (gM : s0.heap.Ns mainGlobals mg) (gB : s0.heap.Ns builtinsNs mb) (gV : ∀ y : Str, y ≠ "__name__" → mb y = bootBuiltins y) (gL : s0.heap.NoLimit) (gG : s0.gens = #[])
    (tE : ∀ q ∈ cs, s0.heap.get? q.2 = some (PySem.W.tabObj #[])) (tK : ∀ q ∈ cs, K.lookup q.2 = none) (tH : ∀ q ∈ cs, PySem.W.codeHdIn K q.1 q.2 = true)
    (gb : ∃ (m : Addr) (o : Obj), mg "__builtins__" = some (.ref m) ∧ m ≠ builtinsNs ∧ s0.heap.get? m = some o ∧ o.cls = .type "module" ∧ o.dict = some builtinsNs ∧ o.data = .plain)
    (sc : s0.heap.get? a = some { cls := .type "list", data := .seq vs.toArray }) (si : IntsAre vs ns) (sl : ns.length ≤ sizeLine) (room : Room k callerA)
    (prom : ∀ base : Heap, K.In base → base.Ns mainGlobals mg → (∀ q ∈ cs, TabB base mg q.1 q.2) → FnG P w K mg base k fa fd [x] sp) (bnd : ∀ (s : Shared) (u : Value), BindsTo s fd ⟨[u], []⟩ [(x, u)])
    (wish : ∀ H : Hp, (∀ q ∈ cs, H q.2 = some (.tbl #[])) → SqL K H a (ns.map V.int) → sp [.ref a] H (fun v _ => v = .bl true) fun _ _ _ => False) :
    codeAny (model P w) callerA (.call (.ref fa) ⟨[.ref a], []⟩) (fun r s' => r = .ok (.ret (.bool true)) ∧ OldK s0.heap s'.heap ∧ s'.os = s0.os ∧ AllBare s'.gens) s0 := by
  have rv := vals_ints si
  have lv := si.length
  generalize hts : cs.map (·.2) = ts
  have inT : ∀ b ∈ ts, ∃ c, (c, b) ∈ cs := fun b hb => by
    rw [← hts] at hb
    obtain ⟨⟨c, b'⟩, h1, h2⟩ := List.mem_map.mp hb
    cases h2
    exact ⟨c, h1⟩
  have toT : ∀ q ∈ cs, q.2 ∈ ts := fun q hq => by
    rw [← hts]
    exact List.mem_map.mpr ⟨q, hq, rfl⟩
  have tab : ∀ b ∈ ts, s0.heap.get? b = some (PySem.W.tabObj #[]) := fun b hb => by
    obtain ⟨c, m⟩ := inT b hb
    exact tE _ m
  have aT : a ∉ ts := fun z => by
    have e := (tab a z).symm.trans sc
    cases e
  -- the script's own record
  generalize hso : ({ cls := .type "list", data := .seq vs.toArray } : Obj) = so at sc
  generalize hH : hof ts a (K.lookup a).isNone (.frz so (.lst (ns.map V.int))) = H
  have why : ∀ {b : Addr} {u : HO}, H b = some u → (b ∈ ts ∧ u = .tbl #[]) ∨ (b = a ∧ K.lookup a = none ∧ u = .frz so (.lst (ns.map V.int))) := fun {b u} e => by
    rw [← hH] at e
    rcases hof_some e with z | ⟨z1, z2, z3⟩
    · exact .inl z
    · exact .inr ⟨z1, Option.isNone_iff_eq_none.mp z2, z3⟩
  have hT : ∀ q ∈ cs, H q.2 = some (.tbl #[]) := fun q hq => by
    rw [← hH]
    exact hof_tab (toT q hq)
  have hS : SqL K H a (ns.map V.int) := by
    cases e : K.lookup a with
    | none =>
      refine .inl (.inr ⟨so, ?_⟩)
      rw [← hH]
      exact hof_at aT (by rw [e]; rfl)
    | some o =>
      have e2 := inK a o e
      rw [sc] at e2
      cases e2
      subst hso
      exact .inr ⟨_, vs.toArray, _, e, rfl, rfl, rfl, by rw [List.size_toArray, lv]; exact sl, by simpa using rv⟩
  have ok0 : HOk P w H s0.heap := fun b u e => by
    rcases why e with ⟨z, rfl⟩ | ⟨rfl, _, rfl⟩
    · exact tab b z
    · refine ⟨sc, ?_⟩
      subst hso
      exact ⟨by rw [List.length_map]; exact sl, vs, _, rv, sc⟩
  -- what is neither a list nor an empty table isn't tracked
  have off : ∀ {b : Addr} {o : Obj}, s0.heap.get? b = some o → (∀ (z : Array Value) (m : Nat), o.data ≠ .seq z m) → o.data ≠ .fields #[] → H b = none := fun {b o} e n1 n2 => by
    cases q : H b with
    | none => rfl
    | some u =>
      rcases why q with ⟨z, _⟩ | ⟨z, _, _⟩
      · rw [tab b z] at e
        cases e
        exact absurd rfl n2
      · rw [z, sc] at e
        cases e
        subst hso
        exact absurd rfl (n1 _ _)
  have low : ∀ {b : Addr} {o : Obj}, s0.heap.get? b = some o → H b = none → (hidT s0.heap H).get? b = some o := fun e n => hidT_get e n
  have offD : ∀ {b : Addr} {m : Str → Option Value}, s0.heap.Ns b m → (hidT s0.heap H).Ns b m := by
    rintro b m ⟨o, es, ep, e, d, r⟩
    exact ⟨o, es, ep, low e (off e (fun z m' q => by rw [d] at q; cases q) fun q => by rw [d] at q; cases q), d, r⟩
  have offK : K.In (hidT s0.heap H) := fun b o e => low (inK b o e) (by
    cases q : H b with
    | none => rfl
    | some u =>
      rcases why q with ⟨z, _⟩ | ⟨z, n, _⟩
      · obtain ⟨c, m⟩ := inT b z
        exact absurd (e.symm.trans (tK _ m)) (by simp)
      · rw [z, n] at e
        cases e)
  have M : L2.Mod K mg (hidT s0.heap H) := by
    obtain ⟨mc, c1, c2⟩ := gL
    exact ⟨offK, offD gM, ⟨mb, offD gB, gV⟩, mc, offD c1, c2⟩
  have TB : ∀ q ∈ cs, TabB (hidT s0.heap H) mg q.1 q.2 := fun q hq => by
    obtain ⟨m, o, m1, m2, m3, m4, m5, m6⟩ := gb
    have pl : ∀ {d : Data}, d = o.data → d = .plain := fun z => z.trans m6
    refine NdefX.tabB_of_K offK (tH q hq) ⟨m, o, m1, m2, fun z => ?_, fun z => ?_, low m3 (off m3 (fun z m' e => by rw [m6] at e; cases e) fun e => by rw [m6] at e; cases e), m4, m5, m6⟩ fun z => ?_
    · obtain ⟨o2, es, ep, e, d, _⟩ := gM
      rw [← z, m3] at e
      cases e
      rw [m6] at d
      cases d
    · have e := tE q hq
      rw [← z, m3] at e
      cases e
      cases m6
    · obtain ⟨o2, es, ep, e, d, _⟩ := gM
      rw [z, tE q hq] at e
      cases e
      cases d
  have E : Env0 P w K mg (hidT s0.heap H) callerA [] s0 H :=
    { frames := rfl, mod := M, bs := fun b o e => of_hidT e, bsz := Nat.le_of_eq (hidT_size _ _), funs := trivial, frf := (fun b hb => nomatch hb), hok := ok0, bare := .of_eq gG }
  refine codeAny_mono ((prom _ offK (offD gM) TB).run callerA [] s0 H ⟨[.ref a], []⟩ [.ref a] [.ref a] _ _ rfl room E (bnd s0 (.ref a)) (.cons rfl .nil) (wish H hT hS)) fun r s' h => ?_
  rcases r with e | fl
  · exact (show False from h).elim
  · cases fl with
    | next => exact (show False from h).elim
    | brk => exact (show False from h).elim
    | cont => exact (show False from h).elim
    | ret u =>
      obtain ⟨v, H2, os, bare, un, ok2, r2, rfl⟩ := h
      obtain rfl : u = Value.bool true := r2
      have more : ∀ b ∈ ts, ∃ m : Array Value, s'.heap.get? b = some (PySem.W.tabObj m) := fun b hb => by
        obtain ⟨c, hm⟩ := inT b hb
        obtain ⟨m, z⟩ := un.tbls b #[] (hT _ hm)
        exact ⟨_, ok2 b _ z⟩
      have same : ∀ b o, b ∉ ts → s0.heap.get? b = some o → s'.heap.get? b = some o := fun b o nb e => by
        cases q : H b with
        | none => exact un.keep b o e q (fun z => nomatch z) fun z => nomatch z
        | some u =>
          rcases why q with ⟨z, _⟩ | ⟨_, _, rfl⟩
          · exact absurd z nb
          · have g1 := (ok0 b _ q).1
            have g2 := (ok2 b _ (un.frzs b _ _ q)).1
            rw [e] at g1
            cases g1
            exact g2
      refine ⟨rfl, ⟨fun b o e => ?_, fun b o e => ?_⟩, os, bare⟩
      · by_cases hb : b ∈ ts
        · obtain ⟨c, hm⟩ := inT b hb
          obtain ⟨m, g⟩ := more b hb
          rw [tab b hb] at e
          cases e
          exact .inr (.inl ⟨((PySem.W.codeHd_of_K inK (tH _ hm)).tab (tab b hb)).isCodeTable, rfl, #[], m, rfl, by rw [Array.empty_append]; exact g⟩)
        · exact .inl (same b o hb e)
      · by_cases hb : b ∈ ts
        · obtain ⟨m, g⟩ := more b hb
          exact ⟨_, g⟩
        · exact ⟨o, same b o hb e⟩
end
end Rs


set_option Elab.async false
set_option linter.all false
set_option maxRecDepth 100000
set_option maxHeartbeats 1000000
namespace Rs
open PySem PySem.Spec PyProof.Rows L2 Bs LamX
section
variable {K : PySem.W.Frag} {h : Heap} {mg : Str → Option Value} {f C c P : Addr} {x q qual : Str} {st : Stmt} {ps : List Str} {oc kV doc pm cdv ct : Value} {od an : Option Addr} {sl : Array (Option Value)}
theorem defN_mk (X : K.In h) (G : h.Ns mainGlobals mg) (a : PySem.W.nsIn K mainGlobals x = some (some (.ref f)))
    (l : K.lookup f = some ⟨oc, od, .func (PySem.W.fnOf x x (defArgs st) (defBody st) (defScope st) .none kV doc pm an cdv ct), sl⟩) (c : PySem.W.codeIn K cdv x = true) (k : PySem.W.keepIn K (.ref f) = true)
    (b : ∀ (kV doc pm : Value) (an : Option Addr) (cdv ct : Value) (us : List Value), us.length = ps.length → bindArgs (PySem.W.fnOf x x (defArgs st) (defBody st) (defScope st) .none kV doc pm an cdv ct) ⟨us, []⟩ = pure (ps.zip us)) : DefN K mg x st ps :=
  ⟨f, _, fun_mk l c k, PySem.W.mg_of X G a, (fun_mk l c k).binds b⟩
theorem defC_mk (X : K.In h) (G : h.Ns mainGlobals mg) (a : PySem.W.nsIn K mainGlobals x = some (some (.ref f)))
    (l : K.lookup f = some ⟨oc, od, .func (PySem.W.fnOf x x (defArgs st) (defBody st) (defScope st) .none kV doc pm an (.ref c) ct), sl⟩) (hc : PySem.W.codeIn K (.ref c) x = true) (k : PySem.W.keepIn K (.ref f) = true)
    (b : ∀ (kV doc pm : Value) (an : Option Addr) (cdv ct : Value) (us : List Value), us.length = ps.length → bindArgs (PySem.W.fnOf x x (defArgs st) (defBody st) (defScope st) .none kV doc pm an cdv ct) ⟨us, []⟩ = pure (ps.zip us)) : DefC K mg x st ps c :=
  ⟨f, _, ⟨oc, od, kV, doc, pm, an, ct, sl, rfl, l, hc⟩, PySem.W.mg_of X G a, k, (fun_mk l hc k).binds b⟩
/-- the table of a def's code, as K has it -/
theorem tab_mk {o1 : Value} {d1 : Option Addr} {vs : Array Value} {s1 : Array (Option Value)} (a : PySem.W.nsIn K mainGlobals x = some (some (.ref f)))
    (l : K.lookup f = some ⟨oc, od, .func (PySem.W.fnOf x x (defArgs st) (defBody st) (defScope st) .none kV doc pm an (.ref c) ct), sl⟩) (k : K.lookup c = some ⟨o1, d1, .fields vs, s1⟩) (v : (vs[11]? : Option Value) = some (.ref P)) : PySem.W.tabIn K x = some (c, P) := by
  unfold PySem.W.tabIn
  rw [a]
  simp only [l]
  show (match K.lookup c with
    | some ⟨_, _, .fields vs, _⟩ => (match (vs[11]? : Option Value) with
      | some (.ref P) => some (c, P)
      | _ => none)
    | _ => none) = _
  simp only [k, v]
end
section
variable {K : PySem.W.Frag} {mg : Str → Option Value} {CF CN g c1 c2 c3 P1 P2 P3 : Addr}
/-- all that the top has written -/
structure Top0 (K : PySem.W.Frag) (mg : Str → Option Value) (CF CN g c1 c2 c3 : Addr) : Prop where
  red : DefN K mg "reduced" sReduced ["top", "bottom"]
  add : DefN K mg "added" sAdded ["one", "other"]
  les : DefN K mg "lessened" sLessened ["one", "other"]
  tim : DefN K mg "timed" sTimed ["one", "other"]
  div : DefN K mg "divided" sDivided ["one", "other"]
  rai : DefN K mg "raised" sRaised ["one", "number"]
  bel : DefN K mg "is_below" sBelow ["one", "other"]
  who : DefN K mg "is_whole" sWhole ["thing"]
  bet : DefN K mg "is_between" sBetween ["thing", "low", "high"]
  fra : DefN K mg "is_fraction" sFraction ["thing"]
  neF : DefN K mg "need_fraction" sNeedF ["thing"]
  neB : DefN K mg "need_between" sNeedB ["thing", "low", "high"]
  rat : DefN K mg "ratio" sRatio ["top", "bottom"]
  plu : DefN K mg "plus" sPlus ["one", "other"]
  lss : DefN K mg "less" sLess ["one", "other"]
  tms : DefN K mg "times" sTimes ["one", "other"]
  ovr : DefN K mg "over" sOver ["one", "other"]
  isl : DefN K mg "is_less" sIsLess ["one", "other"]
  pow : DefN K mg "power" sPower ["one", "number"]
  mix : DefN K mg "_law_mixed" sMixed ["cell", "k"]
  beg : DefN K mg "_law_begin" sBegin ["script"]
  drw : DefN K mg "_law_draw" sDraw ["state", "many"]
  off : DefN K mg "_law_of" sOf ["state", "some"]
  lra : DefN K mg "_law_ratio" sLRatio ["top", "bottom"]
  lpl : DefN K mg "_law_plus" sLPlus ["one", "other"]
  lle : DefN K mg "_law_less" sLLess ["one", "other"]
  lti : DefN K mg "_law_times" sLTimes ["one", "other"]
  lov : DefN K mg "_law_over" sLOver ["one", "other"]
  lun : DefN K mg "_law_under" sLUnder ["one", "other"]
  lpo : DefN K mg "_law_power" sLPower ["one", "many"]
  sma : DefN K mg "_law_small" sSmall ["state"]
  ldi : DefN K mg "_law_divided" sLDivided ["one", "far"]
  god : DefC K mg "_law_good" sGood ["state"] c1
  ref : DefC K mg "_law_refused_good" sRefused [] c2
  law : DefC K mg "law" sLaw ["script"] c3
  eF : Err K mg "BadFraction" "BadFraction.__init__" sInitF CF
  eN : Err K mg "BadNumber" "BadNumber.__init__" sInitN CN
  hk : HeardK K mg g CN CF
  z : Nou K mg
  t : Blt mg
abbrev lamQ (x : Str) : Str := (x ++ ".<locals>.") ++ "<lambda>"
/-- the names that the lambdas of the three defs bear -/
def lamTs (P1 P2 P3 : Addr) : List (Addr × Str) := [(P1, lamQ "_law_good"), (P2, lamQ "_law_refused_good"), (P3, lamQ "law")]
theorem law_prom {P : Program} {w : World} (D : Top0 K mg CF CN g c1 c2 c3) (n12 : P1 ≠ P2) (n13 : P1 ≠ P3) (n23 : P2 ≠ P3) {fa : Addr} (hfa : mg "law" = some (.ref fa)) :
    ∃ fd : FuncData, (∀ (s : Shared) (u : Value), BindsTo s fd ⟨[u], []⟩ [("script", u)]) ∧
      ∀ base : Heap, (∀ r ∈ [(c1, P1), (c2, P2), (c3, P3)], TabB base mg r.1 r.2) → FnG P w K mg base 8 fa fd ["script"] (spLaw K (lamTs P1 P2 P3)) := by
  obtain ⟨f, fd, F, m, kp, bi⟩ := D.law.ex
  rw [hfa] at m
  cases m
  refine ⟨fd, ?_, fun base tb => ?_⟩
  · obtain ⟨oc, od, kV, doc, pm, an, ct, osl, rfl, _, _⟩ := F.ex
    exact fun s u => .of_eq rfl
  have t1 := tb (c1, P1) (by simp)
  have t2 := tb (c2, P2) (by simp)
  have t3 := tb (c3, P3) (by simp)
  have one1 : ∀ p ∈ lamTs P1 P2 P3, p.1 = P1 → p.2 = lamQ "_law_good" := by
    intro p hp e
    simp only [lamTs, List.mem_cons, List.not_mem_nil, or_false] at hp
    rcases hp with rfl | rfl | rfl
    · rfl
    · exact absurd e.symm n12
    · exact absurd e.symm n13
  have one2 : ∀ p ∈ lamTs P1 P2 P3, p.1 = P2 → p.2 = lamQ "_law_refused_good" := by
    intro p hp e
    simp only [lamTs, List.mem_cons, List.not_mem_nil, or_false] at hp
    rcases hp with rfl | rfl | rfl
    · exact absurd e n12
    · rfl
    · exact absurd e.symm n23
  have one3 : ∀ p ∈ lamTs P1 P2 P3, p.1 = P3 → p.2 = lamQ "law" := by
    intro p hp e
    simp only [lamTs, List.mem_cons, List.not_mem_nil, or_false] at hp
    rcases hp with rfl | rfl | rfl
    · exact absurd e n13
    · exact absurd e n23
    · rfl
  have in1 : (P1, lamQ "_law_good") ∈ lamTs P1 P2 P3 := .head _
  have in2 : (P2, lamQ "_law_refused_good") ∈ lamTs P1 P2 P3 := .tail _ (.head _)
  have in3 : (P3, lamQ "law") ∈ lamTs P1 P2 P3 := .tail _ (.tail _ (.head _))
  have T := D.t
  have eF : ErrOk P w K mg base "BadFraction" CF := D.eF.okF
  have eN : ErrOk P w K mg base "BadNumber" CN := D.eN.okN
  have red : Cal P w K mg base 1 "reduced" spReduced := D.red.cal fun f fd F => ok_reduced F T
  have add := D.add.cal (P := P) (w := w) (base := base) fun f fd F => ok_added F red
  have les := D.les.cal (P := P) (w := w) (base := base) fun f fd F => ok_lessened F red
  have tim := D.tim.cal (P := P) (w := w) (base := base) fun f fd F => ok_timed F red
  have div := D.div.cal (P := P) (w := w) (base := base) fun f fd F => ok_divided F red
  have rai := D.rai.cal (P := P) (w := w) (base := base) fun f fd F => ok_raised F T
  have bel := D.bel.cal (P := P) (w := w) (base := base) fun f fd F => ok_below F
  have who := D.who.cal (P := P) (w := w) (base := base) fun f fd F => ok_whole F T
  have bet := D.bet.cal (P := P) (w := w) (base := base) fun f fd F => ok_between F who
  have fra := D.fra.cal (P := P) (w := w) (base := base) fun f fd F => ok_fraction F T who
  have neF := D.neF.calX (P := P) (w := w) (base := base) fun f fd F => ok_needF F eF fra
  have neB := D.neB.calX (P := P) (w := w) (base := base) fun f fd F => ok_needB F eN bet
  have rat := D.rat.calX (P := P) (w := w) (base := base) fun f fd F => ok_ratio F eN who red
  have plu := D.plu.calX (P := P) (w := w) (base := base) fun f fd F => ok_plus F neF add
  have lss := D.lss.calX (P := P) (w := w) (base := base) fun f fd F => ok_less F neF les
  have tms := D.tms.calX (P := P) (w := w) (base := base) fun f fd F => ok_times F neF tim
  have ovr := D.ovr.calX (P := P) (w := w) (base := base) fun f fd F => ok_over F eF D.z neF div
  have isl := D.isl.calX (P := P) (w := w) (base := base) fun f fd F => ok_isless F neF bel
  have pow := D.pow.calX (P := P) (w := w) (base := base) fun f fd F => ok_power F neF neB rai
  have mix := D.mix.cal (P := P) (w := w) (base := base) fun f fd F => ok_mixed F T
  have beg := D.beg.cal (P := P) (w := w) (base := base) fun f fd F => ok_begin F T
  have drw := D.drw.cal (P := P) (w := w) (base := base) fun f fd F => ok_draw F T mix
  have off := D.off.cal (P := P) (w := w) (base := base) fun f fd F => ok_of F T drw
  have lra := D.lra.cal (P := P) (w := w) (base := base) fun f fd F => ok_lratio F T
  have lpl := D.lpl.cal (P := P) (w := w) (base := base) fun f fd F => ok_lplus F lra
  have lle := D.lle.cal (P := P) (w := w) (base := base) fun f fd F => ok_lless F lra
  have lti := D.lti.cal (P := P) (w := w) (base := base) fun f fd F => ok_ltimes F lra
  have lov := D.lov.cal (P := P) (w := w) (base := base) fun f fd F => ok_lover F lra
  have lun := D.lun.cal (P := P) (w := w) (base := base) fun f fd F => ok_lunder F
  have lpo := D.lpo.cal (P := P) (w := w) (base := base) fun f fd F => ok_lpower F T lti
  have sma := D.sma.cal (P := P) (w := w) (base := base) fun f fd F => ok_small F drw lra
  have ldi := D.ldi.cal (P := P) (w := w) (base := base) fun f fd F => ok_ldivided F lov
  have god : CalG P w K mg base 7 "_law_good" (spGood (lamTs P1 P2 P3)) := D.god.calG fun f fd F =>
    ok_good F T D.hk (fun A outer s H E => ⟨t1, rfl, in1, one1⟩) off drw lra sma rat neF plu lss tms isl pow ovr lpl lle lti lun lpo ldi
  have ref : CalG P w K mg base 7 "_law_refused_good" (spRefused (lamTs P1 P2 P3)) := D.ref.calG fun f fd F =>
    ok_refused F T D.hk (fun A outer s H E => ⟨t2, rfl, in2, one2⟩) rat neF plu lss tms isl pow ovr
  exact ok_law F T D.hk (fun A outer s H E => ⟨t3, rfl, in3, one3⟩) rat pow ovr isl ref beg god
/-- the walk of such a law -/
theorem walkG {l : PySem.W.OpenLaw} {q : Program} {loose : List Str} {XP : (Str → Option Value) → Heap → Prop} {YP : World → Heap → Prop} {d : DefRec} {KK : Params → PySem.W.Frag} (hn : l.most = some 63) (hd : d.params.defaults = [])
    (hY : ∀ (w : World) (h : Heap), YP w h → (KK w.params).In h)
    (F : ∀ (w : World) (mg : Str → Option Value) (fa : Addr) (h : Heap), (KK w.params).In h → h.Ns mainGlobals mg → mg d.name = some (.ref fa) →
      ∃ (CF CN g c1 c2 c3 P1 P2 P3 : Addr) (e1 e2 e3 : DefRec), Top0 (KK w.params) mg CF CN g c1 c2 c3 ∧ mg "law" = some (.ref fa) ∧ P1 ≠ P2 ∧ P1 ≠ P3 ∧ P2 ≠ P3 ∧
        (recsOf q).find? (fun e => e.name == ("_law_good" : Str)) = some e1 ∧ (recsOf q).find? (fun e => e.name == ("_law_refused_good" : Str)) = some e2 ∧ (recsOf q).find? (fun e => e.name == ("law" : Str)) = some e3 ∧
        PySem.W.tabIn (KK w.params) "_law_good" = some (c1, P1) ∧ PySem.W.tabIn (KK w.params) "_law_refused_good" = some (c2, P2) ∧ PySem.W.tabIn (KK w.params) "law" = some (c3, P3) ∧
        (∀ r ∈ [(c1, P1), (c2, P2), (c3, P3)], List.lookup r.2 (KK w.params) = none ∧ PySem.W.codeHdIn (KK w.params) r.1 r.2 = true)) :
    PySem.W.WalkO q loose XP YP l.row.toRowW d [] (fun f vs => PySem.call f vs) := by
  refine Att.attach_callB hn hd fun w s9 s0 mg mb fa o pm cd doc a vs ns GG Y h1 h2 h3 hm hs hi hl hb hg => ?_
  have inK := hY w _ Y
  obtain ⟨CF, CN, g, c1, c2, c3, P1, P2, P3, e1, e2, e3, D, m, n12, n13, n23, r1, r2, r3, b1, b2, b3, no⟩ := F w mg fa _ inK GG.T.g hm
  obtain ⟨fd, bnd, pr⟩ := law_prom (P := l.prog) (w := w) D n12 n13 n23 m
  have z1 := (PySem.W.tab_of GG.T inK r1 b1).2
  have z2 := (PySem.W.tab_of GG.T inK r2 b2).2
  have z3 := (PySem.W.tab_of GG.T inK r3 b3).2
  refine callG (cs := [(c1, P1), (c2, P2), (c3, P3)]) inK GG.T.g GG.T.b GG.T.builtins GG.T.nolimit hg ?_ (fun r hr => (no r hr).1) (fun r hr => (no r hr).2) GG.T.bmain hs hi (Nat.le_trans hl (by decide)) ⟨rfl, by decide, by decide⟩ (fun base _ _ tb => pr base tb) bnd fun H ht hq => ?_
  · intro r hr
    simp only [List.mem_cons, List.not_mem_nil, or_false] at hr
    rcases hr with rfl | rfl | rfl
    · exact z1
    · exact z2
    · exact z3
  · refine ⟨a, ns, rfl, hq, hl, ?_, fun _ => rfl⟩
    intro r hr
    simp only [lamTs, List.mem_cons, List.not_mem_nil, or_false] at hr
    rcases hr with rfl | rfl | rfl
    · exact TabS.nil (ht (c1, P1) (by simp))
    · exact TabS.nil (ht (c2, P2) (by simp))
    · exact TabS.nil (ht (c3, P3) (by simp))
end
end Rs


set_option Elab.async false
set_option linter.all false
set_option maxRecDepth 100000
set_option maxHeartbeats 1000000
namespace Rs
open PySem PySem.Spec PyProof.Rows L2 Bs LamX
section
variable {K : PySem.W.Frag} {h : Heap} {mg : Str → Option Value}
theorem nou_mk {a : Addr} {t1 t2 : Tok} {n : Nat} {sl : Array (Option Value)} (X : K.In h) (G : h.Ns mainGlobals mg) (e : PySem.W.nsIn K mainGlobals "NOUGHT" = some (some (.ref a)))
    (l : K.lookup a = some ⟨.type "tuple", none, .seq #[.int 0 t1, .int 1 t2] n, sl⟩) : Nou K mg :=
  ⟨a, PySem.W.mg_of X G e, fun H => .inr ⟨_, _, _, l, rfl, rfl, (by show 2 ≤ sizeLine; decide), .cons ⟨_, rfl⟩ (.cons ⟨_, rfl⟩ .nil)⟩⟩
theorem blt_mk (X : K.In h) (G : h.Ns mainGlobals mg) (h1 : PySem.W.nsIn K mainGlobals "isinstance" = some none) (h2 : PySem.W.nsIn K mainGlobals "len" = some none) (h3 : PySem.W.nsIn K mainGlobals "int" = some none)
    (h4 : PySem.W.nsIn K mainGlobals "bool" = some none) (h5 : PySem.W.nsIn K mainGlobals "tuple" = some none) (h6 : PySem.W.nsIn K mainGlobals "range" = some none) (h7 : PySem.W.nsIn K mainGlobals "list" = some none)
    (h8 : PySem.W.nsIn K mainGlobals "abs" = some none) (h9 : PySem.W.nsIn K mainGlobals "min" = some none) (h10 : PySem.W.nsIn K mainGlobals "repr" = some none) (h11 : PySem.W.nsIn K mainGlobals "gcd" = some (some (.builtin "math.gcd"))) : Blt mg :=
  ⟨PySem.W.mg_none_of X G h1, PySem.W.mg_none_of X G h2, PySem.W.mg_none_of X G h3, PySem.W.mg_none_of X G h4, PySem.W.mg_none_of X G h5, PySem.W.mg_none_of X G h6, PySem.W.mg_none_of X G h7, PySem.W.mg_none_of X G h8, PySem.W.mg_none_of X G h9, PySem.W.mg_none_of X G h10, PySem.W.mg_of X G h11⟩
/-- a class of errors with its __init__ -/
structure ErrTxt (K : PySem.W.Frag) (x qual : Str) (st : Stmt) (C : Addr) : Prop where
  a : PySem.W.nsIn K mainGlobals x = some (some (.ref C))
  oex : OexC K C
  xf : XfC K C
  no : PySem.W.findIn K (.ref C) "given" = some none
  ini : ∃ (fI : Addr) (fd : FuncData), PySem.W.findIn K (.ref C) "__init__" = some (some (.ref fI)) ∧ PySem.W.typeIn K (.ref fI) = some (.type "function") ∧ Fun K "__init__" qual st fI fd ∧ Binds K fd ["self", "given"] []
theorem err_mk {x qual : Str} {st : Stmt} {C fI N : Addr} {nm q : Str} {bs bm : List Value} {sn : List Str} {sub : List Value} {ab : Bool} {col : Option Bool} {dd : Option Addr} {k0 k1 k2 k3 k5 : Option Value}
    {oc kV doc pm cdv ct : Value} {od an : Option Addr} {sl : Array (Option Value)}
    (a : PySem.W.nsIn K mainGlobals x = some (some (.ref C))) (c : K.lookup C = some (excClassObj nm q C N bs bm true sn sub ab col dd k0 k1 k2 k3 k5 "ValueError.__new__")) (r : PySem.HandSPX.refsVE bm = true)
    (sa : PySem.W.findIn K (.ref C) "__setattr__" = some (some (.builtin "object.__setattr__"))) (ga : PySem.W.findIn K (.ref C) "__getattribute__" = some (some (.builtin "BaseException.__getattribute__")))
    (gg : PySem.W.findIn K (.ref C) "__getattr__" = some none) (no : PySem.W.findIn K (.ref C) "given" = some none) (ex : PySem.W.subIn K (.ref C) (.type "BaseException") = some true) (ty : PySem.W.typeIn K (.ref C) = some (.type "type"))
    (kC : PySem.W.keepIn K (.ref C) = true) (hd : PySem.W.hasDictIn K C = true) (i : PySem.W.findIn K (.ref C) "__init__" = some (some (.ref fI))) (t : PySem.W.typeIn K (.ref fI) = some (.type "function"))
    (l : K.lookup fI = some ⟨oc, od, .func (PySem.W.fnOf "__init__" qual (defArgs st) (defBody st) (defScope st) .none kV doc pm an cdv ct), sl⟩) (hc : PySem.W.codeIn K cdv qual = true) (k : PySem.W.keepIn K (.ref fI) = true)
    (b : ∀ (kV doc pm : Value) (an : Option Addr) (cdv ct : Value) (us : List Value), us.length = (["self", "given"] : List Str).length → bindArgs (PySem.W.fnOf "__init__" qual (defArgs st) (defBody st) (defScope st) .none kV doc pm an cdv ct) ⟨us, []⟩ = pure ((["self", "given"] : List Str).zip us)) :
    ErrTxt K x qual st C :=
  ⟨a, ⟨⟨nm, q, N, bs, bm, sn, sub, ab, col, dd, k0, k1, k2, k3, k5, c, r⟩, sa, ex, ty, kC⟩, ⟨ga, gg, ex, hd⟩, no, fI, _, i, t, fun_mk l hc k, (fun_mk l hc k).binds b⟩
theorem ErrTxt.err {x qual : Str} {st : Stmt} {C : Addr} (E : ErrTxt K x qual st C) (X : K.In h) (G : h.Ns mainGlobals mg) : Err K mg x qual st C := ⟨PySem.W.mg_of X G E.a, E.oex, E.xf, E.no, E.ini⟩
theorem heard_mk {g CN CF : Addr} {q1 q2 : Str} {s1 s2 : Stmt} {oc kV doc pm cdv ct : Value} {od an : Option Addr} {sl : Array (Option Value)} (X : K.In h) (G : h.Ns mainGlobals mg) (eN : ErrTxt K "BadNumber" q1 s1 CN) (eF : ErrTxt K "BadFraction" q2 s2 CF)
    (a : PySem.W.nsIn K mainGlobals "_law_heard" = some (some (.ref g))) (l : K.lookup g = some ⟨oc, od, .func (PySem.W.fnOf "_law_heard" "_law_heard" (defArgs sHeard) (defBody sHeard) (defScope sHeard) .none kV doc pm an cdv ct), sl⟩)
    (c : PySem.W.codeIn K cdv "_law_heard" = true) (k : PySem.W.keepIn K (.ref g) = true) (nn : PySem.W.exmOne K (.ref CN) (.ref CN) = some true) (fn : PySem.W.exmOne K (.ref CF) (.ref CN) = some false) (ff : PySem.W.exmOne K (.ref CF) (.ref CF) = some true) : HeardK K mg g CN CF :=
  ⟨PySem.W.mg_of X G a, k, ⟨oc, od, kV, doc, pm, an, cdv, ct, sl, l, c⟩, PySem.W.mg_of X G eN.a, PySem.W.mg_of X G eF.a, eN.xf, eF.xf, eN.no, eF.no, nn, fn, ff⟩
end
/-- all of it -/
theorem all_mk {q : Program} {K : PySem.W.Frag} {h : Heap} {mg : Str → Option Value} {fa CF CN c1 c2 c3 P1 P2 P3 : Addr}
    {f1 : Addr} {oc1 kV1 dc1 pm1 ct1 o1 : Value} {od1 an1 dd1 : Option Addr} {sl1 sm1 : Array (Option Value)} {vs1 : Array Value} {e1 : DefRec}
    {f2 : Addr} {oc2 kV2 dc2 pm2 ct2 o2 : Value} {od2 an2 dd2 : Option Addr} {sl2 sm2 : Array (Option Value)} {vs2 : Array Value} {e2 : DefRec}
    {f3 : Addr} {oc3 kV3 dc3 pm3 ct3 o3 : Value} {od3 an3 dd3 : Option Addr} {sl3 sm3 : Array (Option Value)} {vs3 : Array Value} {e3 : DefRec}
    {g : Addr} {oc kV doc pm cdv ct : Value} {od an : Option Addr} {sl : Array (Option Value)}
    (X : K.In h) (G : h.Ns mainGlobals mg) (hfa : mg "law" = some (.ref fa))
    (red : DefN K mg "reduced" sReduced ["top", "bottom"])
    (add : DefN K mg "added" sAdded ["one", "other"])
    (les : DefN K mg "lessened" sLessened ["one", "other"])
    (tim : DefN K mg "timed" sTimed ["one", "other"])
    (div : DefN K mg "divided" sDivided ["one", "other"])
    (rai : DefN K mg "raised" sRaised ["one", "number"])
    (bel : DefN K mg "is_below" sBelow ["one", "other"])
    (who : DefN K mg "is_whole" sWhole ["thing"])
    (bet : DefN K mg "is_between" sBetween ["thing", "low", "high"])
    (fra : DefN K mg "is_fraction" sFraction ["thing"])
    (neF : DefN K mg "need_fraction" sNeedF ["thing"])
    (neB : DefN K mg "need_between" sNeedB ["thing", "low", "high"])
    (rat : DefN K mg "ratio" sRatio ["top", "bottom"])
    (plu : DefN K mg "plus" sPlus ["one", "other"])
    (lss : DefN K mg "less" sLess ["one", "other"])
    (tms : DefN K mg "times" sTimes ["one", "other"])
    (ovr : DefN K mg "over" sOver ["one", "other"])
    (isl : DefN K mg "is_less" sIsLess ["one", "other"])
    (pow : DefN K mg "power" sPower ["one", "number"])
    (mix : DefN K mg "_law_mixed" sMixed ["cell", "k"])
    (beg : DefN K mg "_law_begin" sBegin ["script"])
    (drw : DefN K mg "_law_draw" sDraw ["state", "many"])
    (off : DefN K mg "_law_of" sOf ["state", "some"])
    (lra : DefN K mg "_law_ratio" sLRatio ["top", "bottom"])
    (lpl : DefN K mg "_law_plus" sLPlus ["one", "other"])
    (lle : DefN K mg "_law_less" sLLess ["one", "other"])
    (lti : DefN K mg "_law_times" sLTimes ["one", "other"])
    (lov : DefN K mg "_law_over" sLOver ["one", "other"])
    (lun : DefN K mg "_law_under" sLUnder ["one", "other"])
    (lpo : DefN K mg "_law_power" sLPower ["one", "many"])
    (sma : DefN K mg "_law_small" sSmall ["state"])
    (ldi : DefN K mg "_law_divided" sLDivided ["one", "far"])
    (a1 : PySem.W.nsIn K mainGlobals "_law_good" = some (some (.ref f1))) (l1 : K.lookup f1 = some ⟨oc1, od1, .func (PySem.W.fnOf "_law_good" "_law_good" (defArgs sGood) (defBody sGood) (defScope sGood) .none kV1 dc1 pm1 an1 (.ref c1) ct1), sl1⟩) (hc1 : PySem.W.codeIn K (.ref c1) "_law_good" = true) (k1 : PySem.W.keepIn K (.ref f1) = true)
    (u1 : K.lookup c1 = some ⟨o1, dd1, .fields vs1, sm1⟩) (v1 : (vs1[11]? : Option Value) = some (.ref P1)) (p1 : K.lookup P1 = none) (w1 : PySem.W.codeHdIn K c1 P1 = true) (r1 : (recsOf q).find? (fun e => e.name == ("_law_good" : Str)) = some e1)
    (a2 : PySem.W.nsIn K mainGlobals "_law_refused_good" = some (some (.ref f2))) (l2 : K.lookup f2 = some ⟨oc2, od2, .func (PySem.W.fnOf "_law_refused_good" "_law_refused_good" (defArgs sRefused) (defBody sRefused) (defScope sRefused) .none kV2 dc2 pm2 an2 (.ref c2) ct2), sl2⟩) (hc2 : PySem.W.codeIn K (.ref c2) "_law_refused_good" = true) (k2 : PySem.W.keepIn K (.ref f2) = true)
    (u2 : K.lookup c2 = some ⟨o2, dd2, .fields vs2, sm2⟩) (v2 : (vs2[11]? : Option Value) = some (.ref P2)) (p2 : K.lookup P2 = none) (w2 : PySem.W.codeHdIn K c2 P2 = true) (r2 : (recsOf q).find? (fun e => e.name == ("_law_refused_good" : Str)) = some e2)
    (a3 : PySem.W.nsIn K mainGlobals "law" = some (some (.ref f3))) (l3 : K.lookup f3 = some ⟨oc3, od3, .func (PySem.W.fnOf "law" "law" (defArgs sLaw) (defBody sLaw) (defScope sLaw) .none kV3 dc3 pm3 an3 (.ref c3) ct3), sl3⟩) (hc3 : PySem.W.codeIn K (.ref c3) "law" = true) (k3 : PySem.W.keepIn K (.ref f3) = true)
    (u3 : K.lookup c3 = some ⟨o3, dd3, .fields vs3, sm3⟩) (v3 : (vs3[11]? : Option Value) = some (.ref P3)) (p3 : K.lookup P3 = none) (w3 : PySem.W.codeHdIn K c3 P3 = true) (r3 : (recsOf q).find? (fun e => e.name == ("law" : Str)) = some e3)
    (eF : ErrTxt K "BadFraction" "BadFraction.__init__" sInitF CF) (eN : ErrTxt K "BadNumber" "BadNumber.__init__" sInitN CN)
    (ha : PySem.W.nsIn K mainGlobals "_law_heard" = some (some (.ref g))) (hl : K.lookup g = some ⟨oc, od, .func (PySem.W.fnOf "_law_heard" "_law_heard" (defArgs sHeard) (defBody sHeard) (defScope sHeard) .none kV doc pm an cdv ct), sl⟩) (hc : PySem.W.codeIn K cdv "_law_heard" = true) (hk : PySem.W.keepIn K (.ref g) = true)
    (nn : PySem.W.exmOne K (.ref CN) (.ref CN) = some true) (fn : PySem.W.exmOne K (.ref CF) (.ref CN) = some false) (ff : PySem.W.exmOne K (.ref CF) (.ref CF) = some true) (z : Nou K mg) (t : Blt mg) (n12 : P1 ≠ P2) (n13 : P1 ≠ P3) (n23 : P2 ≠ P3) :
    ∃ (CF CN g c1 c2 c3 P1 P2 P3 : Addr) (e1 e2 e3 : DefRec), Top0 K mg CF CN g c1 c2 c3 ∧ mg "law" = some (.ref fa) ∧ P1 ≠ P2 ∧ P1 ≠ P3 ∧ P2 ≠ P3 ∧
        (recsOf q).find? (fun e => e.name == ("_law_good" : Str)) = some e1 ∧ (recsOf q).find? (fun e => e.name == ("_law_refused_good" : Str)) = some e2 ∧ (recsOf q).find? (fun e => e.name == ("law" : Str)) = some e3 ∧
        PySem.W.tabIn K "_law_good" = some (c1, P1) ∧ PySem.W.tabIn K "_law_refused_good" = some (c2, P2) ∧ PySem.W.tabIn K "law" = some (c3, P3) ∧
        (∀ r ∈ [(c1, P1), (c2, P2), (c3, P3)], List.lookup r.2 K = none ∧ PySem.W.codeHdIn K r.1 r.2 = true) := by
  refine ⟨CF, CN, g, c1, c2, c3, P1, P2, P3, e1, e2, e3, ⟨red, add, les, tim, div, rai, bel, who, bet, fra, neF, neB, rat, plu, lss, tms, ovr, isl, pow, mix, beg, drw, off, lra, lpl, lle, lti, lov, lun, lpo, sma, ldi, defC_mk X G a1 l1 hc1 k1 (fun _ _ _ _ _ _ us hl => match us, hl with | [_], _ => rfl), defC_mk X G a2 l2 hc2 k2 (fun _ _ _ _ _ _ us hl => match us, hl with | [], _ => rfl), defC_mk X G a3 l3 hc3 k3 (fun _ _ _ _ _ _ us hl => match us, hl with | [_], _ => rfl), eF.err X G, eN.err X G, heard_mk X G eN eF ha hl hc hk nn fn ff, z, t⟩, hfa, n12, n13, n23, r1, r2, r3, tab_mk a1 l1 u1 v1, tab_mk a2 l2 u2 v2, tab_mk a3 l3 u3 v3, ?_⟩
  intro r hr
  simp only [List.mem_cons, List.not_mem_nil, or_false] at hr
  rcases hr with rfl | rfl | rfl
  · exact ⟨p1, w1⟩
  · exact ⟨p2, w2⟩
  · exact ⟨p3, w3⟩
end Rs


set_option Elab.async false
set_option linter.all false
open PySem PySem.W PyProof.Rows
set_option maxRecDepth 100000 in
set_option maxHeartbeats 0 in
theorem PySem.Challenge.cw_rungshare_k00_whole_ratios_holds : PySem.Challenge.rw_rungshare_k00_whole_ratios.Holds := by
  w_on; o_law; k_head; (case hw => w_witness2)
  k_fill
  refine Rs.walkG (l := PySem.Challenge.rw_rungshare_k00_whole_ratios) rfl rfl (fun w h Y => PySem.W.km_in_of Y) ?F
  case F =>
    intro w mg fa h KX G hmg
    refine' Rs.all_mk KX G hmg ?red ?add ?les ?tim ?div ?rai ?bel ?who ?bet ?fra ?neF ?neB ?rat ?plu ?lss ?tms ?ovr ?isl ?pow ?mix ?beg ?drw ?off ?lra ?lpl ?lle ?lti ?lov ?lun ?lpo ?sma ?ldi ?a1 ?l1 ?hc1 ?k1 ?u1 ?v1 ?p1 ?w1 ?r1 ?a2 ?l2 ?hc2 ?k2 ?u2 ?v2 ?p2 ?w2 ?r2 ?a3 ?l3 ?hc3 ?k3 ?u3 ?v3 ?p3 ?w3 ?r3 ?eF ?eN ?gha ?ghl ?ghc ?ghk ?gnn ?gfn ?gff ?gz ?gt ?n12 ?n13 ?n23
    (case red => refine' Rs.defN_mk KX G ?a ?l ?c ?k (fun _ _ _ _ _ _ us hl => match us, hl with | [_, _], _ => rfl); (case a => k_is); (case l => k_is); (case c => k_is); (case k => k_is))
    (case add => refine' Rs.defN_mk KX G ?a ?l ?c ?k (fun _ _ _ _ _ _ us hl => match us, hl with | [_, _], _ => rfl); (case a => k_is); (case l => k_is); (case c => k_is); (case k => k_is))
    (case les => refine' Rs.defN_mk KX G ?a ?l ?c ?k (fun _ _ _ _ _ _ us hl => match us, hl with | [_, _], _ => rfl); (case a => k_is); (case l => k_is); (case c => k_is); (case k => k_is))
    (case tim => refine' Rs.defN_mk KX G ?a ?l ?c ?k (fun _ _ _ _ _ _ us hl => match us, hl with | [_, _], _ => rfl); (case a => k_is); (case l => k_is); (case c => k_is); (case k => k_is))
    (case div => refine' Rs.defN_mk KX G ?a ?l ?c ?k (fun _ _ _ _ _ _ us hl => match us, hl with | [_, _], _ => rfl); (case a => k_is); (case l => k_is); (case c => k_is); (case k => k_is))
    (case rai => refine' Rs.defN_mk KX G ?a ?l ?c ?k (fun _ _ _ _ _ _ us hl => match us, hl with | [_, _], _ => rfl); (case a => k_is); (case l => k_is); (case c => k_is); (case k => k_is))
    (case bel => refine' Rs.defN_mk KX G ?a ?l ?c ?k (fun _ _ _ _ _ _ us hl => match us, hl with | [_, _], _ => rfl); (case a => k_is); (case l => k_is); (case c => k_is); (case k => k_is))
    (case who => refine' Rs.defN_mk KX G ?a ?l ?c ?k (fun _ _ _ _ _ _ us hl => match us, hl with | [_], _ => rfl); (case a => k_is); (case l => k_is); (case c => k_is); (case k => k_is))
    (case bet => refine' Rs.defN_mk KX G ?a ?l ?c ?k (fun _ _ _ _ _ _ us hl => match us, hl with | [_, _, _], _ => rfl); (case a => k_is); (case l => k_is); (case c => k_is); (case k => k_is))
    (case fra => refine' Rs.defN_mk KX G ?a ?l ?c ?k (fun _ _ _ _ _ _ us hl => match us, hl with | [_], _ => rfl); (case a => k_is); (case l => k_is); (case c => k_is); (case k => k_is))
    (case neF => refine' Rs.defN_mk KX G ?a ?l ?c ?k (fun _ _ _ _ _ _ us hl => match us, hl with | [_], _ => rfl); (case a => k_is); (case l => k_is); (case c => k_is); (case k => k_is))
    (case neB => refine' Rs.defN_mk KX G ?a ?l ?c ?k (fun _ _ _ _ _ _ us hl => match us, hl with | [_, _, _], _ => rfl); (case a => k_is); (case l => k_is); (case c => k_is); (case k => k_is))
    (case rat => refine' Rs.defN_mk KX G ?a ?l ?c ?k (fun _ _ _ _ _ _ us hl => match us, hl with | [_, _], _ => rfl); (case a => k_is); (case l => k_is); (case c => k_is); (case k => k_is))
    (case plu => refine' Rs.defN_mk KX G ?a ?l ?c ?k (fun _ _ _ _ _ _ us hl => match us, hl with | [_, _], _ => rfl); (case a => k_is); (case l => k_is); (case c => k_is); (case k => k_is))
    (case lss => refine' Rs.defN_mk KX G ?a ?l ?c ?k (fun _ _ _ _ _ _ us hl => match us, hl with | [_, _], _ => rfl); (case a => k_is); (case l => k_is); (case c => k_is); (case k => k_is))
    (case tms => refine' Rs.defN_mk KX G ?a ?l ?c ?k (fun _ _ _ _ _ _ us hl => match us, hl with | [_, _], _ => rfl); (case a => k_is); (case l => k_is); (case c => k_is); (case k => k_is))
    (case ovr => refine' Rs.defN_mk KX G ?a ?l ?c ?k (fun _ _ _ _ _ _ us hl => match us, hl with | [_, _], _ => rfl); (case a => k_is); (case l => k_is); (case c => k_is); (case k => k_is))
    (case isl => refine' Rs.defN_mk KX G ?a ?l ?c ?k (fun _ _ _ _ _ _ us hl => match us, hl with | [_, _], _ => rfl); (case a => k_is); (case l => k_is); (case c => k_is); (case k => k_is))
    (case pow => refine' Rs.defN_mk KX G ?a ?l ?c ?k (fun _ _ _ _ _ _ us hl => match us, hl with | [_, _], _ => rfl); (case a => k_is); (case l => k_is); (case c => k_is); (case k => k_is))
    (case mix => refine' Rs.defN_mk KX G ?a ?l ?c ?k (fun _ _ _ _ _ _ us hl => match us, hl with | [_, _], _ => rfl); (case a => k_is); (case l => k_is); (case c => k_is); (case k => k_is))
    (case beg => refine' Rs.defN_mk KX G ?a ?l ?c ?k (fun _ _ _ _ _ _ us hl => match us, hl with | [_], _ => rfl); (case a => k_is); (case l => k_is); (case c => k_is); (case k => k_is))
    (case drw => refine' Rs.defN_mk KX G ?a ?l ?c ?k (fun _ _ _ _ _ _ us hl => match us, hl with | [_, _], _ => rfl); (case a => k_is); (case l => k_is); (case c => k_is); (case k => k_is))
    (case off => refine' Rs.defN_mk KX G ?a ?l ?c ?k (fun _ _ _ _ _ _ us hl => match us, hl with | [_, _], _ => rfl); (case a => k_is); (case l => k_is); (case c => k_is); (case k => k_is))
    (case lra => refine' Rs.defN_mk KX G ?a ?l ?c ?k (fun _ _ _ _ _ _ us hl => match us, hl with | [_, _], _ => rfl); (case a => k_is); (case l => k_is); (case c => k_is); (case k => k_is))
    (case lpl => refine' Rs.defN_mk KX G ?a ?l ?c ?k (fun _ _ _ _ _ _ us hl => match us, hl with | [_, _], _ => rfl); (case a => k_is); (case l => k_is); (case c => k_is); (case k => k_is))
    (case lle => refine' Rs.defN_mk KX G ?a ?l ?c ?k (fun _ _ _ _ _ _ us hl => match us, hl with | [_, _], _ => rfl); (case a => k_is); (case l => k_is); (case c => k_is); (case k => k_is))
    (case lti => refine' Rs.defN_mk KX G ?a ?l ?c ?k (fun _ _ _ _ _ _ us hl => match us, hl with | [_, _], _ => rfl); (case a => k_is); (case l => k_is); (case c => k_is); (case k => k_is))
    (case lov => refine' Rs.defN_mk KX G ?a ?l ?c ?k (fun _ _ _ _ _ _ us hl => match us, hl with | [_, _], _ => rfl); (case a => k_is); (case l => k_is); (case c => k_is); (case k => k_is))
    (case lun => refine' Rs.defN_mk KX G ?a ?l ?c ?k (fun _ _ _ _ _ _ us hl => match us, hl with | [_, _], _ => rfl); (case a => k_is); (case l => k_is); (case c => k_is); (case k => k_is))
    (case lpo => refine' Rs.defN_mk KX G ?a ?l ?c ?k (fun _ _ _ _ _ _ us hl => match us, hl with | [_, _], _ => rfl); (case a => k_is); (case l => k_is); (case c => k_is); (case k => k_is))
    (case sma => refine' Rs.defN_mk KX G ?a ?l ?c ?k (fun _ _ _ _ _ _ us hl => match us, hl with | [_], _ => rfl); (case a => k_is); (case l => k_is); (case c => k_is); (case k => k_is))
    (case ldi => refine' Rs.defN_mk KX G ?a ?l ?c ?k (fun _ _ _ _ _ _ us hl => match us, hl with | [_, _], _ => rfl); (case a => k_is); (case l => k_is); (case c => k_is); (case k => k_is))
    (case a1 => k_is); (case l1 => k_is); (case hc1 => k_is); (case k1 => k_is); (case u1 => k_is); (case v1 => rfl); (case p1 => kernel_rfl); (case w1 => kernel_rfl); (case r1 => rfl)
    (case a2 => k_is); (case l2 => k_is); (case hc2 => k_is); (case k2 => k_is); (case u2 => k_is); (case v2 => rfl); (case p2 => kernel_rfl); (case w2 => kernel_rfl); (case r2 => rfl)
    (case a3 => k_is); (case l3 => k_is); (case hc3 => k_is); (case k3 => k_is); (case u3 => k_is); (case v3 => rfl); (case p3 => kernel_rfl); (case w3 => kernel_rfl); (case r3 => rfl)
    (case eF => refine' Rs.err_mk ?aeF ?ceF ?reF ?saeF ?gaeF ?ggeF ?noeF ?exeF ?tyeF ?kCeF ?hdeF ?ieF ?teF ?leF ?hceF ?keF (fun _ _ _ _ _ _ us hl => match us, hl with | [_, _], _ => rfl); (case aeF => k_is); (case ceF => k_is); (case reF => decide +kernel); (case saeF => k_is); (case gaeF => k_is); (case ggeF => k_is); (case noeF => k_is); (case exeF => k_is); (case tyeF => k_is); (case kCeF => k_is); (case hdeF => k_is); (case ieF => k_is); (case teF => k_is); (case leF => k_is); (case hceF => k_is); (case keF => k_is))
    (case eN => refine' Rs.err_mk ?aeN ?ceN ?reN ?saeN ?gaeN ?ggeN ?noeN ?exeN ?tyeN ?kCeN ?hdeN ?ieN ?teN ?leN ?hceN ?keN (fun _ _ _ _ _ _ us hl => match us, hl with | [_, _], _ => rfl); (case aeN => k_is); (case ceN => k_is); (case reN => decide +kernel); (case saeN => k_is); (case gaeN => k_is); (case ggeN => k_is); (case noeN => k_is); (case exeN => k_is); (case tyeN => k_is); (case kCeN => k_is); (case hdeN => k_is); (case ieN => k_is); (case teN => k_is); (case leN => k_is); (case hceN => k_is); (case keN => k_is))
    (case gha => k_is); (case ghl => k_is); (case ghc => k_is); (case ghk => k_is); (case gnn => first | k_is | kernel_rfl); (case gfn => first | k_is | kernel_rfl); (case gff => first | k_is | kernel_rfl)
    (case gz => refine' Rs.nou_mk KX G ?a ?l; (case a => k_is); (case l => k_is))
    (case gt => refine' Rs.blt_mk KX G ?h1 ?h2 ?h3 ?h4 ?h5 ?h6 ?h7 ?h8 ?h9 ?h10 ?h11; (case h1 => k_is); (case h2 => k_is); (case h3 => k_is); (case h4 => k_is); (case h5 => k_is); (case h6 => k_is); (case h7 => k_is); (case h8 => k_is); (case h9 => k_is); (case h10 => k_is); (case h11 => k_is))
    (case n12 => decide); (case n13 => decide); (case n23 => decide)


