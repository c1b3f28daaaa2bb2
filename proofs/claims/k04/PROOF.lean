import PyProof.Rows.All
import Wide.All
import OpenK.AllK
import Wide.FinOn
import HandS.ForMost
import HandS.ForExc
import HandS.Gcd
import HandS.Wide
import HandS.IsInst
import HandS.ExcInit
import HandS.Lambda
import HandS.OwnEq
import PySem.Challenge.RW_rungshare_k04_whole_row_papers
import HandS.ExcField
import HandS.Codes
import HandS.TryMany
import HandS.TupAny
import KE.GoesMore
import HandS.Iter
import HandS.Rev
import HandS.Style
import HandS.Walk
import HandS.Zip
import HandS.Deep
import HandS.Defaults
import HandS.TupMul
import HandS.WordsExc
import HandS.RaiseMore
import KE.DataCmp
import HandS.EndTab
import HandS.NestedK
set_option Elab.async false
set_option linter.all false
set_option maxRecDepth 100000
set_option maxHeartbeats 2000000
/-! small things that every law wants -/
namespace Bs
open PySem PySem.Spec PyProof.Rows L2
theorem same_new {H : Hp} {p : Addr} {o : HO} (h : H p = none) : Same H (upd H p o) := fun b u e => (upd_ne (ne_of_none e h)).trans e
theorem Same.t {K : PySem.W.Frag} {H H' : Hp} {a : Addr} {xs : List V} (e : Same H H') (h : SqT K H a xs) : SqT K H' a xs := by
  rcases h with (h | ⟨o, h⟩) | h
  · exact .inl (.inl (e _ _ h))
  · exact .inl (.inr ⟨o, e _ _ h⟩)
  · exact .inr h
section
variable {X : Cx}
/-- x *= e, both ints, together below a million bits -/
def ipM : TIp := fun x y H Q => ∃ i j, x = .int i ∧ y = .int j ∧ CMulW i j ∧ Q (.int (i * j)) H
theorem ip_mul : PIp X .Mult ipM := by
  rintro pins s σ H x y v u Q I r1 r2 ⟨i, j, rfl, rfl, c, q⟩
  obtain ⟨t, rfl⟩ := r1
  obtain ⟨t', rfl⟩ := r2
  exact imul_int ⟨.int _, H, I.tok _, ⟨_, rfl⟩, q⟩ c.ok
/-- repr of data in lists and tuples -/
def rRepr (K : PySem.W.Frag) : List V → Hp → VK → Prop := fun xs H Q => ∃ (a : Addr) (d : PyData), xs = [.ref a] ∧ Dp K H (.ref a) d ∧ d.showable = true ∧ d.hasDict = false ∧ d.depth ≤ 60 ∧ d.shown.length ≤ sizeLine ∧ Q (.str d.shown) H
theorem call_repr (hg : X.A.guards = some []) (hu : X.A.units + 64 < cLine) : CallR X (.builtin "repr") (rRepr X.K) := by
  rintro pins s σ H xs us Q I r ⟨a, d, rfl, hd, h1, h2, h3, h4, q⟩
  obtain ⟨u, rfl, ru⟩ := vals1 r
  obtain ⟨as, rd⟩ := Dp.reads I d (.ref a) u hd ru
  obtain rfl : u = Value.ref a := ru
  refine repr_of_reads' rd h1 (PyData.noDict_hsm h2) hg (by omega) (fun _ _ e => e) (fun h' u tk hk => ?_) h4
  exact ⟨.str d.shown, H, I.kept (h' := h') hk, ⟨u, rfl⟩, q⟩
end
/-! ### defs that may raise, and defs that ask for no guards -/
structure CalX (P : Program) (w : World) (K : PySem.W.Frag) (mg : Str → Option Value) (base : Heap) (k : Nat) (x : Str) (sp : Sp) : Prop where
  ex : ∃ (f : Addr) (fd : FuncData) (ps : List Str), FnOk P w K mg base (L2.CX P w) k f fd ps sp ∧ mg x = some (.ref f) ∧ PySem.W.keepIn K (.ref f) = true ∧ Binds K fd ps []
structure Cal (P : Program) (w : World) (K : PySem.W.Frag) (mg : Str → Option Value) (base : Heap) (k : Nat) (x : Str) (sp : Sp) : Prop where
  ex : ∃ (f : Addr) (fd : FuncData) (ps : List Str), FnOk P w K mg base CX0 k f fd ps sp ∧ mg x = some (.ref f) ∧ PySem.W.keepIn K (.ref f) = true ∧ Binds K fd ps []
/-- a promise that is kept where no guard stands around -/
structure FnG (P : Program) (w : World) (K : PySem.W.Frag) (mg : Str → Option Value) (base : Heap) (k : Nat) (f : Addr) (fd : FuncData) (ps : List Str) (sp : Sp) : Prop where
  len : ∀ vs H Q E, sp vs H Q E → vs.length = ps.length
  run : ∀ (A : Around) (outer : List Env) (s : Shared) (H : Hp) (args : Args) (us : List Value) (vs : List V) (Q : VK) (E : XK), A.guards = some [] → Room k A → Env0 P w K mg base A outer s H →
    BindsTo s fd args (ps.zip us) → Vals vs us → sp vs H Q E → codeAny (model P w) A (.call (.ref f) args) (CR CX0 outer P w H s Q E) s
structure CalG (P : Program) (w : World) (K : PySem.W.Frag) (mg : Str → Option Value) (base : Heap) (k : Nat) (x : Str) (sp : Sp) : Prop where
  ex : ∃ (f : Addr) (fd : FuncData) (ps : List Str), FnG P w K mg base k f fd ps sp ∧ mg x = some (.ref f) ∧ PySem.W.keepIn K (.ref f) = true ∧ Binds K fd ps []
section
variable {P : Program} {w : World} {K : PySem.W.Frag} {mg : Str → Option Value} {base : Heap} {k : Nat} {f : Addr} {fd : FuncData} {sp : Sp} {x qual : Str} {st : Stmt} {N ps : List Str}
theorem FnG.ok (F : Fun K x qual st f fd) (S : FnScope N ps (defScope st)) (len : ∀ vs H Q E, sp vs H Q E → vs.length = ps.length)
    (hbody : ∀ (cdv : Value) (A : Around) (outer : List Env) (s : Shared) (H : Hp) (vs : List V) (Q : VK) (E : XK), A.guards = some [] → Room k (A.deeper (envOfC qual (defScope st) s.heap.objs.size f cdv)) → sp vs H Q E →
      ∃ t, PSs (cxOf CX0 P w K mg base N qual (defScope st) f cdv A outer s H E).nox (defBody st) t ∧ t { nx := fun _ H' => Q .non H', rt := Q } (start N vs) H) : FnG P w K mg base (k + 1) f fd ps sp := by
  obtain ⟨oc, od, kV, doc, pm, an, cdv, ct, osl, rfl, lk, hcd⟩ := F.ex
  refine ⟨len, fun A outer s H args us vs Q E hg hr e0 hb r h => ?_⟩
  refine LamX.run_ofS lk hcd S hr e0 hb r (len _ _ _ _ h) (fun hr' => ?_)
  obtain ⟨t, a, b⟩ := hbody cdv A outer s H vs Q E hg hr' h
  exact ⟨t, a.nox, b⟩
end
section
variable {X : Cx} {k j : Nat} {x : Str} {sp : Sp} {p pos : Pos} {e : Expr} {es : List Expr} {t : TA} {E : XK}
theorem pe_x (c : CalX X.prog X.w X.K X.mg X.base k x sp) (hr : Room j X.A) (hk : k ≤ j) (hg : Gl X x) (hx : Passes (L2.CX X.prog X.w) X E) (ha : PA X (e :: es) t)
    (hdb : (x == ("__debug__" : Str)) = false := by decide) (he : starEach (e :: es) X.env = (false, eval e X.env) :: starEach es X.env := by rfl) (hpl : (backTo pos (starEach es X.env)).any (·.1) = false := by rfl) :
    PE X (.Call (.Name x p) (e :: es) [] pos) (tCall sp [] E t) := by
  obtain ⟨f, fd, ps, F, hm, kp, b⟩ := c.ex
  exact pe_call F (hr.mono hk) hg hm kp b .nil hx ha hdb he hpl
theorem pe_n (c : Cal X.prog X.w X.K X.mg X.base k x sp) (hr : Room j X.A) (hk : k ≤ j) (hg : Gl X x) (ha : PA X (e :: es) t)
    (hdb : (x == ("__debug__" : Str)) = false := by decide) (he : starEach (e :: es) X.env = (false, eval e X.env) :: starEach es X.env := by rfl) (hpl : (backTo pos (starEach es X.env)).any (·.1) = false := by rfl) :
    PE X (.Call (.Name x p) (e :: es) [] pos) (tCall sp [] E0 t) := by
  obtain ⟨f, fd, ps, F, hm, kp, b⟩ := c.ex
  exact pe_call F (hr.mono hk) hg hm kp b .nil pass0 ha hdb he hpl
theorem run_g {pins : List (Addr × Obj)} {σ : L2.St} {H : Hp} {s : Shared} {Q : VK} {f : Addr} {fd : FuncData} {ps : List Str} {us : List Value} {vs : List V} (F : FnG X.prog X.w X.K X.mg X.base k f fd ps sp) (hg : X.A.guards = some []) (hr : Room k X.A)
    (hb : Binds X.K fd ps []) (I : L2.Inv X pins σ H s) (r : Vals vs us) (h : sp vs H Q E) : wpAny (model X.prog X.w) X.A (call (.ref f) us) (EP X pins σ Q) X.xe s := by
  have hl : (us ++ []).length = ps.length := by rw [List.append_nil, ← r.length]; exact F.len _ _ _ _ h
  have b0 := hb s us I.kIn hl
  rw [List.append_nil] at b0
  refine wpAny_call (codeAny_mono (F.run X.A X.stack s H ⟨us, []⟩ us vs Q E hg hr I.env0 b0 r h) (fun r s' hq => ?_))
  rcases r with e | fl
  · exact (show False from hq).elim
  · cases fl with
    | ret u => exact I.after hq
    | next => exact hq.elim
    | brk => exact hq.elim
    | cont => exact hq.elim
theorem pe_g (c : CalG X.prog X.w X.K X.mg X.base k x sp) (hgd : X.A.guards = some []) (hr : Room j X.A) (hk : k ≤ j) (hg : Gl X x) (ha : PA X (e :: es) t)
    (hdb : (x == ("__debug__" : Str)) = false := by decide) (he : starEach (e :: es) X.env = (false, eval e X.env) :: starEach es X.env := by rfl) (hpl : (backTo pos (starEach es X.env)).any (·.1) = false := by rfl) :
    PE X (.Call (.Name x p) (e :: es) [] pos) (tCall sp [] E0 t) := by
  obtain ⟨f, fd, ps, F, hm, kp, b⟩ := c.ex
  constructor
  intro pins s σ H Q I h
  refine wpAny_Call_Name_kw (ld_glob I hg hm ?_ hdb)
  refine PySem.W.callWith_K (h₀ := X.base) I.ok.mod.kin kp (thn (ha.run pos pins s σ H _ I h) (fun us s1 ⟨vs, H1, I1, r, q⟩ => ⟨I1.kIn, ?_⟩)) he hpl
  have q' : sp (vs ++ []) H1 Q E0 := q
  rw [List.append_nil] at q'
  exact run_g F hgd (hr.mono hk) b I1 r q'
theorem pe_g0 (c : CalG X.prog X.w X.K X.mg X.base k x sp) (hgd : X.A.guards = some []) (hr : Room j X.A) (hk : k ≤ j) (hg : Gl X x) (hdb : (x == ("__debug__" : Str)) = false := by decide) :
    PE X (.Call (.Name x p) [] [] pos) (tCall sp [] E0 tNil) := by
  obtain ⟨f, fd, ps, F, hm, kp, b⟩ := c.ex
  constructor
  intro pins s σ H Q I h
  refine wpAny_Call_Name_kw (ld_glob I hg hm ?_ hdb)
  exact PySem.W.callWith_K0 I.kIn kp (run_g (us := []) F hgd (hr.mono hk) b I .nil h)
end
end Bs


/-! fractions as pairs of integers: the mathematics alone -/
namespace Fq
abbrev F := Int × Int
def gI (a b : Int) : Int := ((Nat.gcd a.natAbs b.natAbs : Nat) : Int)
/-- least terms, the bottom above nought -/
def red (a b : Int) : F := (a / gI a b, b / gI a b)
/-- least terms, the bottom not nought -/
def redP (a b : Int) : F := if b < 0 then red (-a) (-b) else red a b
theorem gI_neg (a b : Int) : gI (-a) (-b) = gI a b := by simp [gI]
theorem gI_pos {a b : Int} (h : b ≠ 0) : 0 < gI a b := by
  have : 0 < Nat.gcd a.natAbs b.natAbs := Nat.gcd_pos_of_pos_right _ (by omega)
  unfold gI; omega
theorem gI_le {a b : Int} (h : b ≠ 0) : (gI a b).natAbs ≤ b.natAbs := by
  have : Nat.gcd a.natAbs b.natAbs ≤ b.natAbs := Nat.gcd_le_right _ (by omega)
  unfold gI; omega
theorem redP_pos {a b : Int} (h : 0 < b) : redP a b = red a b := if_neg (by omega)
theorem redP_neg {a b : Int} (h : b < 0) : redP a b = red (-a) (-b) := if_pos h
/-- what the program reckons: by the divisor with b's sign -/
theorem redP_eq {a b g : Int} (hb : b ≠ 0) (hg : g = if b < 0 then -gI a b else gI a b) : (a.fdiv g, b.fdiv g) = redP a b := by
  have hp := gI_pos (a := a) hb
  by_cases c : b < 0
  · rw [if_pos c] at hg
    subst hg
    rw [redP_neg c, red, gI_neg]
    have e : ∀ x : Int, x.fdiv (-gI a b) = (-x) / gI a b := fun x => by
      have := Int.neg_fdiv_neg (-x) (gI a b)
      rw [Int.neg_neg] at this
      rw [this, Int.fdiv_eq_ediv_of_nonneg _ (by omega)]
    rw [e, e]
  · rw [if_neg c] at hg
    subst hg
    rw [redP, if_neg c, red, Int.fdiv_eq_ediv_of_nonneg _ (by omega), Int.fdiv_eq_ediv_of_nonneg _ (by omega)]
/-- a fraction in least terms -/
def Ok (q : F) : Prop := 0 < q.2 ∧ Nat.gcd q.1.natAbs q.2.natAbs = 1
theorem gI_dvd_l (a b : Int) : gI a b ∣ a := by
  unfold gI
  exact Int.ofNat_dvd_left.mpr (Nat.gcd_dvd_left _ _)
theorem gI_dvd_r (a b : Int) : gI a b ∣ b := by
  unfold gI
  exact Int.ofNat_dvd_left.mpr (Nat.gcd_dvd_right _ _)
theorem red_ok {a b : Int} (h : 0 < b) : Ok (red a b) := by
  have hg := gI_pos (a := a) (b := b) (by omega)
  obtain ⟨x, hx⟩ := gI_dvd_l a b
  obtain ⟨y, hy⟩ := gI_dvd_r a b
  have e1 : a / gI a b = x := Int.ediv_eq_of_eq_mul_right (by omega) hx
  have e2 : b / gI a b = y := Int.ediv_eq_of_eq_mul_right (by omega) hy
  refine ⟨?_, ?_⟩
  · show 0 < b / gI a b
    rw [e2]
    apply Int.pos_of_mul_pos_right (a := gI a b) (b := y) ?_ hg |> id
    rw [← hy]; exact h
  · show Nat.gcd (a / gI a b).natAbs (b / gI a b).natAbs = 1
    rw [e1, e2]
    have q1 : a.natAbs = (gI a b).natAbs * x.natAbs := by
      have := congrArg Int.natAbs hx
      rwa [Int.natAbs_mul] at this
    have q2 : b.natAbs = (gI a b).natAbs * y.natAbs := by
      have := congrArg Int.natAbs hy
      rwa [Int.natAbs_mul] at this
    have q3 : (gI a b).natAbs = Nat.gcd a.natAbs b.natAbs := by unfold gI; omega
    have q4 : Nat.gcd a.natAbs b.natAbs = (gI a b).natAbs * Nat.gcd x.natAbs y.natAbs := by
      rw [q1, q2, Nat.gcd_mul_left]
    have hp : 0 < (gI a b).natAbs := by omega
    have : (gI a b).natAbs * 1 = (gI a b).natAbs * Nat.gcd x.natAbs y.natAbs := by rw [← q4, q3]; omega
    exact (Nat.eq_of_mul_eq_mul_left hp this).symm
theorem red_of {q : F} (h : Ok q) : red q.1 q.2 = q := by
  have : gI q.1 q.2 = 1 := by unfold gI; rw [h.2]; rfl
  unfold red
  rw [this, Int.ediv_one, Int.ediv_one]
/-- sums, differences, products, quotients -/
def add (q r : F) : F := red (q.1 * r.2 + r.1 * q.2) (q.2 * r.2)
def sub (q r : F) : F := red (q.1 * r.2 - r.1 * q.2) (q.2 * r.2)
def mul (q r : F) : F := red (q.1 * r.1) (q.2 * r.2)
def div (q r : F) : F := redP (q.1 * r.2) (q.2 * r.1)
def lt (q r : F) : Bool := decide (q.1 * r.2 < r.1 * q.2)
def pw (q : F) (n : Nat) : F := (q.1 ^ n, q.2 ^ n)
theorem pw_ok {q : F} (h : Ok q) (n : Nat) : Ok (pw q n) := by
  refine ⟨Int.pow_pos h.1, ?_⟩
  show Nat.gcd (q.1 ^ n).natAbs (q.2 ^ n).natAbs = 1
  rw [Int.natAbs_pow, Int.natAbs_pow]
  exact Nat.Coprime.pow n n h.2
theorem pw_succ (q : F) (n : Nat) (h : Ok q) : mul (pw q n) q = pw q (n + 1) := by
  have := red_of (pw_ok h (n + 1))
  show red (q.1 ^ n * q.1) (q.2 ^ n * q.2) = _
  rw [← Int.pow_succ, ← Int.pow_succ]
  exact this
end Fq


set_option Elab.async false
set_option linter.all false
set_option maxRecDepth 100000
set_option maxHeartbeats 2000000
namespace Rs
open PySem L2 Bs Fq
def top (i : Nat) : Stmt := PySem.Challenge.pw_rungshare_k04_whole_row_papers.main.body.getD i (.Pass ⟨0, 0, 0, 0⟩)
abbrev fr (q : F) : HO := .tup [.int q.1, .int q.2]
/-- a value that is a fraction's tuple -/
def Fr (K : PySem.W.Frag) (H : Hp) (v : V) (q : F) : Prop := ∃ a, v = .ref a ∧ SqT K H a [.int q.1, .int q.2]
theorem Fr.of {K : PySem.W.Frag} {H : Hp} {p : Addr} {q : F} (h : H p = some (fr q)) : Fr K H (.ref p) q := ⟨p, rfl, SqT.of h⟩
theorem Fr.mono {K : PySem.W.Frag} {H H' : Hp} {v : V} {q : F} (h : Fr K H v q) (e : Same H H') : Fr K H' v q := by
  obtain ⟨a, rfl, s⟩ := h
  exact ⟨a, rfl, Same.t e s⟩
def Lt2 (n : Nat) (x : Int) : Prop := x.natAbs < 2 ^ n
theorem Lt2.mono {m n : Nat} {x : Int} (h : Lt2 m x) (k : m ≤ n) : Lt2 n x := Nat.lt_of_lt_of_le h (Nat.pow_le_pow_right (by decide) k)
theorem Lt2.c {m n : Nat} {x y : Int} (h : Lt2 m x) (k : Lt2 n y) (h0 : 0 < m := by decide) (h1 : 0 < n := by decide) (h2 : m + n ≤ 1000000 := by decide) : CMulW x y := wide_mul h k h0 h1 h2
/-- what the program reckons with -/
structure Dm (q : F) : Prop where
  big : Lt2 4400 q.1
  pos : 0 < q.2
  low : Lt2 4400 q.2
theorem Dm.l2 {q : F} (h : Dm q) : Lt2 4400 q.2 := h.low
theorem lt2m {a b : Int} (h : Lt2 4400 a) (g : Lt2 4400 b) : Lt2 8800 (a * b) := by
  show (a * b).natAbs < 2 ^ (4400 + 4400)
  rw [Int.natAbs_mul, Nat.pow_add]
  exact Nat.mul_lt_mul'' h g
structure DefN (K : PySem.W.Frag) (mg : Str → Option Value) (x : Str) (st : Stmt) (ps : List Str) : Prop where
  ex : ∃ (f : Addr) (fd : FuncData), Fun K x x st f fd ∧ mg x = some (.ref f) ∧ Binds K fd ps []
/-- the built-ins keep their names -/
structure Blt (mg : Str → Option Value) : Prop where
  isinstance : mg "isinstance" = none
  len : mg "len" = none
  int : mg "int" = none
  bool : mg "bool" = none
  tuple : mg "tuple" = none
  range : mg "range" = none
  list : mg "list" = none
  abs : mg "abs" = none
  min : mg "min" = none
  repr : mg "repr" = none
  gcd : mg "gcd" = some (.builtin "math.gcd")
section
variable {P : Program} {w : World} {K : PySem.W.Frag} {mg : Str → Option Value} {base : Heap} {k : Nat} {x : Str} {st : Stmt} {ps : List Str} {sp : Sp}
theorem DefN.cal (D : DefN K mg x st ps) (h : ∀ f fd, Fun K x x st f fd → FnOk P w K mg base CX0 k f fd ps sp) : Cal P w K mg base k x sp := by
  obtain ⟨f, fd, F, m, b⟩ := D.ex
  exact ⟨f, fd, ps, h f fd F, m, F.kp, b⟩
theorem DefN.calX (D : DefN K mg x st ps) (h : ∀ f fd, Fun K x x st f fd → FnOk P w K mg base (L2.CX P w) k f fd ps sp) : CalX P w K mg base k x sp := by
  obtain ⟨f, fd, F, m, b⟩ := D.ex
  exact ⟨f, fd, ps, h f fd F, m, F.kp, b⟩
theorem DefN.calG (D : DefN K mg x st ps) (h : ∀ f fd, Fun K x x st f fd → FnG P w K mg base k f fd ps sp) : CalG P w K mg base k x sp := by
  obtain ⟨f, fd, F, m, b⟩ := D.ex
  exact ⟨f, fd, ps, h f fd F, m, F.kp, b⟩
end
/-! ### bare -/
abbrev sReduced : Stmt := top 4
abbrev sAdded : Stmt := top 5
abbrev sLessened : Stmt := top 6
abbrev sTimed : Stmt := top 7
/-- reduced(top, bottom) -/
def spReduced : Sp := fun vs H Q _ => ∃ (a b : Int), vs = [.int a, .int b] ∧ 0 < b ∧ Lt2 8800 b ∧ ∀ p, H p = none → Q (.ref p) (upd H p (fr (red a b)))
/-- two fractions in, one out -/
def spOp (K : PySem.W.Frag) (op : F → F → F) (dom : F → F → Prop) : Sp := fun vs H Q _ => ∃ (x y : V) (q r : F), vs = [x, y] ∧ Fr K H x q ∧ Fr K H y r ∧ dom q r ∧ ∀ p, H p = none → Q (.ref p) (upd H p (fr (op q r)))
def dom2 (q r : F) : Prop := Dm q ∧ Dm r
def domD (q r : F) : Prop := Dm q ∧ Dm r ∧ r.1 ≠ 0 ∧ r.1.natAbs < 32768
def spLt (K : PySem.W.Frag) : Sp := fun vs H Q _ => ∃ (x y : V) (q r : F), vs = [x, y] ∧ Fr K H x q ∧ Fr K H y r ∧ dom2 q r ∧ Q (.bl (lt q r)) H
def spRaised (K : PySem.W.Frag) : Sp := fun vs H Q _ => ∃ (x : V) (q : F) (n : Int), vs = [x, .int n] ∧ Fr K H x q ∧ Lt2 6 q.1 ∧ Lt2 6 q.2 ∧ 0 ≤ n ∧ n ≤ 20 ∧ ∀ p, H p = none → Q (.ref p) (upd H p (fr (pw q n.toNat)))
section
variable {P : Program} {w : World} {K : PySem.W.Frag} {mg : Str → Option Value} {base : Heap} {f : Addr} {fd : FuncData}
theorem scReduced : FnScope ["top", "bottom", "common"] ["top", "bottom"] (defScope sReduced) := ⟨rfl, rfl, rfl, by decide +kernel, rfl, by decide +kernel, by decide +kernel⟩
theorem ok_reduced (F : Fun K "reduced" "reduced" sReduced f fd) (T : Blt mg) : FnOk P w K mg base CX0 1 f fd ["top", "bottom"] spReduced := by
  refine F.ok scReduced (fun vs H Q E h => ?_) (fun cdv A outer s H vs Q E hr h => ?_)
  · obtain ⟨a, b, rfl, _⟩ := h
    rfl
  · obtain ⟨a, b, rfl, hb, hw, k⟩ := h
    refine ⟨_, pss_cons (ps_set (i := 2) scReduced.nd rfl (Or.inl rfl) (pe_callBfun cr_gcd (by rfl) T.gcd (pa_cons (pv 0) (pa_cons (pv 1) pa_nil))))
      (pss_cons (ps_if (pt_cmpR op_lt (pv 1) pe_int (nomark _)) (pss_one (ps_set (i := 2) scReduced.nd rfl (Or.inl rfl) (pe_un un_neg (pv 2)))) pss_nil)
      (pss_one (ps_ret (pe_tup (pa_cons (pe_op op_fdivW (pv 0) (pv 2)) (pa_cons (pe_op op_fdivW (pv 1) (pv 2)) pa_nil)))))), ?_⟩
    refine ⟨_, rfl, _, rfl, a, b, rfl, ?_⟩
    refine ⟨_, rfl, _, _, rfl, rfl, _, rfl, ?_⟩
    have hp := gI_pos (a := a) (b := b) (by omega)
    have hle := gI_le (a := a) (b := b) (by omega)
    have hgw : Lt2 8800 (gI a b) := Nat.lt_of_le_of_lt hle hw
    refine ite2 (fun c => ?_) (fun c => ?_)
    · have := of_decide_eq_true c
      omega
    · exact ⟨_, rfl, _, rfl, _, _, rfl, rfl, wide_div hp hgw (by decide) (by decide), _, rfl, _, rfl, _, _, rfl, rfl, wide_div hp hgw (by decide) (by decide), (by show 2 ≤ sizeLine; decide), fun p hp => k p hp⟩
theorem scOp : ∀ i ∈ [5, 6, 7], FnScope ["one", "other"] ["one", "other"] (defScope (top i)) := by
  intro i hi
  simp only [List.mem_cons, List.not_mem_nil, or_false] at hi
  rcases hi with rfl | rfl | rfl <;> exact ⟨rfl, rfl, rfl, by decide +kernel, rfl, by decide +kernel, by decide +kernel⟩

/-- one[0] * other[1] and its like: two places, the rest -/
theorem ok_added (F : Fun K "added" "added" sAdded f fd) (C : Cal P w K mg base 1 "reduced" spReduced) : FnOk P w K mg base CX0 2 f fd ["one", "other"] (spOp K add dom2) := by
  refine F.ok (scOp 5 (by decide)) (fun vs H Q E h => ?_) (fun cdv A outer s H vs Q E hr h => ?_)
  · obtain ⟨x, y, q, r, rfl, _⟩ := h
    rfl
  · obtain ⟨x, y, q, r, rfl, ⟨a, rfl, h1⟩, ⟨b, rfl, h2⟩, ⟨d1, d2⟩, k⟩ := h
    refine ⟨_, pss_one (ps_ret (pe_n C hr (by decide) (by rfl) (pa_cons (pe_op op_add (pe_op op_mulW (pe_ix ix_tup (pv 0) pe_int (fun _ _ => rfl)) (pe_ix ix_tup (pv 1) pe_int (fun _ _ => rfl))) (pe_op op_mulW (pe_ix ix_tup (pv 1) pe_int (fun _ _ => rfl)) (pe_ix ix_tup (pv 0) pe_int (fun _ _ => rfl))))
      (pa_cons (pe_op op_mulW (pe_ix ix_tup (pv 0) pe_int (fun _ _ => rfl)) (pe_ix ix_tup (pv 1) pe_int (fun _ _ => rfl))) pa_nil)))), ?_⟩
    refine ⟨_, rfl, a, _, _, _, rfl, rfl, h1, atI_nat (j := 0) rfl, _, rfl, b, _, _, _, rfl, rfl, h2, atI_nat (j := 1) rfl, _, _, rfl, rfl, d1.big.c d2.l2,
      _, rfl, b, _, _, _, rfl, rfl, h2, atI_nat (j := 0) rfl, _, rfl, a, _, _, _, rfl, rfl, h1, atI_nat (j := 1) rfl, _, _, rfl, rfl, d2.big.c d1.l2, _, _, rfl, rfl,
      _, rfl, a, _, _, _, rfl, rfl, h1, atI_nat (j := 1) rfl, _, rfl, b, _, _, _, rfl, rfl, h2, atI_nat (j := 1) rfl, _, _, rfl, rfl, d1.l2.c d2.l2, ?_⟩
    exact ⟨_, _, rfl, Int.mul_pos d1.pos d2.pos, lt2m d1.low d2.low, fun p hp => k p hp⟩
theorem ok_lessened (F : Fun K "lessened" "lessened" sLessened f fd) (C : Cal P w K mg base 1 "reduced" spReduced) : FnOk P w K mg base CX0 2 f fd ["one", "other"] (spOp K sub dom2) := by
  refine F.ok (scOp 6 (by decide)) (fun vs H Q E h => ?_) (fun cdv A outer s H vs Q E hr h => ?_)
  · obtain ⟨x, y, q, r, rfl, _⟩ := h
    rfl
  · obtain ⟨x, y, q, r, rfl, ⟨a, rfl, h1⟩, ⟨b, rfl, h2⟩, ⟨d1, d2⟩, k⟩ := h
    refine ⟨_, pss_one (ps_ret (pe_n C hr (by decide) (by rfl) (pa_cons (pe_op op_sub (pe_op op_mulW (pe_ix ix_tup (pv 0) pe_int (fun _ _ => rfl)) (pe_ix ix_tup (pv 1) pe_int (fun _ _ => rfl))) (pe_op op_mulW (pe_ix ix_tup (pv 1) pe_int (fun _ _ => rfl)) (pe_ix ix_tup (pv 0) pe_int (fun _ _ => rfl))))
      (pa_cons (pe_op op_mulW (pe_ix ix_tup (pv 0) pe_int (fun _ _ => rfl)) (pe_ix ix_tup (pv 1) pe_int (fun _ _ => rfl))) pa_nil)))), ?_⟩
    refine ⟨_, rfl, a, _, _, _, rfl, rfl, h1, atI_nat (j := 0) rfl, _, rfl, b, _, _, _, rfl, rfl, h2, atI_nat (j := 1) rfl, _, _, rfl, rfl, d1.big.c d2.l2,
      _, rfl, b, _, _, _, rfl, rfl, h2, atI_nat (j := 0) rfl, _, rfl, a, _, _, _, rfl, rfl, h1, atI_nat (j := 1) rfl, _, _, rfl, rfl, d2.big.c d1.l2, _, _, rfl, rfl,
      _, rfl, a, _, _, _, rfl, rfl, h1, atI_nat (j := 1) rfl, _, rfl, b, _, _, _, rfl, rfl, h2, atI_nat (j := 1) rfl, _, _, rfl, rfl, d1.l2.c d2.l2, ?_⟩
    exact ⟨_, _, rfl, Int.mul_pos d1.pos d2.pos, lt2m d1.low d2.low, fun p hp => k p hp⟩
theorem ok_timed (F : Fun K "timed" "timed" sTimed f fd) (C : Cal P w K mg base 1 "reduced" spReduced) : FnOk P w K mg base CX0 2 f fd ["one", "other"] (spOp K mul dom2) := by
  refine F.ok (scOp 7 (by decide)) (fun vs H Q E h => ?_) (fun cdv A outer s H vs Q E hr h => ?_)
  · obtain ⟨x, y, q, r, rfl, _⟩ := h
    rfl
  · obtain ⟨x, y, q, r, rfl, ⟨a, rfl, h1⟩, ⟨b, rfl, h2⟩, ⟨d1, d2⟩, k⟩ := h
    refine ⟨_, pss_one (ps_ret (pe_n C hr (by decide) (by rfl) (pa_cons (pe_op op_mulW (pe_ix ix_tup (pv 0) pe_int (fun _ _ => rfl)) (pe_ix ix_tup (pv 1) pe_int (fun _ _ => rfl)))
      (pa_cons (pe_op op_mulW (pe_ix ix_tup (pv 0) pe_int (fun _ _ => rfl)) (pe_ix ix_tup (pv 1) pe_int (fun _ _ => rfl))) pa_nil)))), ?_⟩
    refine ⟨_, rfl, a, _, _, _, rfl, rfl, h1, atI_nat (j := 0) rfl, _, rfl, b, _, _, _, rfl, rfl, h2, atI_nat (j := 0) rfl, _, _, rfl, rfl, d1.big.c d2.big,
      _, rfl, a, _, _, _, rfl, rfl, h1, atI_nat (j := 1) rfl, _, rfl, b, _, _, _, rfl, rfl, h2, atI_nat (j := 1) rfl, _, _, rfl, rfl, d1.l2.c d2.l2, ?_⟩
    exact ⟨_, _, rfl, Int.mul_pos d1.pos d2.pos, lt2m d1.low d2.low, fun p hp => k p hp⟩
theorem pow_lt2 {x : Int} {n : Nat} (h : Lt2 6 x) (hn : n ≤ 20) : Lt2 121 (x ^ n) := by
  have h' : x.natAbs < 64 := h
  show (x ^ n).natAbs < 2 ^ 121
  rw [Int.natAbs_pow]
  have a := Nat.pow_le_pow_left (show x.natAbs ≤ 64 by omega) n
  have b := Nat.pow_le_pow_right (show 0 < 64 by decide) hn
  have c : (64 : Nat) ^ 20 < 2 ^ 121 := by decide
  omega
end
end Rs


set_option Elab.async false
set_option linter.all false
set_option maxRecDepth 100000
set_option maxHeartbeats 400000
namespace Rs
open PySem L2 Bs Fq
/-! ### data and kinds -/
def dF (q : F) : PyData := .tuple [.int q.1, .int q.2]
theorem Fr.dp {K : PySem.W.Frag} {H : Hp} {v : V} {q : F} (h : Fr K H v q) : Dp K H v (dF q) := by
  obtain ⟨a, rfl, s⟩ := h
  exact .tup s (.cons (.int _) (.cons (.int _) .nil))
def tyD : PyData → String
  | .none => "NoneType" | .bool _ => "bool" | .int _ => "int" | .str _ => "str" | .list _ => "list" | .tuple _ => "tuple" | .dict _ => "dict"
theorem _root_.L2.Dp.ty {K : PySem.W.Frag} {H : Hp} {v : V} {d : PyData} (h : Dp K H v d) : TyX K H v (.type (tyD d)) := by
  cases h with
  | non => exact .base .non
  | bl b => exact .base (.bl b)
  | int i => exact .base (.int i)
  | str x => exact .base (.str x)
  | lst s _ =>
    rcases s with (s | ⟨o, s⟩) | ⟨o, its, n, e, c, _⟩
    · exact .base (.lst s)
    · exact .base (.frz s)
    · exact .kList e c
  | tup s _ =>
    rcases s with (s | ⟨o, s⟩) | ⟨o, its, n, e, c, _⟩
    · exact .base (.tup s)
    · exact .fTuple s
    · exact .kTuple e c
def wholeD : PyData → Bool
  | .int _ => true
  | _ => false
def fracD : PyData → Bool
  | .tuple [.int a, .int b] => decide (1 ≤ b) && decide (gI a b = 1)
  | _ => false
def betwD (lo hi : Int) : PyData → Bool
  | .int i => decide (lo ≤ i) && decide (i ≤ hi)
  | _ => false
theorem fracD_dF {q : F} (h : Ok q) : fracD (dF q) = true := by
  have : gI q.1 q.2 = 1 := by unfold gI; rw [h.2]; rfl
  simp only [fracD, dF, Bool.and_eq_true, decide_eq_true_eq]
  exact ⟨by have := h.1; omega, this⟩
theorem fracD_true {d : PyData} (h : fracD d = true) : ∃ q, d = dF q ∧ Ok q := by
  unfold fracD at h
  split at h
  · rename_i a b
    simp only [Bool.and_eq_true, decide_eq_true_eq] at h
    refine ⟨(a, b), rfl, by show 0 < b; omega, ?_⟩
    have := h.2
    unfold gI at this
    show Nat.gcd a.natAbs b.natAbs = 1
    omega
  · cases h
def isInt : PyData → Bool
  | .int _ => true
  | .bool _ => true
  | _ => false
theorem kitI (K : PySem.W.Frag) (d : PyData) : PySem.W.kitOne K (.type (tyD d)) (.type "int") = some (isInt d) := by
  cases d with
  | none => exact kit_ty (a := "NoneType") (b := "int") (r := false) (by decide +kernel)
  | bool _ => exact kit_ty (a := "bool") (b := "int") (r := true) (by decide +kernel)
  | int _ => exact kit_ty (a := "int") (b := "int") (r := true) (by decide +kernel)
  | str _ => exact kit_ty (a := "str") (b := "int") (r := false) (by decide +kernel)
  | list _ => exact kit_ty (a := "list") (b := "int") (r := false) (by decide +kernel)
  | tuple _ => exact kit_ty (a := "tuple") (b := "int") (r := false) (by decide +kernel)
  | dict _ => exact kit_ty (a := "dict") (b := "int") (r := false) (by decide +kernel)
def isBool : PyData → Bool
  | .bool _ => true
  | _ => false
theorem kitB' (K : PySem.W.Frag) (d : PyData) : PySem.W.kitOne K (.type (tyD d)) (.type "bool") = some (isBool d) := by
  cases d with
  | none => exact kit_ty (a := "NoneType") (b := "bool") (r := false) (by decide +kernel)
  | bool _ => exact kit_ty (a := "bool") (b := "bool") (r := true) (by decide +kernel)
  | int _ => exact kit_ty (a := "int") (b := "bool") (r := false) (by decide +kernel)
  | str _ => exact kit_ty (a := "str") (b := "bool") (r := false) (by decide +kernel)
  | list _ => exact kit_ty (a := "list") (b := "bool") (r := false) (by decide +kernel)
  | tuple _ => exact kit_ty (a := "tuple") (b := "bool") (r := false) (by decide +kernel)
  | dict _ => exact kit_ty (a := "dict") (b := "bool") (r := false) (by decide +kernel)
def isTup : PyData → Bool
  | .tuple _ => true
  | _ => false
theorem kitT (K : PySem.W.Frag) (d : PyData) : PySem.W.kitOne K (.type (tyD d)) (.type "tuple") = some (isTup d) := by
  cases d with
  | none => exact kit_ty (a := "NoneType") (b := "tuple") (r := false) (by decide +kernel)
  | bool _ => exact kit_ty (a := "bool") (b := "tuple") (r := false) (by decide +kernel)
  | int _ => exact kit_ty (a := "int") (b := "tuple") (r := false) (by decide +kernel)
  | str _ => exact kit_ty (a := "str") (b := "tuple") (r := false) (by decide +kernel)
  | list _ => exact kit_ty (a := "list") (b := "tuple") (r := false) (by decide +kernel)
  | tuple _ => exact kit_ty (a := "tuple") (b := "tuple") (r := true) (by decide +kernel)
  | dict _ => exact kit_ty (a := "dict") (b := "tuple") (r := false) (by decide +kernel)
abbrev sWhole : Stmt := top 25
abbrev sFraction : Stmt := top 26
def spWhole (K : PySem.W.Frag) : Sp := fun vs H Q _ => ∃ (v : V) (d : PyData), vs = [v] ∧ Dp K H v d ∧ Q (.bl (wholeD d)) H
def spBetween (K : PySem.W.Frag) : Sp := fun vs H Q _ => ∃ (v : V) (d : PyData) (lo hi : Int), vs = [v, .int lo, .int hi] ∧ Dp K H v d ∧ Q (.bl (betwD lo hi d)) H
def spFraction (K : PySem.W.Frag) : Sp := fun vs H Q _ => ∃ (v : V) (d : PyData), vs = [v] ∧ Dp K H v d ∧ Q (.bl (fracD d)) H
section
variable {P : Program} {w : World} {K : PySem.W.Frag} {mg : Str → Option Value} {base : Heap} {f : Addr} {fd : FuncData}
theorem sc15 : FnScope ["thing"] ["thing"] (defScope sWhole) := ⟨rfl, rfl, rfl, by decide +kernel, rfl, by decide +kernel, by decide +kernel⟩
theorem ok_whole (F : Fun K "is_whole" "is_whole" sWhole f fd) (T : Blt mg) : FnOk P w K mg base CX0 1 f fd ["thing"] (spWhole K) := by
  refine F.ok sc15 (fun vs H Q E h => ?_) (fun cdv A outer s H vs Q E hr h => ?_)
  · obtain ⟨v, d, rfl, _⟩ := h
    rfl
  · obtain ⟨v, d, rfl, hd, k⟩ := h
    refine ⟨_, pss_one (ps_ret (pe_and (pe_callB call_isi (by rfl) T.isinstance (by decide +kernel) (pa_cons (pv 0) (pa_cons (pe_bltn (v := .ty "int") (by rfl) T.int (by decide +kernel) rfl) pa_nil)))
      (pe_one (pe_not (pe_callB call_isi (by rfl) T.isinstance (by decide +kernel) (pa_cons (pv 0) (pa_cons (pe_bltn (v := .ty "bool") (by rfl) T.bool (by decide +kernel) rfl) pa_nil))))))), ?_⟩
    refine ⟨v, rfl, v, _, _, _, _, rfl, .ty _, hd.ty, kitI K d, _, rfl, ?_⟩
    have second : ∀ b : Bool, wholeD d = (!isBool d) → tNotV (tCB (rIsi K) (tCons (tVar 0) (tCons (tC (.ty "bool")) tNil))) (start ["thing"] [v]) H Q := fun b e => by
      refine ⟨v, rfl, v, _, _, _, _, rfl, .ty _, hd.ty, kitB' K d, _, rfl, ?_⟩
      rw [← e]
      exact k
    cases d with
    | int i => exact iteT (second true rfl)
    | bool b => exact iteT (second true rfl)
    | none => exact iteF k
    | str x => exact iteF k
    | list xs => exact iteF k
    | tuple xs => exact iteF k
    | dict xs => exact iteF k

theorem sc17 : FnScope ["thing", "top", "bottom"] ["thing"] (defScope sFraction) := ⟨rfl, rfl, rfl, by decide +kernel, rfl, by decide +kernel, by decide +kernel⟩
theorem fracD_not {d : PyData} (h : isTup d = false) : fracD d = false := by
  cases d <;> first | rfl | cases h
theorem fracD_len : ∀ {ds : List PyData}, ds.length ≠ 2 → fracD (.tuple ds) = false
  | [], _ => rfl
  | [d], _ => by cases d <;> rfl
  | [_, _], h => absurd rfl h
  | a :: b :: _ :: _, _ => by cases a <;> cases b <;> rfl
theorem fracD_first {d e : PyData} (h : wholeD d = false) : fracD (.tuple [d, e]) = false := by
  cases d <;> first | rfl | cases h
theorem fracD_second {d e : PyData} (h : wholeD e = false) : fracD (.tuple [d, e]) = false := by
  cases d <;> cases e <;> first | rfl | cases h
theorem wholeD_true {d : PyData} (h : wholeD d = true) : ∃ i, d = .int i := by
  cases d with
  | int i => exact ⟨i, rfl⟩
  | _ => cases h
theorem dpAll_len {K : PySem.W.Frag} {H : Hp} : ∀ {ds : List PyData} {xs : List V}, DpAll K H xs ds → xs.length = ds.length
  | [], _, .nil => rfl
  | _ :: _, _, .cons _ r => congrArg Nat.succ (dpAll_len r)
theorem two_of {K : PySem.W.Frag} {H : Hp} {xs : List V} {ds : List PyData} (h : DpAll K H xs ds) (l : xs.length = 2) : ∃ v1 v2 d1 d2, xs = [v1, v2] ∧ ds = [d1, d2] ∧ Dp K H v1 d1 ∧ Dp K H v2 d2 := by
  cases h with
  | nil => cases l
  | cons h1 h2 =>
    cases h2 with
    | nil => cases l
    | cons h3 h4 =>
      cases h4 with
      | nil => exact ⟨_, _, _, _, rfl, rfl, h1, h3⟩
      | cons h5 h6 => simp at l
theorem ok_fraction (F : Fun K "is_fraction" "is_fraction" sFraction f fd) (T : Blt mg) (W : Cal P w K mg base 1 "is_whole" (spWhole K)) : FnOk P w K mg base CX0 2 f fd ["thing"] (spFraction K) := by
  refine F.ok sc17 (fun vs H Q E h => ?_) (fun cdv A outer s H vs Q E hr h => ?_)
  · obtain ⟨v, d, rfl, _⟩ := h
    rfl
  · obtain ⟨v, d, rfl, hd, k⟩ := h
    refine ⟨_, pss_cons (ps_if (PW.pt (pw_or (pt_not (pt_val (pe_callB call_isi (by rfl) T.isinstance (by decide +kernel) (pa_cons (pv 0) (pa_cons (pe_bltn (v := .ty "tuple") (by rfl) T.tuple (by decide +kernel) rfl) pa_nil)))))
        (pw_or1 (pt_cmpR op_ne (pe_callB call_len_seq (by rfl) T.len PySem.boot_len (pa_cons (pv 0) pa_nil)) pe_int (nomark _))))) (pss_one (ps_ret pe_bl)) pss_nil)
      (pss_cons (ps_asg (pv 0) (pg_tup rfl (pgs_cons (pg_name (i := 1) sc17.nd rfl (.inl rfl)) (pgs_cons (pg_name (i := 2) sc17.nd rfl (.inl rfl)) pgs_nil))))
      (pss_one (ps_ret (pe_and (pe_n W hr (by decide) (by rfl) (pa_cons (pv 1) pa_nil)) (pe_and (pe_n W hr (by decide) (by rfl) (pa_cons (pv 2) pa_nil))
        (pe_and (pe_cmpR op_ge (pv 2) pe_int (nomark _)) (pe_one (pe_cmpR op_eq (pe_callBfun cr_gcd (by rfl) T.gcd (pa_cons (pv 1) (pa_cons (pv 2) pa_nil))) pe_int (nomark _))))))))), ?_⟩
    refine ⟨v, rfl, v, _, _, _, _, rfl, .ty _, hd.ty, kitT K d, _, rfl, ?_⟩
    cases ht : isTup d with
    | false =>
      rw [fracD_not ht] at k
      exact iteT (iteT k)
    | true =>
      refine iteF ?_
      cases hd with
      | tup hS hA =>
        rename_i a xs ds
        refine ⟨_, rfl, a, _, rfl, .inr hS, rfl, _, rfl, ?_⟩
        refine ite2 (fun c => ?_) (fun c => ?_)
        · have l := dpAll_len hA
          rw [fracD_len (fun z => by rw [← l] at z; simp [z] at c)] at k
          exact k
        · have l := dpAll_len hA
          have l2 : xs.length = 2 := by
            have c2 : ((xs.length : Nat) : Int) = 2 := by simpa using c
            omega
          obtain ⟨v1, v2, d1, d2, rfl, rfl, h1, h2⟩ := two_of hA l2
          refine ⟨_, rfl, a, [v1, v2], rfl, hS, rfl, v1, [v2], rfl, v2, [], rfl, rfl, ?_⟩
          refine ⟨_, rfl, v1, d1, rfl, h1, _, rfl, ?_⟩
          cases hw1 : wholeD d1 with
          | false =>
            rw [fracD_first hw1] at k
            exact iteF k
          | true =>
            refine iteT ⟨_, rfl, v2, d2, rfl, h2, _, rfl, ?_⟩
            cases hw2 : wholeD d2 with
            | false =>
              rw [fracD_second hw2] at k
              exact iteF k
            | true =>
              obtain ⟨i1, rfl⟩ := wholeD_true hw1
              obtain ⟨i2, rfl⟩ := wholeD_true hw2
              cases h1
              cases h2
              have e : fracD (.tuple [.int i1, .int i2]) = (decide (1 ≤ i2) && decide (gI i1 i2 = 1)) := rfl
              refine iteT ⟨_, rfl, _, _, rfl, rfl, _, rfl, ?_⟩
              refine ite2 (fun c1 => ⟨_, rfl, _, rfl, i1, i2, rfl, rfl, ?_⟩) (fun c1 => ?_)
              · rw [e, show decide (1 ≤ i2) = true from c1, Bool.true_and] at k
                have e3 : decide (V.int ((Nat.gcd i1.natAbs i2.natAbs : Nat) : Int) = V.int 1) = decide (gI i1 i2 = 1) := by
                  unfold gI
                  simp only [V.int.injEq]
                rw [← e3] at k
                exact k
              · rw [e, show decide (1 ≤ i2) = false from Bool.eq_false_iff.mpr c1, Bool.false_and] at k
                exact k
      | non => cases ht
      | bl b => cases ht
      | int b => cases ht
      | str b => cases ht
      | lst _ _ => cases ht
end
end Rs


set_option Elab.async false
set_option linter.all false
set_option maxRecDepth 100000
set_option maxHeartbeats 400000
namespace Rs
open PySem L2 Bs Fq
/-! ### errors -/
/-- the class x, its __init__: self.given = given -/
structure Err (K : PySem.W.Frag) (mg : Str → Option Value) (x : Str) (qual : Str) (st : Stmt) (C : Addr) : Prop where
  gC : mg x = some (.ref C)
  oex : OexC K C
  xf : XfC K C
  no : PySem.W.findIn K (.ref C) "given" = some none
  ini : ∃ (fI : Addr) (fd : FuncData), PySem.W.findIn K (.ref C) "__init__" = some (some (.ref fI)) ∧ PySem.W.typeIn K (.ref fI) = some (.type "function") ∧ Fun K "__init__" qual st fI fd ∧ Binds K fd ["self", "given"] []
def spInit (K : PySem.W.Frag) (C : Addr) : Sp := fun vs H Q _ => ∃ (a : Addr) (y : V), vs = [.ref a, y] ∧ H a = some (exo a C none) ∧
  ∀ dx, H dx = none → dx ≠ a → Q .non (upd (upd H dx (exd dx [("given", y)])) a (exo a C (some dx)))
theorem heap_end {H : Hp} {a d : Addr} {o1 o2 o3 o4 : HO} (h : H a = none) (n : d ≠ a) : upd (del (upd (upd (upd H a o1) d o2) a o3) a) d o4 = upd H d o4 := by
  funext b
  by_cases e1 : b = d
  · subst e1
    rw [upd_same, upd_same]
  · rw [upd_ne e1, upd_ne e1]
    by_cases e2 : b = a
    · subst e2
      rw [del_same, h]
    · rw [del_ne e2, upd_ne e2, upd_ne e1, upd_ne e2]
section
variable {P : Program} {w : World} {K : PySem.W.Frag} {mg : Str → Option Value} {base : Heap} {f : Addr} {fd : FuncData}
/-- such an error may be made by its name -/
structure ErrOk (P : Program) (w : World) (K : PySem.W.Frag) (mg : Str → Option Value) (base : Heap) (x : Str) (C : Addr) : Prop where
  gC : mg x = some (.ref C)
  oex : OexC K C
  ini : ∃ (fI : Addr) (fd : FuncData), PySem.W.findIn K (.ref C) "__init__" = some (some (.ref fI)) ∧ PySem.W.typeIn K (.ref fI) = some (.type "function") ∧ FnOk P w K mg base CX0 1 fI fd ["self", "given"] (spInit K C) ∧ Binds K fd ["self", "given"] []
end
/-- the way out with an error of the class at C that carries v -/
def Out (E : XK) (C : Addr) (v : V) (H : Hp) : Prop := ∀ d : Addr, H d = none → E (.ref C) (some d) (upd H d (.xd [("given", v)]))
theorem pe_weak {X : Cx} {e : Expr} {te : TE} (he : PE X e te) : PE X e (fun σ H Q => ∃ Q0 : VK, te σ H Q0 ∧ ∀ v H1, Q0 v H1 → Q v H1) :=
  ⟨fun pins s σ H Q I ⟨Q0, h, m⟩ => PySem.wpAny_mono (he.run pins s σ H Q0 I h) (fun u s' ⟨v, H1, I1, r, q⟩ => ⟨v, H1, I1, r, m _ _ q⟩) (fun _ _ z => z)⟩
/-- raise x(e) -/
def tRz (C : Addr) (W : WX) (te : TE) : TS := fun _ σ H => te σ H fun v H1 => ∀ d : Addr, H1 d = none → W (.ref C) (some d) σ (upd H1 d (.xd [("given", v)]))
theorem ps_rz {X : Cx} {x : Str} {C : Addr} {j : Nat} {e : Expr} {te : TE} {W : WX} {p pos pos2 : Pos} (hc : X.calm = true) (T : ErrOk X.prog X.w X.K X.mg X.base x C) (hr : Room j X.A) (hj : 2 ≤ j) (tk : Takes X W) (he : PE X e te) (hg : Gl X x)
    (hdb : (x == ("__debug__" : Str)) = false := by decide) (hs : starEach (e :: []) X.env = (false, eval e X.env) :: starEach [] X.env := by rfl) (hpl : (backTo pos (starEach [] X.env)).any (·.1) = false := by rfl) :
    PS X (.Raise (some (.Call (.Name x p) [e] [] pos)) none pos2) (tRz C W te) := by
  obtain ⟨fI, fd, iC, tI, F1, b⟩ := T.ini
  have h := ps_raise (pos := pos2) hc tk (pmk_oex (x := x) (p := p) (pos := pos) T.oex iC tI F1 (hr.mono hj) b .nil pass0 hg T.gC (pa_cons (pe_weak he) pa_nil hs) hdb hs hpl)
  constructor
  intro pins s σ H D I q
  refine h.run pins s σ H D I ?_
  refine ⟨_, q, fun v H1 z => ?_⟩
  refine ⟨(by show 1 ≤ 1000; decide), fun a ha => ⟨a, v, rfl, upd_same, fun dx n1 n2 => ⟨rfl, dx, [("given", v)], upd_same, ?_, ?_, ?_⟩⟩⟩
  · rw [upd_ne n2]
    exact upd_same
  · rw [upd_ne n2] at n1
    exact n1
  · rw [upd_ne n2] at n1
    show W _ _ _ (upd (del _ a) dx _)
    rw [heap_end ha n2]
    exact z dx n1
end Rs


set_option Elab.async false
set_option linter.all false
set_option maxRecDepth 100000
set_option maxHeartbeats 400000
namespace Rs
open PySem L2 Bs Fq
theorem dp_fr {K : PySem.W.Frag} {H : Hp} {v : V} {q : F} (h : Dp K H v (dF q)) : Fr K H v q := by
  cases h with
  | tup s a =>
    cases a with
    | cons h1 h2 =>
      cases h2 with
      | cons h3 h4 =>
        cases h4
        cases h1
        cases h3
        exact ⟨_, rfl, s⟩
def spNeedF (K : PySem.W.Frag) (C : Addr) : Sp := fun vs H Q E => ∃ (v : V) (d : PyData), vs = [v] ∧ Dp K H v d ∧ (fracD d = true → Q v H) ∧ (fracD d = false → Out E C v H)
def spNeedB (K : PySem.W.Frag) (C : Addr) : Sp := fun vs H Q E => ∃ (v : V) (d : PyData) (lo hi : Int), vs = [v, .int lo, .int hi] ∧ Dp K H v d ∧ (betwD lo hi d = true → Q v H) ∧ (betwD lo hi d = false → Out E C v H)
def spRatio (K : PySem.W.Frag) (C : Addr) : Sp := fun vs H Q E => ∃ (x y : V) (dx dy : PyData), vs = [x, y] ∧ Dp K H x dx ∧ Dp K H y dy ∧ (wholeD dx = false → Out E C x H) ∧
  (∀ a, dx = .int a → (∀ b, dy = .int b → b ≠ 0 → b.natAbs < 1073741824 ∧ ∀ p, H p = none → Q (.ref p) (upd H p (fr (redP a b)))) ∧ ((∀ b, dy = .int b → b = 0) → Out E C y H))
/-- two fractions wanted; R: what is made of them -/
def spTwo (K : PySem.W.Frag) (C : Addr) (R : V → V → F → F → Hp → VK → XK → Prop) : Sp := fun vs H Q E => ∃ (x y : V) (dx dy : PyData), vs = [x, y] ∧ Dp K H x dx ∧ Dp K H y dy ∧ (fracD dx = false → Out E C x H) ∧
  (fracD dx = true → fracD dy = false → Out E C y H) ∧ (∀ q r, dx = dF q → Ok q → dy = dF r → Ok r → R x y q r H Q E)
def rOp (op : F → F → F) (dom : F → F → Prop) : V → V → F → F → Hp → VK → XK → Prop := fun _ _ q r H Q _ => dom q r ∧ ∀ p, H p = none → Q (.ref p) (upd H p (fr (op q r)))
def rLt : V → V → F → F → Hp → VK → XK → Prop := fun _ _ q r H Q _ => dom2 q r ∧ Q (.bl (lt q r)) H
def rOver (C : Addr) : V → V → F → F → Hp → VK → XK → Prop := fun _ y q r H Q E => (r.1 = 0 → Out E C y H) ∧ (r.1 ≠ 0 → domD q r ∧ ∀ p, H p = none → Q (.ref p) (upd H p (fr (div q r))))
def spPower (K : PySem.W.Frag) (CF CN : Addr) : Sp := fun vs H Q E => ∃ (x y : V) (dx dy : PyData), vs = [x, y] ∧ Dp K H x dx ∧ Dp K H y dy ∧ (fracD dx = false → Out E CF x H) ∧
  (fracD dx = true → betwD 0 20 dy = false → Out E CN y H) ∧ (∀ q n, dx = dF q → Ok q → dy = .int n → 0 ≤ n → n ≤ 20 → Lt2 6 q.1 ∧ Lt2 6 q.2 ∧ ∀ p, H p = none → Q (.ref p) (upd H p (fr (pw q n.toNat))))
/-- the module's NOUGHT -/
structure Nou (K : PySem.W.Frag) (mg : Str → Option Value) : Prop where
  ex : ∃ a : Addr, mg "NOUGHT" = some (.ref a) ∧ ∀ H : Hp, SqT K H a [.int 0, .int 1]
section
variable {P : Program} {w : World} {K : PySem.W.Frag} {mg : Str → Option Value} {base : Heap} {f : Addr} {fd : FuncData} {CF CN : Addr}
/-- the reading of f(need_fraction(one), need_fraction(other)) -/
theorem two_needs {x y : V} {dx dy : PyData} {H : Hp} {E : XK} {Q2 : F → F → Prop} {sp : Sp} {D : Ends} (h1 : Dp K H x dx) (h2 : Dp K H y dy) (k1 : fracD dx = false → Out E CF x H) (k2 : fracD dx = true → fracD dy = false → Out E CF y H)
    (k3 : ∀ q r, dx = dF q → Ok q → dy = dF r → Ok r → Q2 q r) (fin : ∀ q r, Fr K H x q → Fr K H y r → Q2 q r → sp [x, y] H D.rt E0) :
    tRet (tCall sp [] E0 (tCons (tCall (spNeedF K CF) [] E (tCons (tVar 0) tNil)) (tCons (tCall (spNeedF K CF) [] E (tCons (tVar 1) tNil)) tNil))) D (start ["one", "other"] [x, y]) H := by
  refine ⟨x, rfl, x, dx, rfl, h1, fun e1 => ⟨y, rfl, y, dy, rfl, h2, fun e2 => ?_, fun e2 => k2 e1 e2⟩, k1⟩
  obtain ⟨q, rfl, o1⟩ := fracD_true e1
  obtain ⟨r, rfl, o2⟩ := fracD_true e2
  exact fin q r (dp_fr h1) (dp_fr h2) (k3 q r rfl o1 rfl o2)
end
end Rs


set_option Elab.async false
set_option linter.all false
set_option maxRecDepth 100000
set_option maxHeartbeats 400000
namespace Rs
open PySem L2 Bs Fq
abbrev sMixed : Stmt := top 57
abbrev sLRatio : Stmt := top 60
abbrev sLPlus : Stmt := top 61
abbrev sLLess : Stmt := top 62
abbrev sLTimes : Stmt := top 63
def spMixed : Sp := fun vs H Q _ => ∃ (c k : Int), vs = [.int c, .int k] ∧ 0 ≤ k ∧ k ≤ 100000 ∧ ∀ r : Int, 0 ≤ r → r < 2147483629 → Q (.int r) H
/-- _law_ratio(top, bottom), bottom above nought -/
def spLRatio : Sp := fun vs H Q _ => ∃ (a b : Int), vs = [.int a, .int b] ∧ 0 < b ∧ Lt2 8800 b ∧ ∀ p, H p = none → Q (.ref p) (upd H p (fr (red a b)))
/-- the law's own numbers: any size that a reckoning may have -/
structure Dl (q : F) : Prop where
  big : Lt2 4400 q.1
  pos : 0 < q.2
  low : Lt2 4400 q.2
def domL (q r : F) : Prop := Dl q ∧ Dl r
def domLD (q r : F) : Prop := Dl q ∧ Dl r ∧ 0 < r.1
def spLt' (K : PySem.W.Frag) : Sp := fun vs H Q _ => ∃ (x y : V) (q r : F), vs = [x, y] ∧ Fr K H x q ∧ Fr K H y r ∧ domL q r ∧ Q (.bl (lt q r)) H
/-- the law's quotient, the divisor above nought -/
def divL (q r : F) : F := red (q.1 * r.2) (q.2 * r.1)
section
variable {P : Program} {w : World} {K : PySem.W.Frag} {mg : Str → Option Value} {base : Heap} {f : Addr} {fd : FuncData}
theorem scMixed : FnScope ["cell", "k"] ["cell", "k"] (defScope sMixed) := ⟨rfl, rfl, rfl, by decide +kernel, rfl, by decide +kernel, by decide +kernel⟩
theorem ok_mixed (F : Fun K "_law_mixed" "_law_mixed" sMixed f fd) (T : Blt mg) : FnOk P w K mg base CX0 1 f fd ["cell", "k"] spMixed := by
  refine F.ok scMixed (fun vs H Q E h => ?_) (fun cdv A outer s H vs Q E hr h => ?_)
  · obtain ⟨c, k, rfl, _⟩ := h
    rfl
  · obtain ⟨c, k, rfl, k0, k1, g⟩ := h
    refine ⟨_, pss_cons (ps_set (i := 0) scMixed.nd rfl (Or.inl rfl) (pe_op op_mod (pe_callTy call_int1 (by rfl) T.int (by decide +kernel) (pa_cons (pv 0) pa_nil)) pe_int))
      (pss_one (ps_ret (pe_op op_mod (pe_op op_mul (pe_op op_mod (pe_op op_add (pe_op op_add (pe_op op_mul (pv 0) (pe_op op_add pe_int (pe_op op_mul (pe_op op_mul pe_int (pv 1)) (pv 1)))) (pe_op op_mul pe_int (pv 1))) pe_int) pe_int) pe_int) pe_int))), ?_⟩
    refine ⟨_, rfl, .inl ⟨c, rfl, _, _, rfl, rfl, (by show (0 : Int) < 2147483647; decide), ?_⟩⟩
    have m0 := Int.emod_nonneg c (b := 2147483647) (by decide)
    have m1 := Int.emod_lt_of_pos c (b := 2147483647) (by decide)
    refine ⟨_, rfl, _, rfl, _, _, rfl, rfl, .inl ⟨by decide, by decide⟩, _, rfl, _, _, rfl, rfl, .inr ⟨by omega, by omega⟩, _, _, rfl, rfl, _, _, rfl, rfl, .inl ⟨by omega, by omega⟩, _, rfl, _, _, rfl, rfl, .inl ⟨by decide, by decide⟩, _, _, rfl, rfl, _, _, rfl, rfl,
      _, _, rfl, rfl, (by show (0 : Int) < 2147483647; decide), _, _, rfl, rfl, .inr ⟨by decide, by decide⟩, _, _, rfl, rfl, (by show (0 : Int) < 2147483629; decide), ?_⟩
    exact g _ (Int.emod_nonneg _ (by decide)) (Int.emod_lt_of_pos _ (by decide))
theorem scLRatio : FnScope ["top", "bottom", "one", "other"] ["top", "bottom"] (defScope sLRatio) := ⟨rfl, rfl, rfl, by decide +kernel, rfl, by decide +kernel, by decide +kernel⟩
theorem ok_lratio (F : Fun K "_law_ratio" "_law_ratio" sLRatio f fd) (T : Blt mg) : FnOk P w K mg base CX0 1 f fd ["top", "bottom"] spLRatio := by
  refine F.ok scLRatio (fun vs H Q E h => ?_) (fun cdv A outer s H vs Q E hr h => ?_)
  · obtain ⟨a, b, rfl, _⟩ := h
    rfl
  · obtain ⟨a, b, rfl, hb, hl, k⟩ := h
    refine ⟨_, pss_cons (ps_par (i := 2) (j := 3) (by rfl) scLRatio.nd rfl rfl (by decide) rfl rfl (pa_cons (pe_callB call_abs (by rfl) T.abs (by decide +kernel) (pa_cons (pv 0) pa_nil)) (pa_cons (pv 1) pa_nil)) (by rfl))
      (pss_cons (ps_while PassesOwn.never (pt_cmpR op_ne (pv 3) pe_int (nomark _))
        (pss_one (ps_par (i := 2) (j := 3) (by rfl) scLRatio.nd rfl rfl (by decide) rfl rfl (pa_cons (pv 3) (pa_cons (pe_op op_modN (pe_callTy call_int1 (by rfl) T.int (by decide +kernel) (pa_cons (pv 2) pa_nil)) (pv 3)) pa_nil)) (by rfl))))
      (pss_one (ps_ret (pe_tup (pa_cons (pe_op op_fdivW (pv 0) (pv 2)) (pa_cons (pe_op op_fdivW (pv 1) (pv 2)) pa_nil)))))), ?_⟩
    refine ⟨_, rfl, a, rfl, _, rfl, _, _, rfl, ?_⟩
    have hp := gI_pos (a := a) (b := b) (by omega)
    have hle := gI_le (a := a) (b := b) (by omega)
    refine while_by (fun σ H' => H' = H ∧ ∃ x y : Int, σ = [some (V.int a), some (V.int b), some (V.int x), some (V.int y)] ∧ 0 ≤ x ∧ 0 ≤ y ∧ gI x y = gI a b) (fun σ _ => match σ with | [_, _, _, some (V.int y)] => y.natAbs | _ => 0)
      ⟨rfl, _, b, rfl, by split <;> omega, by omega, ?_⟩ ?_ (fun σ H Q Q' m h => ?_)
    · unfold gI
      split
      · rw [Int.natAbs_neg]
      · rfl
    · rintro σ H' ⟨rfl, x, y, rfl, x0, y0, e⟩
      refine ⟨_, rfl, rfl, _, rfl, ?_⟩
      by_cases hy : y = 0
      · subst hy
        refine iteF ?_
        have ex : x = gI a b := by
          rw [← e]
          unfold gI
          have : Nat.gcd x.natAbs (0 : Int).natAbs = x.natAbs := Nat.gcd_zero_right _
          rw [this]
          omega
        subst ex
        have hgw : Lt2 8800 (gI a b) := Nat.lt_of_le_of_lt hle hl
        exact ⟨_, rfl, _, rfl, _, _, rfl, rfl, wide_div hp hgw (by decide) (by decide), _, rfl, _, rfl, _, _, rfl, rfl, wide_div hp hgw (by decide) (by decide), (by show 2 ≤ sizeLine; decide), fun p hp => k p hp⟩
      · have d : decide (V.int y = V.int 0) = false := decide_eq_false (fun z => hy (V.int.inj z))
        show if (!decide (V.int y = V.int 0)) = true then _ else _
        rw [d]
        refine iteT ?_
        refine ⟨_, rfl, _, rfl, .inl ⟨x, rfl, _, rfl, _, _, rfl, rfl, hy, _, _, rfl, ⟨rfl, y, x.fmod y, rfl, y0, ?_, ?_⟩, ?_⟩⟩
        · exact Int.fmod_nonneg_of_pos x (by omega)
        · rw [← e]
          unfold gI
          rw [Int.fmod_eq_emod_of_nonneg x y0]
          have h1 : (x % y).natAbs = x.natAbs % y.natAbs := by
            have := Int.natAbs_emod_of_nonneg (b := y) x0
            exact this
          rw [h1, Nat.gcd_comm y.natAbs, ← Nat.gcd_rec y.natAbs x.natAbs, Nat.gcd_comm]
        · show (x.fmod y).natAbs < y.natAbs
          rw [Int.fmod_eq_emod_of_nonneg x y0]
          have := Int.emod_lt_of_pos x (show 0 < y by omega)
          have := Int.emod_nonneg x hy
          omega
    · obtain ⟨v, e1, e2, b', e3, q⟩ := h
      exact ⟨v, e1, e2, b', e3, m _ _ q⟩
end
end Rs


set_option Elab.async false
set_option linter.all false
set_option maxRecDepth 100000
set_option maxHeartbeats 400000
namespace Rs
open PySem L2 Bs Fq
section
variable {P : Program} {w : World} {K : PySem.W.Frag} {mg : Str → Option Value} {base : Heap} {f : Addr} {fd : FuncData}
theorem scLOp : ∀ i ∈ [61, 62, 63, 64, 65], FnScope ["one", "other"] ["one", "other"] (defScope (top i)) := by
  intro i hi
  simp only [List.mem_cons, List.not_mem_nil, or_false] at hi
  rcases hi with rfl | rfl | rfl | rfl | rfl <;> exact ⟨rfl, rfl, rfl, by decide +kernel, rfl, by decide +kernel, by decide +kernel⟩
theorem ok_lplus (F : Fun K "_law_plus" "_law_plus" sLPlus f fd) (C : Cal P w K mg base 1 "_law_ratio" spLRatio) : FnOk P w K mg base CX0 2 f fd ["one", "other"] (spOp K add domL) := by
  refine F.ok (scLOp 61 (by decide)) (fun vs H Q E h => ?_) (fun cdv A outer s H vs Q E hr h => ?_)
  · obtain ⟨x, y, q, r, rfl, _⟩ := h
    rfl
  · obtain ⟨x, y, q, r, rfl, ⟨a, rfl, h1⟩, ⟨b, rfl, h2⟩, ⟨d1, d2⟩, k⟩ := h
    refine ⟨_, pss_one (ps_ret (pe_n C hr (by decide) (by rfl) (pa_cons (pe_op op_add (pe_op op_mulW (pe_ix ix_tup (pv 0) pe_int (fun _ _ => rfl)) (pe_ix ix_tup (pv 1) pe_int (fun _ _ => rfl))) (pe_op op_mulW (pe_ix ix_tup (pv 1) pe_int (fun _ _ => rfl)) (pe_ix ix_tup (pv 0) pe_int (fun _ _ => rfl))))
      (pa_cons (pe_op op_mulW (pe_ix ix_tup (pv 0) pe_int (fun _ _ => rfl)) (pe_ix ix_tup (pv 1) pe_int (fun _ _ => rfl))) pa_nil)))), ?_⟩
    refine ⟨_, rfl, a, _, _, _, rfl, rfl, h1, atI_nat (j := 0) rfl, _, rfl, b, _, _, _, rfl, rfl, h2, atI_nat (j := 1) rfl, _, _, rfl, rfl, d1.big.c d2.low,
      _, rfl, b, _, _, _, rfl, rfl, h2, atI_nat (j := 0) rfl, _, rfl, a, _, _, _, rfl, rfl, h1, atI_nat (j := 1) rfl, _, _, rfl, rfl, d2.big.c d1.low, _, _, rfl, rfl,
      _, rfl, a, _, _, _, rfl, rfl, h1, atI_nat (j := 1) rfl, _, rfl, b, _, _, _, rfl, rfl, h2, atI_nat (j := 1) rfl, _, _, rfl, rfl, d1.low.c d2.low, ?_⟩
    exact ⟨_, _, rfl, Int.mul_pos d1.pos d2.pos, wide_lt d1.low d2.low, fun p hp => k p hp⟩
theorem ok_lless (F : Fun K "_law_less" "_law_less" sLLess f fd) (C : Cal P w K mg base 1 "_law_ratio" spLRatio) : FnOk P w K mg base CX0 2 f fd ["one", "other"] (spOp K sub domL) := by
  refine F.ok (scLOp 62 (by decide)) (fun vs H Q E h => ?_) (fun cdv A outer s H vs Q E hr h => ?_)
  · obtain ⟨x, y, q, r, rfl, _⟩ := h
    rfl
  · obtain ⟨x, y, q, r, rfl, ⟨a, rfl, h1⟩, ⟨b, rfl, h2⟩, ⟨d1, d2⟩, k⟩ := h
    refine ⟨_, pss_one (ps_ret (pe_n C hr (by decide) (by rfl) (pa_cons (pe_op op_sub (pe_op op_mulW (pe_ix ix_tup (pv 0) pe_int (fun _ _ => rfl)) (pe_ix ix_tup (pv 1) pe_int (fun _ _ => rfl))) (pe_op op_mulW (pe_ix ix_tup (pv 1) pe_int (fun _ _ => rfl)) (pe_ix ix_tup (pv 0) pe_int (fun _ _ => rfl))))
      (pa_cons (pe_op op_mulW (pe_ix ix_tup (pv 0) pe_int (fun _ _ => rfl)) (pe_ix ix_tup (pv 1) pe_int (fun _ _ => rfl))) pa_nil)))), ?_⟩
    refine ⟨_, rfl, a, _, _, _, rfl, rfl, h1, atI_nat (j := 0) rfl, _, rfl, b, _, _, _, rfl, rfl, h2, atI_nat (j := 1) rfl, _, _, rfl, rfl, d1.big.c d2.low,
      _, rfl, b, _, _, _, rfl, rfl, h2, atI_nat (j := 0) rfl, _, rfl, a, _, _, _, rfl, rfl, h1, atI_nat (j := 1) rfl, _, _, rfl, rfl, d2.big.c d1.low, _, _, rfl, rfl,
      _, rfl, a, _, _, _, rfl, rfl, h1, atI_nat (j := 1) rfl, _, rfl, b, _, _, _, rfl, rfl, h2, atI_nat (j := 1) rfl, _, _, rfl, rfl, d1.low.c d2.low, ?_⟩
    exact ⟨_, _, rfl, Int.mul_pos d1.pos d2.pos, wide_lt d1.low d2.low, fun p hp => k p hp⟩
theorem ok_ltimes (F : Fun K "_law_times" "_law_times" sLTimes f fd) (C : Cal P w K mg base 1 "_law_ratio" spLRatio) : FnOk P w K mg base CX0 2 f fd ["one", "other"] (spOp K mul domL) := by
  refine F.ok (scLOp 63 (by decide)) (fun vs H Q E h => ?_) (fun cdv A outer s H vs Q E hr h => ?_)
  · obtain ⟨x, y, q, r, rfl, _⟩ := h
    rfl
  · obtain ⟨x, y, q, r, rfl, ⟨a, rfl, h1⟩, ⟨b, rfl, h2⟩, ⟨d1, d2⟩, k⟩ := h
    refine ⟨_, pss_one (ps_ret (pe_n C hr (by decide) (by rfl) (pa_cons (pe_op op_mulW (pe_ix ix_tup (pv 0) pe_int (fun _ _ => rfl)) (pe_ix ix_tup (pv 1) pe_int (fun _ _ => rfl)))
      (pa_cons (pe_op op_mulW (pe_ix ix_tup (pv 0) pe_int (fun _ _ => rfl)) (pe_ix ix_tup (pv 1) pe_int (fun _ _ => rfl))) pa_nil)))), ?_⟩
    refine ⟨_, rfl, a, _, _, _, rfl, rfl, h1, atI_nat (j := 0) rfl, _, rfl, b, _, _, _, rfl, rfl, h2, atI_nat (j := 0) rfl, _, _, rfl, rfl, d1.big.c d2.big,
      _, rfl, a, _, _, _, rfl, rfl, h1, atI_nat (j := 1) rfl, _, rfl, b, _, _, _, rfl, rfl, h2, atI_nat (j := 1) rfl, _, _, rfl, rfl, d1.low.c d2.low, ?_⟩
    exact ⟨_, _, rfl, Int.mul_pos d1.pos d2.pos, wide_lt d1.low d2.low, fun p hp => k p hp⟩
/-- _law_power(one, many): one in least terms -/
def spLPower (K : PySem.W.Frag) : Sp := fun vs H Q _ => ∃ (x : V) (q : F) (n : Int), vs = [x, .int n] ∧ Fr K H x q ∧ Ok q ∧ Lt2 6 q.1 ∧ Lt2 6 q.2 ∧ 0 ≤ n ∧ n ≤ 20 ∧ ∀ H' p, Same H H' → H' p = some (fr (pw q n.toNat)) → Q (.ref p) H'
/-- _law_divided(one, far): the quotient, far not nought -/
def spLDivided (K : PySem.W.Frag) : Sp := fun vs H Q _ => ∃ (x y : V) (q r : F), vs = [x, y] ∧ Fr K H x q ∧ Fr K H y r ∧ domL q r ∧ r.1 ≠ 0 ∧ ∀ H' p, Same H H' → H' p = some (fr (div q r)) → Q (.ref p) H'
theorem lt2_neg {n : Nat} {x : Int} (h : Lt2 n x) : Lt2 n (-x) := by
  unfold Lt2 at h ⊢
  rw [Int.natAbs_neg]
  exact h
end
abbrev sLOver : Stmt := top 64
abbrev sLUnder : Stmt := top 65
abbrev sLPower : Stmt := top 68
abbrev sDivided : Stmt := top 8
def domP (q r : F) : Prop := Dm q ∧ Dm r ∧ 0 < r.1
section
variable {P : Program} {w : World} {K : PySem.W.Frag} {mg : Str → Option Value} {base : Heap} {f : Addr} {fd : FuncData}
theorem scDivided : FnScope ["one", "other"] ["one", "other"] (defScope sDivided) := ⟨rfl, rfl, rfl, by decide +kernel, rfl, by decide +kernel, by decide +kernel⟩
theorem ok_divided (F : Fun K "divided" "divided" sDivided f fd) (C : Cal P w K mg base 1 "reduced" spReduced) : FnOk P w K mg base CX0 2 f fd ["one", "other"] (spOp K divL domP) := by
  refine F.ok scDivided (fun vs H Q E h => ?_) (fun cdv A outer s H vs Q E hr h => ?_)
  · obtain ⟨x, y, q, r, rfl, _⟩ := h
    rfl
  · obtain ⟨x, y, q, r, rfl, ⟨a, rfl, h1⟩, ⟨b, rfl, h2⟩, ⟨d1, d2, n0⟩, k⟩ := h
    refine ⟨_, pss_one (ps_ret (pe_n C hr (by decide) (by rfl) (pa_cons (pe_op op_mulW (pe_ix ix_tup (pv 0) pe_int (fun _ _ => rfl)) (pe_ix ix_tup (pv 1) pe_int (fun _ _ => rfl)))
      (pa_cons (pe_op op_mulW (pe_ix ix_tup (pv 0) pe_int (fun _ _ => rfl)) (pe_ix ix_tup (pv 1) pe_int (fun _ _ => rfl))) pa_nil)))), ?_⟩
    refine ⟨_, rfl, a, _, _, _, rfl, rfl, h1, atI_nat (j := 0) rfl, _, rfl, b, _, _, _, rfl, rfl, h2, atI_nat (j := 1) rfl, _, _, rfl, rfl, d1.big.c d2.l2,
      _, rfl, a, _, _, _, rfl, rfl, h1, atI_nat (j := 1) rfl, _, rfl, b, _, _, _, rfl, rfl, h2, atI_nat (j := 0) rfl, _, _, rfl, rfl, d1.l2.c d2.big, ?_⟩
    exact ⟨_, _, rfl, Int.mul_pos d1.pos n0, lt2m d1.low d2.big, fun p hp => k p hp⟩
theorem ok_lover (F : Fun K "_law_over" "_law_over" sLOver f fd) (C : Cal P w K mg base 1 "_law_ratio" spLRatio) : FnOk P w K mg base CX0 2 f fd ["one", "other"] (spOp K divL domLD) := by
  refine F.ok (scLOp 64 (by decide)) (fun vs H Q E h => ?_) (fun cdv A outer s H vs Q E hr h => ?_)
  · obtain ⟨x, y, q, r, rfl, _⟩ := h
    rfl
  · obtain ⟨x, y, q, r, rfl, ⟨a, rfl, h1⟩, ⟨b, rfl, h2⟩, ⟨d1, d2, n0⟩, k⟩ := h
    refine ⟨_, pss_one (ps_ret (pe_n C hr (by decide) (by rfl) (pa_cons (pe_op op_mulW (pe_ix ix_tup (pv 0) pe_int (fun _ _ => rfl)) (pe_ix ix_tup (pv 1) pe_int (fun _ _ => rfl)))
      (pa_cons (pe_op op_mulW (pe_ix ix_tup (pv 0) pe_int (fun _ _ => rfl)) (pe_ix ix_tup (pv 1) pe_int (fun _ _ => rfl))) pa_nil)))), ?_⟩
    refine ⟨_, rfl, a, _, _, _, rfl, rfl, h1, atI_nat (j := 0) rfl, _, rfl, b, _, _, _, rfl, rfl, h2, atI_nat (j := 1) rfl, _, _, rfl, rfl, d1.big.c d2.low,
      _, rfl, a, _, _, _, rfl, rfl, h1, atI_nat (j := 1) rfl, _, rfl, b, _, _, _, rfl, rfl, h2, atI_nat (j := 0) rfl, _, _, rfl, rfl, d1.low.c d2.big, ?_⟩
    exact ⟨_, _, rfl, Int.mul_pos d1.pos n0, wide_lt d1.low d2.big, fun p hp => k p hp⟩
theorem ok_lunder (F : Fun K "_law_under" "_law_under" sLUnder f fd) : FnOk P w K mg base CX0 1 f fd ["one", "other"] (spLt' K) := by
  refine F.ok (scLOp 65 (by decide)) (fun vs H Q E h => ?_) (fun cdv A outer s H vs Q E hr h => ?_)
  · obtain ⟨x, y, q, r, rfl, _⟩ := h
    rfl
  · obtain ⟨x, y, q, r, rfl, ⟨a, rfl, h1⟩, ⟨b, rfl, h2⟩, ⟨d1, d2⟩, k⟩ := h
    refine ⟨_, pss_one (ps_ret (pe_cmpR op_lt (pe_op op_mulW (pe_ix ix_tup (pv 0) pe_int (fun _ _ => rfl)) (pe_ix ix_tup (pv 1) pe_int (fun _ _ => rfl))) (pe_op op_mulW (pe_ix ix_tup (pv 1) pe_int (fun _ _ => rfl)) (pe_ix ix_tup (pv 0) pe_int (fun _ _ => rfl))) (nomark _))), ?_⟩
    exact ⟨_, rfl, a, _, _, _, rfl, rfl, h1, atI_nat (j := 0) rfl, _, rfl, b, _, _, _, rfl, rfl, h2, atI_nat (j := 1) rfl, _, _, rfl, rfl, d1.big.c d2.low,
      _, rfl, b, _, _, _, rfl, rfl, h2, atI_nat (j := 0) rfl, _, rfl, a, _, _, _, rfl, rfl, h1, atI_nat (j := 1) rfl, _, _, rfl, rfl, d2.big.c d1.low, _, _, rfl, rfl, k⟩
theorem scLPower : FnScope ["one", "many", "found_so", "k"] ["one", "many"] (defScope sLPower) := ⟨rfl, rfl, rfl, by decide +kernel, rfl, by decide +kernel, by decide +kernel⟩
theorem ok_lpower (F : Fun K "_law_power" "_law_power" sLPower f fd) (T : Blt mg) (C : Cal P w K mg base 2 "_law_times" (spOp K mul domL)) : FnOk P w K mg base CX0 3 f fd ["one", "many"] (spLPower K) := by
  refine F.ok scLPower (fun vs H Q E h => ?_) (fun cdv A outer s H vs Q E hr h => ?_)
  · obtain ⟨x, q, n, rfl, _⟩ := h
    rfl
  · obtain ⟨x, q, n, rfl, hx, oq, b1, b2, n0, n1, k⟩ := h
    refine ⟨_, pss_cons (ps_set (i := 2) scLPower.nd rfl (Or.inl rfl) (pe_tup (pa_cons pe_int (pa_cons pe_int pa_nil))))
      (pss_cons (ps_for PassesOwn.never rfl (pi_range1 rfl T.range (pa_cons (pv 1) pa_nil)) (pg_name (i := 3) scLPower.nd rfl (Or.inl rfl))
        (pss_one (ps_set (i := 2) scLPower.nd rfl (Or.inl rfl) (pe_n C hr (by decide) (by rfl) (pa_cons (pv 2) (pa_cons (pv 0) pa_nil))))))
      (pss_one (ps_ret (pv 2)))), ?_⟩
    refine ⟨(by show 2 ≤ sizeLine; decide), fun p0 hp0 => ?_⟩
    refine ⟨_, rfl, n, rfl, by omega, by omega, for_range (n := n.toNat) (fun i σ H' => Same H H' ∧ ∃ (p : Addr) (v : Option V), H' p = some (fr (pw q i)) ∧ σ = [some x, some (V.int n), some (V.ref p), v])
      ⟨same_new hp0, p0, none, upd_same.trans (by show some (HO.tup [V.int 1, V.int 1]) = some (HO.tup [V.int (q.1 ^ 0), V.int (q.2 ^ 0)]); rw [Int.pow_zero, Int.pow_zero]), rfl⟩ ?_ ?_⟩
    · rintro i σ H' hi ⟨sm, p, v, hp, rfl⟩
      have hi2 : i ≤ 20 := by omega
      refine ⟨_, rfl, _, rfl, _, _, pw q i, q, rfl, Fr.of hp, hx.mono sm, ⟨⟨(pow_lt2 b1 hi2).mono (by decide), (pw_ok oq i).1, (pow_lt2 b2 hi2).mono (by decide)⟩, ⟨b1.mono (by decide), oq.1, b2.mono (by decide)⟩⟩, fun p1 h1 => ?_⟩
      refine ⟨sm.trans (same_new h1), p1, some (V.int (0 + i)), ?_, rfl⟩
      rw [← pw_succ q i oq]
      exact upd_same
    · rintro σ H' ⟨sm, p, v, hp, rfl⟩
      exact ⟨_, rfl, k H' p sm hp⟩
end
end Rs


set_option Elab.async false
set_option linter.all false
set_option maxRecDepth 100000
set_option maxHeartbeats 400000
namespace Rs
open PySem L2 Bs Fq
abbrev sBegin : Stmt := top 58
abbrev sDraw : Stmt := top 59
abbrev sSmall : Stmt := top 73
/-! ### the state -/
def dS (c l : Addr) (t : Int) : List (Key × V) := [(Sum.inr "cells", .ref c), (Sum.inr "lefts", .ref l), (Sum.inr "at", .int t), (Sum.inr "room", .int 0)]
theorem val_cells (c l : Addr) (t : Int) : valV (dS c l t) (Sum.inr "cells") = some (.ref c) := by rfl
theorem val_lefts (c l : Addr) (t : Int) : valV (dS c l t) (Sum.inr "lefts") = some (.ref l) := by rfl
theorem val_at (c l : Addr) (t : Int) : valV (dS c l t) (Sum.inr "at") = some (.int t) := by rfl
theorem put_at (c l : Addr) (t u : Int) : putK (dS c l t) (Sum.inr "at") (.int u) = dS c l u := by rfl
structure Sta (H : Hp) (p c l : Addr) (n : Nat) (t : Int) : Prop where
  d : H p = some (.dK (dS c l t))
  cs : ∃ cs : List Int, H c = some (.lst (cs.map V.int)) ∧ cs.length = n
  ls : ∃ ls : List Int, H l = some (.lst (ls.map V.int)) ∧ ls.length = n ∧ ∀ z ∈ ls, 0 ≤ z
  ne : c ≠ l
  n1 : 1 ≤ n
  n2 : n ≤ 63
  t0 : 0 ≤ t
section
variable {H H' : Hp} {p c l : Addr} {n : Nat} {t : Int}
theorem Sta.gCells (S : Sta H p c l n t) : DGet H p (.str "cells") (some (.ref c)) := by
  have := DGet.k (k := (Sum.inr "cells" : Key)) S.d
  rwa [val_cells] at this
theorem Sta.gLefts (S : Sta H p c l n t) : DGet H p (.str "lefts") (some (.ref l)) := by
  have := DGet.k (k := (Sum.inr "lefts" : Key)) S.d
  rwa [val_lefts] at this
theorem Sta.gAt (S : Sta H p c l n t) : DGet H p (.str "at") (some (.int t)) := by
  have := DGet.k (k := (Sum.inr "at" : Key)) S.d
  rwa [val_at] at this
theorem Sta.pc (S : Sta H p c l n t) : p ≠ c := by
  obtain ⟨cs, h, _⟩ := S.cs
  exact ne_of S.d h (by intro z; cases z)
theorem Sta.pl (S : Sta H p c l n t) : p ≠ l := by
  obtain ⟨ls, h, _⟩ := S.ls
  exact ne_of S.d h (by intro z; cases z)
theorem Sta.mono (S : Sta H p c l n t) (e : Same H H') : Sta H' p c l n t := by
  obtain ⟨cs, a1, a2⟩ := S.cs
  obtain ⟨ls, b1, b2⟩ := S.ls
  exact ⟨e _ _ S.d, ⟨cs, e _ _ a1, a2⟩, ⟨ls, e _ _ b1, b2⟩, S.ne, S.n1, S.n2, S.t0⟩
/-- the state alone was changed -/
def Kp (p l : Addr) (H H' : Hp) : Prop := ∀ b o, H b = some o → b ≠ p → b ≠ l → H' b = some o
theorem Kp.trans {H1 H2 H3 : Hp} (a : Kp p l H1 H2) (b : Kp p l H2 H3) : Kp p l H1 H3 := fun x o e n1 n2 => b x o (a x o e n1 n2) n1 n2
theorem Kp.of (e : Same H H') : Kp p l H H' := fun x o h _ _ => e x o h
theorem Kp.fr {K : PySem.W.Frag} {v : V} {q : F} (k : Kp p l H H') (S : Sta H p c l n t) (h : Fr K H v q) : Fr K H' v q := by
  obtain ⟨a, rfl, s⟩ := h
  obtain ⟨ls, b1, _⟩ := S.ls
  refine ⟨a, rfl, ?_⟩
  rcases s with (s | ⟨o, s⟩) | s
  · exact .inl (.inl (k a _ s (ne_of s S.d (by intro z; cases z)) (ne_of s b1 (by intro z; cases z))))
  · exact .inl (.inr ⟨o, k a _ s (ne_of s S.d (by intro z; cases z)) (ne_of s b1 (by intro z; cases z))⟩)
  · exact .inr s
end
/-- _law_draw(state, many) -/
def spDraw : Sp := fun vs H Q _ => ∃ (p c l : Addr) (n : Nat) (t m : Int), vs = [.ref p, .int m] ∧ Sta H p c l n t ∧ t ≤ 10000 ∧ 1 ≤ m ∧ m < 1000000 ∧
  ∀ (H' : Hp) (r : Int), 0 ≤ r → r < m → Sta H' p c l n (t + 1) → Kp p l H H' → Q (.int r) H'
section
variable {P : Program} {w : World} {K : PySem.W.Frag} {mg : Str → Option Value} {base : Heap} {f : Addr} {fd : FuncData}
theorem scDraw : FnScope ["state", "many", "at", "place", "left", "number"] ["state", "many"] (defScope sDraw) := ⟨rfl, rfl, rfl, by decide +kernel, rfl, by decide +kernel, by decide +kernel⟩
theorem int_at {cs : List Int} {i : Nat} (h : i < cs.length) : ∃ z, cs[i]? = some z ∧ (cs.map V.int)[i]? = some (V.int z) := by
  refine ⟨cs[i], List.getElem?_eq_getElem h, ?_⟩
  rw [List.getElem?_map, List.getElem?_eq_getElem h]
  rfl
theorem ok_draw (F : Fun K "_law_draw" "_law_draw" sDraw f fd) (T : Blt mg) (C : Cal P w K mg base 1 "_law_mixed" spMixed) : FnOk P w K mg base CX0 2 f fd ["state", "many"] spDraw := by
  refine F.ok scDraw (fun vs H Q E h => ?_) (fun cdv A outer s H vs Q E hr h => ?_)
  · obtain ⟨p, c, l, n, t, m, rfl, _⟩ := h
    rfl
  · obtain ⟨p, c, l, n, t, m, rfl, S, ht, m1, m2, k⟩ := h
    have hu := hu_of hr
    refine ⟨_, pss_cons (ps_set (i := 2) scDraw.nd rfl (Or.inl rfl) (pe_dget hu (pv 0) pe_str (fun _ _ => rfl)))
      (pss_cons (ps_dput hu (pv 0) pe_str (pe_op op_add (pv 2) pe_int) rfl)
      (pss_cons (ps_set (i := 3) scDraw.nd rfl (Or.inl rfl) (pe_op op_mod (pe_callTy call_int1 (by rfl) T.int (by decide +kernel) (pa_cons (pv 2) pa_nil)) (pe_callB call_len_seq (by rfl) T.len PySem.boot_len (pa_cons (pe_dget hu (pv 0) pe_str (fun _ _ => rfl)) pa_nil))))
      (pss_cons (ps_set (i := 4) scDraw.nd rfl (Or.inl rfl) (pe_ix ix_list (pe_dget hu (pv 0) pe_str (fun _ _ => rfl)) (pv 3) (fun _ _ => rfl)))
      (pss_cons (ps_if (pt_cmpR op_gt (pv 4) pe_int (nomark _))
        (pss_cons (ps_asg (pe_op op_fdivN (pv 4) (pv 1)) (pg_sub (pe_dget hu (pv 0) pe_str (fun _ _ => rfl)) (pv 3) set_list))
          (pss_one (ps_ret (pe_op op_mod (pe_callTy call_int1 (by rfl) T.int (by decide +kernel) (pa_cons (pv 4) pa_nil)) (pv 1))))) pss_nil)
      (pss_cons (ps_set (i := 5) scDraw.nd rfl (Or.inl rfl) (pe_n C hr (by decide) (by rfl) (pa_cons (pe_n C hr (by decide) (by rfl) (pa_cons (pe_ix ix_list (pe_dget hu (pv 0) pe_str (fun _ _ => rfl)) (pv 3) (fun _ _ => rfl)) (pa_cons (pv 2) pa_nil))) (pa_cons (pe_op op_add pe_int (pv 2)) pa_nil))))
      (pss_one (ps_ret (pe_op op_mod (pe_op op_fdiv (pe_callTy call_int1 (by rfl) T.int (by decide +kernel) (pa_cons (pe_op op_add (pe_op op_mul (pv 5) pe_int) (pe_n C hr (by decide) (by rfl) (pa_cons (pv 5) (pa_cons (pe_op op_add pe_int (pv 2)) pa_nil)))) pa_nil)) pe_int) (pv 1))))))))), ?_⟩
    refine ⟨_, rfl, p, _, rfl, S.gAt, ?_⟩
    have S1 : Sta (upd H p (.dK (dS c l (t + 1)))) p c l n (t + 1) := by
      obtain ⟨cs, a1, a2⟩ := S.cs
      obtain ⟨ls, b1, b2, b3⟩ := S.ls
      exact ⟨upd_same, ⟨cs, by rw [upd_ne S.pc.symm]; exact a1, a2⟩, ⟨ls, by rw [upd_ne S.pl.symm]; exact b1, b2, b3⟩, S.ne, S.n1, S.n2, by have := S.t0; omega⟩
    have k1 : Kp p l H (upd H p (.dK (dS c l (t + 1)))) := fun b o e n1 _ => (upd_ne n1).trans e
    refine ⟨_, rfl, _, _, rfl, rfl, _, rfl, p, _, rfl, DPut.k (k := Sum.inr "at") S.d (by show 4 < sizeLine; decide), ?_⟩
    rw [put_at]
    generalize upd H p (.dK (dS c l (t + 1))) = H1 at S1 k1 ⊢
    obtain ⟨cs, a1, a2⟩ := S1.cs
    obtain ⟨ls, b1, b2, b3⟩ := S1.ls
    have n1 := S.n1
    have t0 := S.t0
    have r0 := Int.emod_nonneg t (b := (n : Int)) (by omega)
    have r1 := Int.emod_lt_of_pos t (b := (n : Int)) (by omega)
    obtain ⟨i, hi⟩ : ∃ i : Nat, t % (n : Int) = (i : Int) := ⟨(t % (n : Int)).toNat, by omega⟩
    have hin : i < n := by omega
    obtain ⟨zc, c1, c2⟩ := int_at (cs := cs) (i := i) (by omega)
    obtain ⟨zl, l1, l2⟩ := int_at (cs := ls) (i := i) (by omega)
    have zl0 : 0 ≤ zl := b3 zl (List.mem_of_getElem? l1)
    refine ⟨_, rfl, .inl ⟨t, rfl, _, rfl, p, _, rfl, S1.gCells, c, _, rfl, .inl (SqL.of a1), _, _, rfl, rfl, ?_, ?_⟩⟩
    · show (0 : Int) < ((cs.map V.int).length : Nat)
      rw [List.length_map, a2]
      omega
    · rw [List.length_map, a2]
      have l3 : atI (ls.map V.int) (t % (n : Int)) = some (V.int zl) := by
        rw [hi]
        exact atI_nat l2
      have c3 : atI (cs.map V.int) (t % (n : Int)) = some (V.int zc) := by
        rw [hi]
        exact atI_nat c2
      have hix : ixN (ls.map V.int).length (t % (n : Int)) = some i := by
        rw [hi, List.length_map, b2]
        unfold ixN
        rw [if_pos (by omega), if_pos (by omega)]
        simp
      refine ⟨_, rfl, p, _, rfl, S1.gLefts, _, rfl, l, _, _, _, rfl, rfl, SqL.of b1, l3, ?_⟩
      refine ⟨_, rfl, _, _, rfl, rfl, _, rfl, ?_⟩
      refine ite2 (fun q => ?_) (fun q => ?_)
      · refine ⟨_, rfl, _, rfl, _, _, rfl, rfl, ⟨by omega, by omega⟩, ?_⟩
        refine ⟨_, rfl, p, _, rfl, S1.gLefts, _, rfl, l, _, _, i, rfl, rfl, b1, hix, ?_⟩
        refine ⟨_, rfl, .inl ⟨zl, rfl, _, rfl, _, _, rfl, rfl, (by show (0 : Int) < m; omega), ?_⟩⟩
        refine k _ _ (Int.emod_nonneg _ (by omega)) (Int.emod_lt_of_pos _ (by omega)) ⟨?_, ⟨cs, ?_, a2⟩, ⟨ls.set i (zl.fdiv m), ?_, ?_, ?_⟩, S1.ne, S1.n1, S1.n2, S1.t0⟩ (k1.trans (fun b o e _ n2 => (upd_ne n2).trans e))
        · rw [upd_ne S1.pl]
          exact S1.d
        · rw [upd_ne S1.ne]
          exact a1
        · rw [upd_same, List.map_set]
        · rw [List.length_set, b2]
        · intro z hz
          rcases List.mem_or_eq_of_mem_set hz with h | h
          · exact b3 z h
          · rw [h, Int.fdiv_eq_ediv_of_nonneg _ (by omega)]
            exact Int.ediv_nonneg zl0 (by omega)
      · refine ⟨_, rfl, p, _, rfl, S1.gCells, _, rfl, c, _, _, _, rfl, rfl, SqL.of a1, c3, _, rfl, zc, t, rfl, t0, by omega, fun x x0 x1 => ?_⟩
        refine ⟨_, rfl, _, _, rfl, rfl, x, 40 + t, rfl, by omega, by omega, fun y y0 y1 => ?_⟩
        refine ⟨_, rfl, _, _, rfl, rfl, .inl ⟨by omega, by omega⟩, _, rfl, _, rfl, _, _, rfl, rfl, y, 7 + t, rfl, by omega, by omega, fun z z0 z1 => ?_⟩
        refine ⟨_, _, rfl, rfl, .inl ⟨_, rfl, _, _, rfl, rfl, ⟨by decide, by decide⟩, _, rfl, _, _, rfl, rfl, (by show (0 : Int) < m; omega), ?_⟩⟩
        exact k _ _ (Int.emod_nonneg _ (by omega)) (Int.emod_lt_of_pos _ (by omega)) S1 k1
end
end Rs


set_option Elab.async false
set_option linter.all false
set_option maxRecDepth 100000
set_option maxHeartbeats 400000
namespace Rs
open PySem L2 Bs Fq
/-- _law_begin(script) -/
def spBegin (K : PySem.W.Frag) : Sp := fun vs H Q _ => ∃ (a : Addr) (ns : List Int), vs = [.ref a] ∧ SqL K H a (ns.map V.int) ∧ ns.length ≤ 63 ∧
  ∀ (H' : Hp) (p c l : Addr) (n : Nat), Same H H' → H p = none → H l = none → Sta H' p c l n 0 → Q (.ref p) H'
/-- _law_of(state, some) -/
def spOf (K : PySem.W.Frag) : Sp := fun vs H Q _ => ∃ (p c l b : Addr) (n : Nat) (t : Int) (xs : List V), vs = [.ref p, .ref b] ∧ Sta H p c l n t ∧ t ≤ 10000 ∧ SqL K H b xs ∧ 1 ≤ xs.length ∧ xs.length ≤ 1000 ∧ b ≠ l ∧
  ∀ (H' : Hp) (v : V), v ∈ xs → Sta H' p c l n (t + 1) → Kp p l H H' → Q v H'
/-- _law_small(state) -/
def spSmall : Sp := fun vs H Q _ => ∃ (p c l : Addr) (n : Nat) (t : Int), vs = [.ref p] ∧ Sta H p c l n t ∧ t ≤ 9000 ∧
  ∀ (H' : Hp) (b : Addr) (x y : Int), -6 ≤ x → x ≤ 6 → 1 ≤ y → y ≤ 3 → H' b = some (fr (red x y)) → Sta H' p c l n (t + 2) → Kp p l H H' → Q (.ref b) H'
section
variable {P : Program} {w : World} {K : PySem.W.Frag} {mg : Str → Option Value} {base : Heap} {f : Addr} {fd : FuncData}
theorem scBegin : FnScope ["script", "cells", "cell"] ["script"] (defScope sBegin) := ⟨rfl, rfl, rfl, by decide +kernel, rfl, by decide +kernel, by decide +kernel⟩
theorem dp_ints {K : PySem.W.Frag} {H : Hp} : ∀ ns : List Int, DpAll K H (ns.map V.int) (ns.map PyData.int)
  | [] => .nil
  | n :: ns => .cons (.int n) (dp_ints ns)
def left (z : Int) : Int := if z ≥ 10 ^ 18 then z else 0
theorem left_nonneg (z : Int) : 0 ≤ left z := by
  unfold left
  split
  · have : (0 : Int) ≤ 10 ^ 18 := by decide
    omega
  · omega
theorem can_ints : ∀ ns : List Int, PyData.canLayAll0 (ns.map PyData.int) = true
  | [] => by simp [PyData.canLayAll0]
  | n :: ns => by
    have := can_ints ns
    simp [PyData.canLayAll0, PyData.canLay0, this]
theorem dep_ints : ∀ ns : List Int, PyData.depthAll (ns.map PyData.int) ≤ 1
  | [] => by simp [PyData.depthAll]
  | n :: ns => by
    have := dep_ints ns
    simp only [List.map_cons, PyData.depthAll, PyData.depth]
    omega
theorem shaped_ints (ns : List Int) : SeqAt.shaped (.list (ns.map PyData.int)) = true := by
  unfold SeqAt.shaped
  rw [Bool.and_eq_true_iff]
  refine ⟨?_, decide_eq_true ?_⟩
  · simpa [PyData.canLay0] using can_ints ns
  · have := dep_ints ns
    simp only [PyData.depth]
    omega
theorem some_int {cs : List Int} {i : Nat} {x : V} (h : (cs.map V.int)[i]? = some x) : ∃ z, cs[i]? = some z ∧ x = V.int z := by
  rw [List.getElem?_map] at h
  cases e : cs[i]? with
  | none =>
    rw [e] at h
    cases h
  | some z =>
    rw [e] at h
    exact ⟨z, rfl, (Option.some.inj h).symm⟩
theorem take_one {α : Type} {l : List α} {i : Nat} {x : α} (h : l[i]? = some x) : l.take (i + 1) = l.take i ++ [x] := by
  rw [List.take_add_one, h]
  rfl
theorem ok_begin (F : Fun K "_law_begin" "_law_begin" sBegin f fd) (T : Blt mg) : FnOk P w K mg base CX0 2 f fd ["script"] (spBegin K) := by
  refine F.ok scBegin (fun vs H Q E h => ?_) (fun cdv A outer s H vs Q E hr h => ?_)
  · obtain ⟨a, ns, rfl, _⟩ := h
    rfl
  · obtain ⟨a, ns, rfl, hS, hl, k⟩ := h
    refine ⟨_, C8.pss_cut (ps_set (i := 1) scBegin.nd rfl (Or.inl rfl) (pe_ifExp (pt_cmpR (op_neD hr.units) (pv 0) (pe_lst pa_nil) (nomark _)) (pe_callTy call_list_of (by rfl) T.list (by decide +kernel) (pa_cons (pv 0) pa_nil)) (pe_lst (pa_cons pe_int pa_nil))))
      (pss_one (ps_ret (pe_disp (pps_cons pe_str (pv 1) (pps_cons pe_str (pe_lc (own := [("cell", 2)]) (g := gName 2) (tt := tYes) rfl scBegin.nd (pi_list (pv 1)) (blkOk_by (N := ["script", "cells", "cell"]) (sc := defScope sBegin) (by decide +kernel))
          (fun _ _ _ _ _ => pg_name (i := 2) scBegin.nd rfl (Or.inl rfl)) (fun _ _ _ _ _ => pts_nil) (fun _ _ _ _ _ => pe_ifExp (pt_cmpR op_ge (pv 2) (pe_op op_pow pe_int pe_int) (nomark _)) (pv 2) pe_int))
        (pps_cons pe_str pe_int (pps_cons pe_str pe_int pps_nil)))) (by rfl) (by rfl) (fun z => by cases z) (by decide)))), ?_⟩
    refine ⟨fun σ H1 => ∃ (c : Addr) (cs : List Int), Same H H1 ∧ H1 c = some (.lst (cs.map V.int)) ∧ 1 ≤ cs.length ∧ cs.length ≤ 63 ∧ σ = [some (V.ref a), some (V.ref c), none], ?_, ?_⟩
    · refine ⟨_, rfl, (by show 0 ≤ sizeLine; decide), fun p0 hp0 => ?_⟩
      have s0 : Same H (upd H p0 (.lst [])) := same_new hp0
      refine ⟨.list (ns.map PyData.int), .list [], .lst (s0.seq hS) (dp_ints ns), .lst (SqL.of upd_same) .nil, ?_, rfl, _, rfl, ?_⟩
      · exact shaped_ints ns
      · have e : PyData.eqv (.list (ns.map PyData.int)) (.list []) = ns.isEmpty := by
          cases ns <;> rfl
        show if (!PyData.eqv (.list (ns.map PyData.int)) (.list [])) = true then _ else _
        rw [e]
        cases hn : ns with
        | nil =>
          refine iteF ⟨(by show 1 ≤ sizeLine; decide), fun p1 hp1 => ?_⟩
          exact ⟨p1, [0], s0.trans (same_new hp1), upd_same, Nat.le_refl _, (by show 1 ≤ 63; decide), rfl⟩
        | cons n ns' =>
          refine iteT ⟨_, rfl, a, _, rfl, .inl (s0.seq hS), fun p1 hp1 => ?_⟩
          exact ⟨p1, ns, s0.trans (same_new hp1), upd_same, by rw [hn]; exact Nat.succ_le_succ (Nat.zero_le _), hl, rfl⟩
    · rintro σ H1 ⟨c, cs, s1, hc, l1, l2, rfl⟩
      intro p hp
      have sp : Same H1 (upd H1 p (.dK [])) := same_new hp
      refine ⟨_, rfl, ?_⟩
      have np : H1 p = none := hp
      have hpc : c ≠ p := ne_of_none hc np
      refine ⟨_, rfl, c, rfl, ⟨_, SqL.of (sp _ _ hc)⟩, fun D hD => lc_list (K := K) (a := c) (xs := cs.map V.int)
        (fun i H2 => Same (upd H1 p (.dK [])) H2 ∧ H2 D = some (.lst ((cs.take i).map (fun z => V.int (left z))))) ⟨same_new hD, upd_same⟩ (fun i H2 _ z => SqL.of (z.1 _ _ (sp _ _ hc))) ?_ ?_⟩
      · rintro i x H2 hx ⟨s2, hD2⟩
        obtain ⟨z, hz, rfl⟩ := some_int hx
        have ln : (cs.take i).length ≤ 63 := by rw [List.length_take]; omega
        have fin : ∀ u : Int, u = left z → ∃ acc, H2 D = some (.lst acc) ∧ acc.length < sizeLine ∧ (Same (upd H1 p (.dK [])) (upd H2 D (.lst (acc ++ [V.int u]))) ∧ upd H2 D (.lst (acc ++ [V.int u])) D = some (.lst ((cs.take (i + 1)).map (fun z => V.int (left z))))) := by
          rintro u rfl
          refine ⟨_, hD2, by rw [List.length_map]; exact small1000 (by omega), fun b o e => ?_, ?_⟩
          · have : b ≠ D := ne_of_none e hD
            exact (upd_ne this).trans (s2 b o e)
          · rw [upd_same, take_one hz, List.map_append]
            rfl
        refine ⟨rfl, ?_⟩
        refine iteT (B := Same (upd H1 p (.dK [])) H2 ∧ H2 D = some (.lst ((cs.take (i + 1)).map (fun z => V.int (left z))))) ?_
        refine ⟨_, rfl, _, _, rfl, rfl, ⟨by decide, by decide, by decide⟩, _, _, rfl, rfl, _, rfl, ?_⟩
        refine ite2 (fun q => ⟨_, rfl, ?_⟩) (fun q => ?_)
        · have q' : z ≥ 10 ^ 18 := of_decide_eq_true q
          exact fin z (show z = left z from (if_pos q').symm)
        · have q' : ¬ z ≥ 10 ^ 18 := fun w => q (decide_eq_true w)
          exact fin 0 (show 0 = left z from (if_neg q').symm)
      · rintro H2 ⟨s2, hD2⟩
        have hpD : p ≠ D := by
          intro z
          rw [← z, upd_same] at hD
          cases hD
        rw [List.length_map, List.take_length] at hD2
        refine ⟨s2 _ _ upd_same, dS c D 0, rfl, (by show 4 ≤ 15; decide), ?_⟩
        have hDn : H1 D = none := by
          rw [upd_ne hpD.symm] at hD
          exact hD
        refine k _ p c D cs.length ?_ ?_ ?_ ⟨upd_same, ⟨cs, ?_, rfl⟩, ⟨cs.map left, ?_, by rw [List.length_map], ?_⟩, ne_of_none hc hDn, l1, l2, Int.le_refl _⟩
        · intro b o e
          have nb : b ≠ p := ne_of_none (s1 b o e) np
          rw [upd_ne nb]
          exact s2 b o (sp b o (s1 b o e))
        · exact s1.free np
        · exact s1.free hDn
        · rw [upd_ne hpc]
          exact s2 _ _ (sp _ _ hc)
        · rw [upd_ne hpD.symm, hD2, List.map_map]
          rfl
        · intro z hz
          obtain ⟨y, _, rfl⟩ := List.mem_map.mp hz
          exact left_nonneg y
end
end Rs


set_option Elab.async false
set_option linter.all false
set_option maxRecDepth 100000
set_option maxHeartbeats 400000
namespace Rs
open PySem L2 Bs Fq
theorem Kp.lst {K : PySem.W.Frag} {H H' : Hp} {p c l b : Addr} {n : Nat} {t : Int} {xs : List V} (k : Kp p l H H') (S : Sta H p c l n t) (h : SqL K H b xs) (nb : b ≠ l) : SqL K H' b xs := by
  rcases h with (s | ⟨o, s⟩) | s
  · exact .inl (.inl (k b _ s (ne_of s S.d (by intro z; cases z)) nb))
  · exact .inl (.inr ⟨o, k b _ s (ne_of s S.d (by intro z; cases z)) nb⟩)
  · exact .inr s
section
variable {P : Program} {w : World} {K : PySem.W.Frag} {mg : Str → Option Value} {base : Heap} {f : Addr} {fd : FuncData}
theorem scSmall : FnScope ["state"] ["state"] (defScope sSmall) := ⟨rfl, rfl, rfl, by decide +kernel, rfl, by decide +kernel, by decide +kernel⟩
theorem ok_small (F : Fun K "_law_small" "_law_small" sSmall f fd) (D : Cal P w K mg base 2 "_law_draw" spDraw) (R : Cal P w K mg base 1 "_law_ratio" spLRatio) : FnOk P w K mg base CX0 3 f fd ["state"] spSmall := by
  refine F.ok scSmall (fun vs H Q E h => ?_) (fun cdv A outer s H vs Q E hr h => ?_)
  · obtain ⟨p, c, l, n, t, rfl, _⟩ := h
    rfl
  · obtain ⟨p, c, l, n, t, rfl, S, t1, k⟩ := h
    refine ⟨_, pss_one (ps_ret (pe_n R hr (by decide) (by rfl) (pa_cons (pe_op op_sub (pe_n D hr (by decide) (by rfl) (pa_cons (pv 0) (pa_cons pe_int pa_nil))) pe_int)
      (pa_cons (pe_op op_add pe_int (pe_n D hr (by decide) (by rfl) (pa_cons (pv 0) (pa_cons pe_int pa_nil)))) pa_nil)))), ?_⟩
    refine ⟨_, rfl, p, c, l, n, t, 13, rfl, S, by omega, by decide, by decide, fun H1 x x0 x1 S1 k1 => ?_⟩
    refine ⟨_, _, rfl, rfl, _, rfl, p, c, l, n, t + 1, 3, rfl, S1, by omega, by decide, by decide, fun H2 y y0 y1 S2 k2 => ?_⟩
    refine ⟨_, _, rfl, rfl, _, _, rfl, by omega, ?_, fun b hb => ?_⟩
    · have : (1 + y).natAbs < 2 ^ 2 := by omega
      exact Lt2.mono (m := 2) this (by decide)
    · have e : t + 1 + 1 = t + 2 := by omega
      rw [e] at S2
      refine k _ b (x - 6) (1 + y) (by omega) (by omega) (by omega) (by omega) upd_same (S2.mono (same_new hb)) ((k1.trans k2).trans (Kp.of (same_new hb)))
end
end Rs


set_option linter.all false
namespace Fq
/-- worth a divided by b -/
def Vl (q : F) (a b : Int) : Prop := q.1 * b = a * q.2
theorem vl_red {a b : Int} (h : 0 < b) : Vl (red a b) a b := by
  have hg := gI_pos (a := a) (b := b) (by omega)
  obtain ⟨x, hx⟩ := gI_dvd_l a b
  obtain ⟨y, hy⟩ := gI_dvd_r a b
  have e1 : a / gI a b = x := Int.ediv_eq_of_eq_mul_right (by omega) hx
  have e2 : b / gI a b = y := Int.ediv_eq_of_eq_mul_right (by omega) hy
  show (a / gI a b) * b = a * (b / gI a b)
  rw [e1, e2]
  generalize gI a b = g at *
  subst hx hy
  grind
theorem mul_cancel {a b m : Int} (hm : m ≠ 0) (h : a * m = b * m) : a = b := Int.eq_of_mul_eq_mul_right hm h
theorem vl_add {q r : F} {a b c d : Int} (hq : 0 < q.2) (hr : 0 < r.2) (h1 : Vl q a b) (h2 : Vl r c d) : Vl (add q r) (a * d + c * b) (b * d) := by
  have hm : 0 < q.2 * r.2 := Int.mul_pos hq hr
  have v := vl_red (a := q.1 * r.2 + r.1 * q.2) hm
  unfold Vl at *
  show (red _ _).1 * _ = _ * (red _ _).2
  generalize red (q.1 * r.2 + r.1 * q.2) (q.2 * r.2) = s at *
  refine mul_cancel (m := q.2 * r.2) (by omega) ?_
  generalize q.1 = q1 at *; generalize q.2 = q2 at *; generalize r.1 = r1 at *; generalize r.2 = r2 at *; generalize s.1 = s1 at *; generalize s.2 = s2 at *
  have e : s1 * (b * d) * (q2 * r2) = (s1 * (q2 * r2)) * (b * d) := by grind
  rw [e, v]
  have e2 : (q1 * r2 + r1 * q2) * s2 * (b * d) = s2 * ((q1 * b) * r2 * d + (r1 * d) * q2 * b) := by grind
  rw [e2, h1, h2]
  grind
theorem vl_mul {q r : F} {a b c d : Int} (hq : 0 < q.2) (hr : 0 < r.2) (h1 : Vl q a b) (h2 : Vl r c d) : Vl (mul q r) (a * c) (b * d) := by
  have hm : 0 < q.2 * r.2 := Int.mul_pos hq hr
  have v := vl_red (a := q.1 * r.1) hm
  unfold Vl at *
  show (red _ _).1 * _ = _ * (red _ _).2
  generalize red (q.1 * r.1) (q.2 * r.2) = s at *
  refine mul_cancel (m := q.2 * r.2) (by omega) ?_
  generalize q.1 = q1 at *; generalize q.2 = q2 at *; generalize r.1 = r1 at *; generalize r.2 = r2 at *; generalize s.1 = s1 at *; generalize s.2 = s2 at *
  have e : s1 * (b * d) * (q2 * r2) = (s1 * (q2 * r2)) * (b * d) := by grind
  rw [e, v]
  have e2 : (q1 * r1) * s2 * (b * d) = s2 * ((q1 * b) * (r1 * d)) := by grind
  rw [e2, h1, h2]
  grind
theorem vl_times {q : F} {a b : Int} (k : Int) (h : Vl q a b) : Vl q (a * k) (b * k) := by
  unfold Vl at *
  have : q.1 * (b * k) = (q.1 * b) * k := by grind
  rw [this, h]
  grind
theorem cop_dvd {x y z : Int} (h : Nat.gcd x.natAbs y.natAbs = 1) (d : y ∣ x * z) : y ∣ z := by
  rw [← Int.natAbs_dvd_natAbs] at *
  rw [Int.natAbs_mul] at d
  exact Nat.Coprime.dvd_of_dvd_mul_left (Nat.Coprime.symm h) d
theorem vl_dvd {q : F} {a b : Int} (o : Ok q) (h : Vl q a b) : q.2 ∣ b := cop_dvd o.2 ⟨a, by unfold Vl at h; rw [h, Int.mul_comm]⟩
theorem vl_uniq {q r : F} {a b : Int} (o : Ok q) (o' : Ok r) (hb : b ≠ 0) (h1 : Vl q a b) (h2 : Vl r a b) : q = r := by
  have e : q.1 * r.2 = r.1 * q.2 := by
    unfold Vl at h1 h2
    refine mul_cancel hb ?_
    have : q.1 * r.2 * b = (q.1 * b) * r.2 := by grind
    rw [this, h1]
    have : r.1 * q.2 * b = (r.1 * b) * q.2 := by grind
    rw [this, h2]
    grind
  have d1 : q.2 ∣ r.2 := cop_dvd o.2 ⟨r.1, by rw [e, Int.mul_comm]⟩
  have d2 : r.2 ∣ q.2 := cop_dvd o'.2 ⟨q.1, by rw [← e, Int.mul_comm]⟩
  have p1 := o.1
  have p2 := o'.1
  have e2 : q.2 = r.2 := Int.le_antisymm (Int.le_of_dvd p2 d1) (Int.le_of_dvd p1 d2)
  have e1 : q.1 = r.1 := by
    rw [e2] at e
    exact mul_cancel (by omega) e
  exact Prod.ext e1 e2
theorem ok_add' {q r : F} (hq : 0 < q.2) (hr : 0 < r.2) : Ok (add q r) := red_ok (Int.mul_pos hq hr)
theorem ok_sub' {q r : F} (hq : 0 < q.2) (hr : 0 < r.2) : Ok (sub q r) := red_ok (Int.mul_pos hq hr)
theorem ok_mul' {q r : F} (hq : 0 < q.2) (hr : 0 < r.2) : Ok (mul q r) := red_ok (Int.mul_pos hq hr)
theorem ok01 : Ok (0, 1) := ⟨by decide, by decide⟩
theorem vl_self (q : F) : Vl q q.1 q.2 := rfl
theorem add_zero : add (0, 1) (0, 1) = (0, 1) := by decide
theorem sub_zero : sub (0, 1) (0, 1) = (0, 1) := by decide
/-- the bottom of a sum where both divide one number -/
theorem dvd_add {q r : F} {D : Int} (o : Ok q) (o' : Ok r) (hD : D ≠ 0) (h1 : q.2 ∣ D) (h2 : r.2 ∣ D) : (add q r).2 ∣ D := by
  obtain ⟨x, hx⟩ := h1
  obtain ⟨y, hy⟩ := h2
  have v1 : Vl q (q.1 * x) D := by unfold Vl; rw [hx]; grind
  have v2 : Vl r (r.1 * y) D := by unfold Vl; rw [hy]; grind
  have v := vl_add o.1 o'.1 v1 v2
  have v' : Vl (add q r) (q.1 * x + r.1 * y) D := by
    unfold Vl at *
    refine mul_cancel hD ?_
    rw [Int.mul_assoc, v]
    grind
  exact vl_dvd (ok_add' o.1 o'.1) v'
theorem dvd_mul {q r : F} {D E : Int} (o : Ok q) (o' : Ok r) (h1 : q.2 ∣ D) (h2 : r.2 ∣ E) : (mul q r).2 ∣ D * E :=
  Int.dvd_trans (vl_dvd (ok_mul' o.1 o'.1) (vl_mul o.1 o'.1 (vl_self q) (vl_self r))) (Int.mul_dvd_mul h1 h2)
end Fq
namespace Rs
open Fq
/-- what it has at a power -/
def co (qs : List F) (k : Nat) : F := qs.getD k (0, 1)
/-- noughts at the end left out -/
def trimN (qs : List F) : Nat → List F
  | 0 => []
  | n + 1 => if co qs n = (0, 1) then trimN qs n else qs.take (n + 1)
def trim (qs : List F) : List F := trimN qs qs.length
theorem trimN_is (qs : List F) : ∀ n, n ≤ qs.length → ∃ k, k ≤ n ∧ trimN qs n = qs.take k
  | 0, _ => ⟨0, Nat.le_refl _, by simp [trimN]⟩
  | n + 1, h => by
    unfold trimN
    split
    · obtain ⟨k, h1, h2⟩ := trimN_is qs n (by omega)
      exact ⟨k, by omega, h2⟩
    · exact ⟨n + 1, Nat.le_refl _, rfl⟩
theorem co_get {qs : List F} {k : Nat} {q : F} (h : qs[k]? = some q) : co qs k = q := by
  unfold co
  rw [List.getD_eq_getElem?_getD, h]
  rfl
theorem co_lt {qs : List F} {k : Nat} (h : k < qs.length) : qs[k]? = some (co qs k) := by
  rw [List.getElem?_eq_getElem h, co_get (List.getElem?_eq_getElem h)]
theorem co_ge {qs : List F} {k : Nat} (h : qs.length ≤ k) : co qs k = (0, 1) := by
  unfold co
  rw [List.getD_eq_getElem?_getD, List.getElem?_eq_none h]
  rfl
theorem co_mem {qs : List F} {k : Nat} (h : k < qs.length) : co qs k ∈ qs := List.mem_of_getElem? (co_lt h)
theorem co_all {P : F → Prop} {qs : List F} (h : ∀ q ∈ qs, P q) (h0 : P (0, 1)) (k : Nat) : P (co qs k) := by
  by_cases c : k < qs.length
  · exact h _ (co_mem c)
  · rw [co_ge (by omega)]
    exact h0
theorem co_snoc {ws : List F} {z : F} {k : Nat} (h : k < ws.length) : co (ws ++ [z]) k = co ws k := by
  refine co_get ?_
  rw [List.getElem?_append_left h, co_lt h]
theorem trimN_snoc {ws : List F} {z : F} : ∀ n, n ≤ ws.length → trimN (ws ++ [z]) n = trimN ws n
  | 0, _ => rfl
  | n + 1, h => by
    unfold trimN
    rw [co_snoc (by omega), trimN_snoc n (by omega), List.take_append_of_le_length h]
theorem trim_snoc (ws : List F) : trim (ws ++ [(0, 1)]) = trim ws := by
  unfold trim
  rw [List.length_append, List.length_singleton]
  show (if co (ws ++ [(0, 1)]) ws.length = (0, 1) then _ else _) = _
  rw [if_pos (co_get (by simp)), trimN_snoc _ (Nat.le_refl _)]
theorem trim_rep : ∀ n : Nat, trim (List.replicate n (0, 1)) = []
  | 0 => rfl
  | n + 1 => by
    rw [List.replicate_succ', trim_snoc, trim_rep n]
theorem trimN_nz (qs : List F) : ∀ n, n ≤ qs.length → trimN qs n = [] ∨ ∃ k, k < n ∧ trimN qs n = qs.take (k + 1) ∧ co qs k ≠ (0, 1)
  | 0, _ => .inl rfl
  | n + 1, h => by
    unfold trimN
    split
    · rcases trimN_nz qs n (by omega) with e | ⟨k, h1, h2, h3⟩
      · exact .inl e
      · exact .inr ⟨k, by omega, h2, h3⟩
    · rename_i c
      exact .inr ⟨n, by omega, rfl, c⟩
/-- a polynomial: the last one not nought -/
def Pn (qs : List F) : Prop := qs = [] ∨ co qs (qs.length - 1) ≠ (0, 1)
theorem trim_pn (qs : List F) : Pn (trim qs) := by
  rcases trimN_nz qs qs.length (Nat.le_refl _) with e | ⟨k, h1, h2, h3⟩
  · exact .inl e
  · right
    have l : (trim qs).length = k + 1 := by
      show (trimN _ _).length = _
      rw [h2, List.length_take]
      omega
    rw [l, Nat.add_sub_cancel]
    have : co (trim qs) k = co qs k := by
      refine co_get ?_
      show (trimN _ _)[k]? = _
      rw [h2, List.getElem?_take_of_lt (by omega), co_lt h1]
    rw [this]
    exact h3
theorem trim_mem {qs : List F} {q : F} (h : q ∈ trim qs) : q ∈ qs := by
  obtain ⟨k, _, e⟩ := trimN_is qs qs.length (Nat.le_refl _)
  rw [trim, e] at h
  exact List.mem_of_mem_take h
theorem trim_len (qs : List F) : (trim qs).length ≤ qs.length := by
  obtain ⟨k, h, e⟩ := trimN_is qs qs.length (Nat.le_refl _)
  rw [trim, e, List.length_take]
  omega
theorem trim_of {qs : List F} (h : Pn qs) : trim qs = qs := by
  unfold trim
  rcases h with rfl | h
  · rfl
  · cases e : qs.length with
    | zero => rw [List.eq_nil_of_length_eq_zero e]; rfl
    | succ n =>
      rw [e, Nat.add_sub_cancel] at h
      unfold trimN
      rw [if_neg h, ← e, List.take_length]
/-- power by power -/
def byPower (op : F → F → F) (qs rs : List F) (n : Nat) : List F := (List.range n).map fun k => op (co qs k) (co rs k)
theorem byPower_succ (op : F → F → F) (qs rs : List F) (n : Nat) : byPower op qs rs (n + 1) = byPower op qs rs n ++ [op (co qs n) (co rs n)] := by
  rw [byPower, List.range_succ, List.map_append]
  rfl
theorem byPower_len (op : F → F → F) (qs rs : List F) (n : Nat) : (byPower op qs rs n).length = n := by
  rw [byPower, List.length_map, List.length_range]
theorem byPower_trim {op : F → F → F} (h0 : op (0, 1) (0, 1) = (0, 1)) {qs rs : List F} {m : Nat} (h1 : qs.length ≤ m) (h2 : rs.length ≤ m) : ∀ d, trim (byPower op qs rs (m + d)) = trim (byPower op qs rs m)
  | 0 => rfl
  | d + 1 => by
    rw [← Nat.add_assoc, byPower_succ, co_ge (by omega), co_ge (by omega), h0, trim_snoc, byPower_trim h0 h1 h2 d]
theorem byPower_mem {op : F → F → F} {qs rs : List F} {n : Nat} {q : F} (h : q ∈ byPower op qs rs n) : ∃ k, q = op (co qs k) (co rs k) := by
  obtain ⟨k, _, rfl⟩ := List.mem_map.mp h
  exact ⟨k, rfl⟩
/-! ### products -/
def stepJ (w : List F) (i : Nat) (p : F) (rs : List F) : Nat → List F
  | 0 => w
  | j + 1 => (stepJ w i p rs j).set (i + j) (add (co (stepJ w i p rs j) (i + j)) (mul p (co rs j)))
def stepI (w : List F) (qs rs : List F) : Nat → List F
  | 0 => w
  | i + 1 => stepJ (stepI w qs rs i) i (co qs i) rs rs.length
def prodN (n : Nat) (qs rs : List F) : List F := stepI (List.replicate n (0, 1)) qs rs qs.length
theorem stepJ_len (w : List F) (i : Nat) (p : F) (rs : List F) : ∀ j, (stepJ w i p rs j).length = w.length
  | 0 => rfl
  | j + 1 => by
    show (List.set _ _ _).length = _
    rw [List.length_set, stepJ_len w i p rs j]
theorem stepI_len (w qs rs : List F) : ∀ i, (stepI w qs rs i).length = w.length
  | 0 => rfl
  | i + 1 => by
    show (stepJ _ _ _ _ _).length = _
    rw [stepJ_len, stepI_len w qs rs i]
theorem prodN_len (n : Nat) (qs rs : List F) : (prodN n qs rs).length = n := by
  rw [prodN, stepI_len, List.length_replicate]
theorem stepJ_snoc (w : List F) (z : F) (i : Nat) (p : F) (rs : List F) : ∀ j, i + j ≤ w.length → stepJ (w ++ [z]) i p rs j = stepJ w i p rs j ++ [z]
  | 0, _ => rfl
  | j + 1, h => by
    have l := stepJ_len w i p rs j
    show (stepJ (w ++ [z]) i p rs j).set _ _ = (stepJ w i p rs j).set _ _ ++ [z]
    rw [stepJ_snoc w z i p rs j (by omega), co_snoc (by omega), List.set_append_left _ _ (by omega)]
theorem stepI_snoc (w : List F) (z : F) (qs rs : List F) : ∀ i, i + rs.length ≤ w.length + 1 → stepI (w ++ [z]) qs rs i = stepI w qs rs i ++ [z]
  | 0, _ => rfl
  | i + 1, h => by
    have l := stepI_len w qs rs i
    show stepJ (stepI (w ++ [z]) qs rs i) _ _ _ _ = stepJ (stepI w qs rs i) _ _ _ _ ++ [z]
    rw [stepI_snoc w z qs rs i (by omega), stepJ_snoc _ _ _ _ _ _ (by omega)]
def prodL (qs rs : List F) : List F := if qs = [] ∨ rs = [] then [] else prodN (qs.length + rs.length - 1) qs rs
theorem prodN_nil (n : Nat) (qs : List F) : prodN n qs [] = List.replicate n (0, 1) := by
  have : ∀ (w : List F) i, stepI w qs [] i = w := fun w i => by
    induction i with
    | zero => rfl
    | succ i h =>
      show stepJ (stepI w qs [] i) i (co qs i) [] 0 = _
      exact h
  exact this _ _
theorem prod_all (qs rs : List F) : trim (prodN (qs.length + rs.length) qs rs) = trim (prodL qs rs) := by
  unfold prodL
  split
  · rename_i c
    rcases c with rfl | rfl
    · show trim (List.replicate _ _) = _
      rw [trim_rep]
      rfl
    · rw [prodN_nil, trim_rep]
      rfl
  · rename_i c
    have h1 : qs ≠ [] := fun z => c (.inl z)
    have h2 : rs ≠ [] := fun z => c (.inr z)
    have l1 := List.length_pos_iff.mpr h1
    have l2 := List.length_pos_iff.mpr h2
    obtain ⟨n, e⟩ : ∃ n, qs.length + rs.length = n + 1 := ⟨qs.length + rs.length - 1, by omega⟩
    rw [e, Nat.add_sub_cancel]
    unfold prodN
    rw [List.replicate_succ', stepI_snoc _ _ _ _ _ (by rw [List.length_replicate]; omega), trim_snoc]
/-- small fractions -/
structure S3 (q : F) : Prop where
  ok : Fq.Ok q
  b : q.2 ≤ 3
  a : q.1.natAbs < 16
theorem S3.zero : S3 (0, 1) := ⟨Fq.ok01, by decide, by decide⟩
theorem S3.cases {q : F} (h : S3 q) : q.2 = 1 ∨ q.2 = 2 ∨ q.2 = 3 := by
  have := h.ok.1
  have := h.b
  omega
theorem S3.d6 {q : F} (h : S3 q) : q.2 ∣ 6 := by
  rcases h.cases with e | e | e <;> rw [e] <;> decide
/-- what a product's parts may be, behind so many steps -/
structure Pb (k : Nat) (q : F) : Prop where
  ok : Fq.Ok q
  b : q.2 ∣ 36
  a : q.1.natAbs < 2 ^ (20 + 8 * k)
theorem Pb.zero : Pb 0 (0, 1) := ⟨Fq.ok01, by decide, by decide⟩
theorem Pb.mono {k m : Nat} {q : F} (h : Pb k q) (e : k ≤ m) : Pb m q := ⟨h.ok, h.b, Nat.lt_of_lt_of_le h.a (Nat.pow_le_pow_right (by decide) (by omega))⟩
theorem Pb.le {k : Nat} {q : F} (h : Pb k q) : q.2 ≤ 36 := Int.le_of_dvd (by decide) h.b
theorem red_top {a b : Int} (h : 0 < b) : (red a b).1.natAbs ≤ a.natAbs := by
  have hg := gI_pos (a := a) (b := b) (by omega)
  show (a / gI a b).natAbs ≤ a.natAbs
  obtain ⟨x, hx⟩ := gI_dvd_l a b
  have e1 : a / gI a b = x := Int.ediv_eq_of_eq_mul_right (by omega) hx
  rw [e1]
  have q1 : a.natAbs = (gI a b).natAbs * x.natAbs := by
    have := congrArg Int.natAbs hx
    rwa [Int.natAbs_mul] at this
  rw [q1]
  exact Nat.le_mul_of_pos_left _ (by omega)
theorem mul_s3 {p r : F} (hp : S3 p) (hr : S3 r) : Fq.Ok (mul p r) ∧ (mul p r).2 ∣ 36 ∧ (mul p r).1.natAbs < 256 := by
  refine ⟨ok_mul' hp.ok.1 hr.ok.1, dvd_mul hp.ok hr.ok hp.d6 hr.d6, ?_⟩
  refine Nat.lt_of_le_of_lt (red_top (Int.mul_pos hp.ok.1 hr.ok.1)) ?_
  rw [Int.natAbs_mul]
  have := hp.a
  have := hr.a
  have : p.1.natAbs * r.1.natAbs ≤ 15 * 15 := Nat.mul_le_mul (by omega) (by omega)
  omega
theorem Pb.step {k : Nat} {q p r : F} (h : Pb k q) (hp : S3 p) (hr : S3 r) : Pb (k + 1) (add q (mul p r)) := by
  obtain ⟨o, d, l⟩ := mul_s3 hp hr
  refine ⟨ok_add' h.ok.1 o.1, dvd_add h.ok o (by decide) h.b d, ?_⟩
  refine Nat.lt_of_le_of_lt (red_top (Int.mul_pos h.ok.1 o.1)) ?_
  have b1 := h.le
  have b2 : (mul p r).2 ≤ 36 := Int.le_of_dvd (by decide) d
  have p1 := h.ok.1
  have p2 := o.1
  have := Int.natAbs_add_le (q.1 * (mul p r).2) ((mul p r).1 * q.2)
  rw [Int.natAbs_mul, Int.natAbs_mul] at this
  have m1 : q.1.natAbs * (mul p r).2.natAbs ≤ q.1.natAbs * 36 := Nat.mul_le_mul (Nat.le_refl _) (by omega)
  have m2 : (mul p r).1.natAbs * q.2.natAbs ≤ 255 * 36 := Nat.mul_le_mul (by omega) (by omega)
  have e : 2 ^ (20 + 8 * (k + 1)) = 2 ^ (20 + 8 * k) * 256 := by
    rw [show 20 + 8 * (k + 1) = (20 + 8 * k) + 8 by omega, Nat.pow_add]
  have := h.a
  have : 2 ^ 20 ≤ 2 ^ (20 + 8 * k) := Nat.pow_le_pow_right (by decide) (by omega)
  have : (2 : Nat) ^ 20 = 1048576 := by decide
  rw [e]
  omega
theorem stepJ_pb {k i : Nat} {w : List F} {p : F} {rs : List F} (hw : ∀ q ∈ w, Pb k q) (hp : S3 p) (hr : ∀ r ∈ rs, S3 r) : ∀ j, i + j ≤ w.length → ∀ q ∈ stepJ w i p rs j, Pb (k + j) q
  | 0, _ => hw
  | j + 1, h => fun q hq => by
    have ih := stepJ_pb (i := i) hw hp hr j (by omega)
    have l := stepJ_len w i p rs j
    rcases List.mem_or_eq_of_mem_set hq with m | rfl
    · exact (ih q m).mono (by omega)
    · exact (ih _ (co_mem (by omega))).step hp (co_all hr S3.zero j)
theorem stepI_pb {k : Nat} {w qs rs : List F} (hw : ∀ q ∈ w, Pb k q) (hp : ∀ q ∈ qs, S3 q) (hr : ∀ r ∈ rs, S3 r) : ∀ i, i + rs.length ≤ w.length + 1 → ∀ q ∈ stepI w qs rs i, Pb (k + i * rs.length) q
  | 0, _ => by
    rw [Nat.zero_mul]
    exact hw
  | i + 1, h => fun q hq => by
    have ih := stepI_pb (qs := qs) hw hp hr i (by omega)
    have l := stepI_len w qs rs i
    have := stepJ_pb (i := i) ih (co_all hp S3.zero i) hr rs.length (by omega) q hq
    rw [Nat.succ_mul, ← Nat.add_assoc]
    exact this
theorem rep_pb (n : Nat) : ∀ q ∈ List.replicate n ((0, 1) : F), Pb 0 q := fun q h => by
  rw [(List.mem_replicate.mp h).2]
  exact Pb.zero
/-! ### worths -/
def hor (m : F) : List F → F
  | [] => (0, 1)
  | c :: cs => add (mul (hor m cs) m) c
def wat (m : F) : List Int → Int × Int
  | [] => (0, 1)
  | v :: vs => ((wat m vs).1 * m.1 + v * (wat m vs).2, (wat m vs).2 * m.2)
/-- each is g times the integer, divided by B -/
inductive HV (g B : Int) : List F → List Int → Prop
  | nil : HV g B [] []
  | cons {q : F} {qs : List F} {v : Int} {vs : List Int} : Fq.Ok q → Vl q (g * v) B → HV g B qs vs → HV g B (q :: qs) (v :: vs)
theorem HV.len {g B : Int} {qs : List F} {vs : List Int} (h : HV g B qs vs) : qs.length = vs.length := by
  induction h with
  | nil => rfl
  | cons _ _ _ ih => rw [List.length_cons, List.length_cons, ih]
theorem wat_pow (m : F) : ∀ vs : List Int, (wat m vs).2 = m.2 ^ vs.length
  | [] => by rw [List.length_nil, Int.pow_zero]; rfl
  | v :: vs => by
    show (wat m vs).2 * m.2 = _
    rw [wat_pow m vs, List.length_cons, Int.pow_succ]
theorem hor_vl {m : F} (hm : 0 < m.2) {g B : Int} (hB : 0 < B) {qs : List F} {vs : List Int} (h : HV g B qs vs) :
    Fq.Ok (hor m qs) ∧ Vl (hor m qs) (g * (wat m vs).1 * m.2) (B * (wat m vs).2) ∧ 0 < (wat m vs).2 := by
  induction h with
  | nil => exact ⟨ok01, by show (0 : Int) * _ = g * 0 * m.2 * 1; rw [Int.mul_zero, Int.zero_mul, Int.zero_mul, Int.zero_mul], Int.zero_lt_one⟩
  | cons o hv h ih =>
    rename_i q qs v vs
    obtain ⟨i1, i2, i3⟩ := ih
    have om := ok_mul' i1.1 hm
    refine ⟨ok_add' om.1 o.1, ?_, Int.mul_pos i3 hm⟩
    have t := vl_add om.1 o.1 (vl_mul i1.1 hm i2 (vl_self m)) hv
    show Vl (add (mul (hor m qs) m) q) (g * ((wat m vs).1 * m.1 + v * (wat m vs).2) * m.2) (B * ((wat m vs).2 * m.2))
    generalize add (mul (hor m qs) m) q = s at *
    generalize (wat m vs).1 = W at *
    generalize (wat m vs).2 = b at *
    unfold Vl at *
    refine mul_cancel (m := B) (by omega) ?_
    have e : s.1 * (B * (b * m.2)) * B = s.1 * (B * b * m.2 * B) := by grind
    rw [e, t]
    grind
theorem worth_eq {m : F} (hm : 0 < m.2) {g B : Int} (hB : 0 < B) {qs : List F} {vs : List Int} (h : HV g B qs vs) :
    mul (red g B) (red (wat m vs).1 (m.2 ^ (vs.length - 1))) = hor m qs := by
  obtain ⟨i1, i2, i3⟩ := hor_vl hm hB h
  have hp : 0 < m.2 ^ (vs.length - 1) := Int.pow_pos hm
  have o1 := red_ok (a := g) hB
  have o2 := red_ok (a := (wat m vs).1) hp
  have t := vl_mul o1.1 o2.1 (vl_red hB) (vl_red hp)
  refine vl_uniq (ok_mul' o1.1 o2.1) i1 (Int.ne_of_gt (Int.mul_pos hB i3)) ?_ i2
  cases vs with
  | nil =>
    have e : (wat m []).1 = 0 := rfl
    have e2 : (wat m []).2 = 1 := rfl
    rw [e] at t ⊢
    rw [e2]
    have e3 : m.2 ^ (([] : List Int).length - 1) = 1 := by rw [List.length_nil, Nat.zero_sub, Int.pow_zero]
    rw [e3] at t ⊢
    rw [Int.mul_zero] at t ⊢
    rw [Int.zero_mul]
    exact t
  | cons v vs =>
    have e : m.2 ^ ((v :: vs).length - 1) * m.2 = (wat m (v :: vs)).2 := by
      rw [wat_pow, List.length_cons, Nat.add_sub_cancel, Int.pow_succ]
    have t2 := vl_times m.2 t
    rw [Int.mul_assoc B, e] at t2
    exact t2
end Rs
namespace Rs
open Fq
theorem hv6 : ∀ {qs : List F}, (∀ q ∈ qs, S3 q) → HV 1 6 qs (qs.map fun q => q.1 * (6 / q.2))
  | [], _ => .nil
  | q :: qs, h => by
    have s := h q List.mem_cons_self
    refine .cons s.ok ?_ (hv6 fun r hr => h r (List.mem_cons_of_mem _ hr))
    show q.1 * 6 = 1 * (q.1 * (6 / q.2)) * q.2
    rw [Int.one_mul, Int.mul_assoc, Int.ediv_mul_cancel s.d6]
theorem pow3 {m : F} (hm : S3 m) (k : Nat) : 0 < m.2 ^ k ∧ m.2 ^ k ≤ 3 ^ k := by
  refine ⟨Int.pow_pos hm.ok.1, ?_⟩
  induction k with
  | zero => simp
  | succ k ih =>
    have := hm.ok.1
    have := hm.b
    rw [Int.pow_succ, Int.pow_succ]
    exact Int.mul_le_mul ih hm.b (by omega) (Int.le_of_lt (Int.pow_pos (by decide)))
theorem pow3_le {k : Nat} (h : k ≤ 6) : (3 : Int) ^ k ≤ 729 := by
  have : ∀ k, k < 7 → (3 : Int) ^ k ≤ 729 := by decide
  exact this k (by omega)
theorem hor_ok {m : F} (hm : S3 m) {qs : List F} (h : ∀ q ∈ qs, S3 q) : Fq.Ok (hor m qs) ∧ (hor m qs).2 ≤ 6 * 3 ^ qs.length := by
  obtain ⟨o, v, p⟩ := hor_vl hm.ok.1 (g := 1) (B := 6) (by decide) (hv6 h)
  refine ⟨o, ?_⟩
  have d := vl_dvd o v
  have hp : 0 < 6 * (wat m (qs.map fun q => q.1 * (6 / q.2))).2 := Int.mul_pos (by decide) p
  have l := Int.le_of_dvd hp d
  rw [wat_pow, List.length_map] at l
  have := (pow3 hm qs.length).2
  omega
theorem hor_num {m : F} (hm : S3 m) : ∀ {qs : List F}, (∀ q ∈ qs, S3 q) → qs.length ≤ 6 → (hor m qs).1.natAbs < 2 ^ (20 + 12 * qs.length)
  | [], _, _ => by
    show (0 : Nat) < _
    exact Nat.pow_pos (by decide)
  | c :: cs, h, l => by
    have hc := h c List.mem_cons_self
    have hs : ∀ q ∈ cs, S3 q := fun r hr => h r (List.mem_cons_of_mem _ hr)
    simp only [List.length_cons] at l ⊢
    have ih := hor_num hm hs (by omega)
    obtain ⟨o, d⟩ := hor_ok hm hs
    show (add (mul (hor m cs) m) c).1.natAbs < _
    generalize hor m cs = q at *
    have mp := Int.mul_pos o.1 hm.ok.1
    have om := ok_mul' o.1 hm.ok.1
    have t1 : (mul q m).1.natAbs ≤ q.1.natAbs * 16 := by
      refine Nat.le_trans (red_top mp) ?_
      rw [Int.natAbs_mul]
      exact Nat.mul_le_mul (Nat.le_refl _) (by have := hm.a; omega)
    have t2 : (mul q m).2 ≤ q.2 * m.2 := Int.le_of_dvd mp (vl_dvd om (vl_mul o.1 hm.ok.1 (vl_self q) (vl_self m)))
    have t3 : q.2 * m.2 ≤ 4374 * 3 := by
      have := pow3_le (k := cs.length) (by omega)
      exact Int.mul_le_mul (by omega) hm.b (by have := hm.ok.1; omega) (by decide)
    refine Nat.lt_of_le_of_lt (red_top (Int.mul_pos om.1 hc.ok.1)) ?_
    have p1 := om.1
    have p2 := hc.ok.1
    have b2 := hc.b
    have := Int.natAbs_add_le ((mul q m).1 * c.2) (c.1 * (mul q m).2)
    rw [Int.natAbs_mul, Int.natAbs_mul] at this
    have m1 : (mul q m).1.natAbs * c.2.natAbs ≤ (q.1.natAbs * 16) * 3 := Nat.mul_le_mul t1 (by omega)
    have m2 : c.1.natAbs * (mul q m).2.natAbs ≤ 15 * 13122 := Nat.mul_le_mul (by have := hc.a; omega) (by omega)
    have e : 2 ^ (20 + 12 * (cs.length + 1)) = 2 ^ (20 + 12 * cs.length) * 4096 := by
      rw [show 20 + 12 * (cs.length + 1) = (20 + 12 * cs.length) + 12 by omega, Nat.pow_add]
    have : 2 ^ 20 ≤ 2 ^ (20 + 12 * cs.length) := Nat.pow_le_pow_right (by decide) (by omega)
    have : (2 : Nat) ^ 20 = 1048576 := by decide
    rw [e]
    omega
/-! ### the common bottom, the common divisor -/
def botN (qs : List F) : Nat → Int
  | 0 => 1
  | i + 1 => botN qs i / gI (botN qs i) (co qs i).2 * (co qs i).2
def B6 (b : Int) : Prop := b = 1 ∨ b = 2 ∨ b = 3 ∨ b = 6
theorem bot_step {b d : Int} (hb : B6 b) (hd : d = 1 ∨ d = 2 ∨ d = 3) : B6 (b / gI b d * d) ∧ b ∣ b / gI b d * d ∧ d ∣ b / gI b d * d := by
  unfold B6
  rcases hb with rfl | rfl | rfl | rfl <;> rcases hd with rfl | rfl | rfl <;> decide
theorem botN_ok {qs : List F} (h : ∀ q ∈ qs, S3 q) : ∀ i, B6 (botN qs i) ∧ ∀ k, k < i → (co qs k).2 ∣ botN qs i
  | 0 => ⟨.inl rfl, fun k hk => absurd hk (by omega)⟩
  | i + 1 => by
    obtain ⟨a, b⟩ := botN_ok h i
    obtain ⟨c, d, e⟩ := bot_step a (co_all h S3.zero i).cases
    refine ⟨c, fun k hk => ?_⟩
    by_cases z : k = i
    · rw [z]
      exact e
    · exact Int.dvd_trans (b k (by omega)) d
theorem B6.pos {b : Int} (h : B6 b) : 0 < b ∧ b ≤ 6 := by unfold B6 at h; omega
def wholeL (B : Int) (qs : List F) : List Int := qs.map fun q => q.1 * (B / q.2)
def cmN (ws : List Int) : Nat → Int
  | 0 => 0
  | i + 1 => gI (cmN ws i) (ws.getD i 0)
theorem gI_lt {a b : Int} {n : Nat} (h1 : a.natAbs < n) (h2 : b.natAbs < n) : 0 ≤ gI a b ∧ (gI a b).natAbs < n := by
  unfold gI
  refine ⟨Int.natCast_nonneg _, ?_⟩
  rw [Int.natAbs_natCast]
  by_cases z : b.natAbs = 0
  · rw [z, Nat.gcd_zero_right]
    exact h1
  · exact Nat.lt_of_le_of_lt (Nat.gcd_le_right _ (by omega)) h2
theorem getD_mem {ws : List Int} {P : Int → Prop} (h : ∀ w ∈ ws, P w) (h0 : P 0) (k : Nat) : P (ws.getD k 0) := by
  rw [List.getD_eq_getElem?_getD]
  cases e : ws[k]? with
  | none => exact h0
  | some w => exact h w (List.mem_of_getElem? e)
theorem cmN_ok {ws : List Int} (h : ∀ w ∈ ws, w.natAbs < 128) : ∀ i, 0 ≤ cmN ws i ∧ (cmN ws i).natAbs < 128 ∧ ∀ k, k < i → cmN ws i ∣ ws.getD k 0
  | 0 => ⟨Int.le_refl _, (by show (0 : Int).natAbs < 128; decide), fun k hk => absurd hk (by omega)⟩
  | i + 1 => by
    obtain ⟨a, b, c⟩ := cmN_ok h i
    obtain ⟨d, e⟩ := gI_lt b (getD_mem (P := fun w => w.natAbs < 128) h (by decide) i)
    refine ⟨d, e, fun k hk => ?_⟩
    by_cases z : k = i
    · rw [z]
      exact gI_dvd_r _ _
    · exact Int.dvd_trans (gI_dvd_l _ _) (c k (by omega))
def gg (c : Int) : Int := if (1 : Int) > c then 1 else c
theorem gg_ok {ws : List Int} (h : ∀ w ∈ ws, w.natAbs < 128) : 0 < gg (cmN ws ws.length) ∧ (gg (cmN ws ws.length)).natAbs < 128 ∧ ∀ w ∈ ws, gg (cmN ws ws.length) ∣ w := by
  obtain ⟨a, b, c⟩ := cmN_ok h ws.length
  unfold gg
  split
  · exact ⟨by decide, by decide, fun w _ => Int.one_dvd w⟩
  · refine ⟨by omega, b, fun w hw => ?_⟩
    obtain ⟨k, hk, e⟩ := List.getElem_of_mem hw
    have := c k hk
    rw [List.getD_eq_getElem?_getD, List.getElem?_eq_getElem hk] at this
    rw [← e]
    exact this
theorem whole_lt {B : Int} {qs : List F} (hB : B6 B) (h : ∀ q ∈ qs, S3 q) (hd : ∀ q ∈ qs, q.2 ∣ B) : ∀ w ∈ wholeL B qs, w.natAbs < 128 := by
  intro w hw
  obtain ⟨q, hq, rfl⟩ := List.mem_map.mp hw
  have s := h q hq
  have l : B / q.2 ≤ 6 ∧ 0 ≤ B / q.2 := by
    have := hB.pos
    rcases s.cases with e | e | e <;> rw [e] <;> omega
  rw [Int.natAbs_mul]
  have := s.a
  have : q.1.natAbs * (B / q.2).natAbs ≤ 15 * 6 := Nat.mul_le_mul (by omega) (by omega)
  omega
theorem hv_of {B g : Int} : ∀ {qs : List F}, (∀ q ∈ qs, S3 q) → (∀ q ∈ qs, q.2 ∣ B) → (∀ w ∈ wholeL B qs, g ∣ w) → HV g B qs ((wholeL B qs).map (· / g))
  | [], _, _, _ => .nil
  | q :: qs, h, hd, hg => by
    refine .cons (h q List.mem_cons_self).ok ?_ (hv_of (fun r hr => h r (List.mem_cons_of_mem _ hr)) (fun r hr => hd r (List.mem_cons_of_mem _ hr)) (fun w hw => hg w (List.mem_cons_of_mem _ hw)))
    show q.1 * B = g * (q.1 * (B / q.2) / g) * q.2
    rw [Int.mul_ediv_cancel' (hg _ List.mem_cons_self), Int.mul_assoc, Int.ediv_mul_cancel (hd q List.mem_cons_self)]
theorem wat_num {m : F} (hm : S3 m) : ∀ {vs : List Int}, (∀ v ∈ vs, v.natAbs < 128) → vs.length ≤ 6 → (wat m vs).1.natAbs < 2 ^ (20 + 8 * vs.length) ∧ 0 < (wat m vs).2 ∧ (wat m vs).2 ≤ 729
  | [], _, _ => ⟨by show (0 : Nat) < _; exact Nat.pow_pos (by decide), Int.zero_lt_one, (by show (1 : Int) ≤ 729; decide)⟩
  | v :: vs, h, l => by
    have hv := h v List.mem_cons_self
    simp only [List.length_cons] at l
    obtain ⟨i1, i2, i3⟩ := wat_num hm (vs := vs) (fun r hr => h r (List.mem_cons_of_mem _ hr)) (by omega)
    refine ⟨?_, ?_, ?_⟩
    · show ((wat m vs).1 * m.1 + v * (wat m vs).2).natAbs < 2 ^ (20 + 8 * (vs.length + 1))
      have := Int.natAbs_add_le ((wat m vs).1 * m.1) (v * (wat m vs).2)
      rw [Int.natAbs_mul, Int.natAbs_mul] at this
      have m1 : (wat m vs).1.natAbs * m.1.natAbs ≤ (wat m vs).1.natAbs * 16 := Nat.mul_le_mul (Nat.le_refl _) (by have := hm.a; omega)
      have m2 : v.natAbs * (wat m vs).2.natAbs ≤ 127 * 729 := Nat.mul_le_mul (by omega) (by omega)
      have e : 2 ^ (20 + 8 * (vs.length + 1)) = 2 ^ (20 + 8 * vs.length) * 256 := by
        rw [show 20 + 8 * (vs.length + 1) = (20 + 8 * vs.length) + 8 by omega, Nat.pow_add]
      have : 2 ^ 20 ≤ 2 ^ (20 + 8 * vs.length) := Nat.pow_le_pow_right (by decide) (by omega)
      have : (2 : Nat) ^ 20 = 1048576 := by decide
      rw [e]
      omega
    · rw [wat_pow]
      exact (pow3 hm _).1
    · rw [wat_pow]
      have := (pow3 hm (v :: vs).length).2
      have := pow3_le (k := (v :: vs).length) (by rw [List.length_cons]; omega)
      omega
theorem div_lt {ws : List Int} {g : Int} (h : ∀ w ∈ ws, w.natAbs < 128) : ∀ v ∈ ws.map (· / g), v.natAbs < 128 := by
  intro v hv
  obtain ⟨w, hw, rfl⟩ := List.mem_map.mp hv
  exact Nat.lt_of_le_of_lt (Int.natAbs_ediv_le_natAbs w g) (h w hw)
end Rs


set_option Elab.async false
set_option linter.all false
set_option maxRecDepth 100000
set_option maxHeartbeats 2000000
/-! several clauses, each with a name of its own: try: .. except A as e: .. except B as e: .. -/
namespace TA2
open PySem PySem.Spec PyProof.Rows L2
abbrev Suite := Addr → Value → Option Addr → TS
/-- what the suite's ends are where the name in slot i goes behind it -/
def less (D : Ends) (i : Nat) : Ends where
  nx := fun τ G => D.nx (τ.set i none) G
  rt := D.rt
  bk := fun τ G => D.bk (τ.set i none) G
  ct := fun τ G => D.ct (τ.set i none) G
/-- the wishes of the clauses in turn: (class, slot, suite) -/
def wish (K : PySem.W.Frag) (nn : Nat) (Wo : WX) (D : Ends) : List (Value × Nat × Suite) → WX
  | [] => Wo
  | (c, i, ts) :: more => fun cls d τ G => ∃ b, PySem.W.exmOne K cls c = some b ∧
      (b = true → τ.length = nn → ∀ a, G a = none → ts a cls d (less D i) (τ.set i (some (.ref a))) G) ∧ (b = false → wish K nn Wo D more cls d τ G)
inductive Clauses (X : Cx) : List ExceptHandler → List (Value × Nat × Suite) → Prop
  | stop : Clauses X [] []
  | more {x n : Str} {c : Value} {i : Nat} {ts : Suite} {b0 : Stmt} {su : List Stmt} {p1 p2 : Pos} {hs : List ExceptHandler} {l : List (Value × Nat × Suite)}
      (named : Names X x c) (at_ : X.N[i]? = some n) (loc : X.env.kindOf n = some .local)
      (suite : ∀ (a : Addr) (oe : Obj) (cls : Value) (d : Option Addr) (pn : List (Addr × Obj)), Zc cls d oe → (∃ vs, oe.data = .fields vs) → PSs (X.suite a ((a, oe) :: pn)) (b0 :: su) (ts a cls d))
      (rest : Clauses X hs l) : Clauses X (.ExceptHandler (some (.Name x p1)) (some n) (b0 :: su) p2 :: hs) ((c, i, ts) :: l)
section
variable {X : Cx} {body : List Stmt} {hd0 : ExceptHandler} {hds : List ExceptHandler} {l : List (Value × Nat × Suite)} {pos : Pos} {tb : WX → TS} {Wo : WX}
theorem try_as (hs : X.stack = X.env :: X.outer) (hf : X.env.frame = some X.env.locals) (hN : X.N.Nodup) (tk : Takes X Wo)
    (hb : ∀ (W : WX) (pn : List (Addr × Obj)) (xe : Value → Shared → Prop), Takes (X.tr pn xe) W → PassesOwn (model X.prog X.w) X.A X.env xe → PSs (X.tr pn xe) body (tb W))
    (cl : Clauses X (hd0 :: hds) l) : PS X (.Try body (hd0 :: hds) [] [] pos) (fun D τ G => tb (wish X.K X.N.length Wo D l) D τ G) := by
  constructor
  intro pins s τ G D I h
  have okX := I.ok
  have frms : X.A.frames = some (X.env :: X.outer) := okX.frames.trans (congrArg some hs)
  apply wpAny_Try_except
  refine wpAny_mono ((hb (wish X.K X.N.length Wo D l) (X.pn ++ pins)
    (fun e0 s1 => wpAny (model X.prog X.w) X.A (noteFrame e0 X.env)
      (fun _ s2 => wpAny (model X.prog X.w) X.A (setFlight e0 none)
        (fun _ s3 => wpAny (model X.prog X.w) X.A (handleBy e0 X.env (hd0 :: hds)) (SP X pins D) X.xe s3) X.xe s2) X.xe s1)
    (fun u s' caught => ?_) PassesOwn.looking).run [] s τ G D (I.toTry _) h) (fun f s1 hsp => ?_) (fun _ _ he => he)
  · obtain ⟨a, B, sI, pins', τ', G', cls, d, rfl, J0, nb, up, sky0, na, os, ag, w⟩ := caught
    have J : Inv X pins τ' G' sI := J0.ofTry okX
    have sky : Sky B (X.env :: X.outer) a (Zc cls d) X.env.locals s'.heap := hs ▸ sky0
    show wpAny (model X.prog X.w) X.A (noteFrame (.ref a) X.env) _ _ _
    refine Sky.land Zc.steady frms hf sky (fun hp3 fl3 up3 => ?_)
    have J3 : Inv X pins τ' G' { s' with heap := hp3 } := J.landed nb fl3.1 (up.trans up3) os ag
    obtain ⟨ob3, vs3, ho3, hz3, hd3⟩ := fl3.there
    have nfr : a ∉ frs (X.env :: X.outer) := by
      intro hm
      obtain ⟨_, o2, e2, hne⟩ := fl3.2.2.1.mem hm
      have : o2 = ob3 := Option.some.inj (e2.symm.trans ho3)
      exact hne _ (this ▸ hd3)
    have nLoc : a ≠ X.env.locals := by
      intro z
      exact nfr (List.mem_filterMap.mpr ⟨X.env, List.mem_cons_self, hf.trans (congrArg some z.symm)⟩)
    have nOut : a ∉ X.fs := by
      intro hm
      obtain ⟨en, he, q⟩ := List.mem_filterMap.mp hm
      exact nfr (List.mem_filterMap.mpr ⟨en, List.mem_cons_of_mem _ he, q⟩)
    have S3 := J3.suite ho3 hd3 na nLoc nOut
    have go : ∀ {hs' : List ExceptHandler} {l' : List (Value × Nat × Suite)}, Clauses X hs' l' → wish X.K X.N.length Wo D l' cls d τ' G' →
        wpAny (model X.prog X.w) X.A (handleBy (.ref a) X.env hs') (SP X pins D) X.xe { s' with heap := hp3 } := by
      intro hs' l' hk
      induction hk with
      | stop =>
        intro w0
        apply wpAny_handleBy_nil
        obtain ⟨_, _, _, oe, vs, T, oT, ts0, he, hz, hdt, h1, hr⟩ := id fl3
        unfold PySem.passOn
        refine wpAny_bind (wpAny_field he hdt h1 ?_)
        rw [if_neg (by simp : ¬ ((Value.ref T == Value.none) = true))]
        have out : wpAny (model X.prog X.w) X.A (setFlight (.ref a) X.env.frame)
            (fun _ s4 => wpAny (model X.prog X.w) X.A (throw (.ref a) : Sem Flow) (SP X pins D) X.xe s4) X.xe { s' with heap := hp3 } := by
          rw [hf]
          refine HandSPX.setFlight_upZ fl3 (fun hp4 hh4 up4 => wpAny_throw (tk _ _ ?_))
          exact ⟨a, B, sI, pins, τ', G', cls, d, rfl, J, nb, (up.trans up3).trans up4, .inr (.inr (hs ▸ hh4)), na, os, ag, w0⟩
        first
          | exact wpAny_bind out
          | exact wpAny_bind (wpAny_pure (wpAny_bind out))
      | @more x n c i ts b0 su p1 p2 hs2 l2 named at_ loc suite rest ih =>
        intro w0
        obtain ⟨b, hb1, yes, no⟩ := w0
        refine wpAny_handleBy_cons (codeAny_handlers_test ?_) (fun q => nomatch q)
        have LT : PySem.W.Looks (model X.prog X.w) hp3 (typeOf (.ref a)) cls := fun A Q E s k q => wpAny_typeOf_ref (k _ _ ho3) (hz3.1 ▸ q)
        have LM := PySem.W.exm_one (M := model X.prog X.w) J3.kIn LT hb1
        have test : ∀ {Q : Value → Shared → Prop} {E : Value → Shared → Prop}, Q c { s' with heap := hp3 } →
            wpAny (model X.prog X.w) (X.A.mark (some (.ref a))) (eval (.Name x p1) X.env) Q E { s' with heap := hp3 } := by
          intro Q E q
          rcases named with ⟨g1, g2, hm | ⟨hm, hv, hnn⟩⟩
          · exact ld_glob (X := X.suite a ((a, ob3) :: (X.pn ++ pins))) S3 g1 hm q g2
          · exact ld_blt (X := X.suite a ((a, ob3) :: (X.pn ++ pins))) S3 g1 hm hv q hnn g2
        refine test (LM.here ?_)
        cases b with
        | false =>
          show wpAny _ X.A (handleBy (.ref a) X.env hs2) _ _ _
          exact ih (no rfl)
        | true =>
          apply codeAny_handlers_suite_as
          refine HandSPX.lands_againZ fl3 (fun hp4 fl4 up4 => ?_)
          have J4 : Inv X pins τ' G' { s' with heap := hp4 } := J.landed nb fl4.1 ((up.trans up3).trans up4) os ag
          obtain ⟨ob4, vs4, ho4, hz4, hd4⟩ := fl4.there
          have S4 := J4.suite ho4 hd4 na nLoc nOut
          refine store_ok (X := X.suite a ((a, ob4) :: (X.pn ++ pins))) (v := .ref a) S4 hN at_ (.inl loc) rfl (fun s5 S5 => ?_) (.inr loc)
          have ends : ∀ {s6 : Shared} {τ6 : L2.St} {G6 : Hp} {Q : Shared → Prop}, Inv (X.suite a ((a, ob4) :: (X.pn ++ pins))) [] τ6 G6 s6 →
              (∀ s7, Inv X pins (τ6.set i none) G6 s7 → Q s7) →
              wpAny (model X.prog X.w) X.A (do bindName X.env n .none; unbindBehindTheSuite X.env n p2) (fun _ s7 => Q s7) X.xe s6 :=
            fun {s6 τ6 G6 Q} S6 hq => gone_ok (S6.unsuite okX) hN at_ loc hq
          refine wpAny_mono ((suite a ob4 cls d (X.pn ++ pins) hz4 ⟨_, hd4⟩).run [] s5 _ G' _ S5 (yes rfl J.len a na)) (fun f s6 hsp => ?_) (fun _ _ z => z.elim)
          cases f with
          | ret u =>
            obtain ⟨v6, τ6, G6, S6, r6, q6⟩ := hsp
            exact ends S6 (fun s7 J7 => ⟨_, _, _, J7, r6, q6⟩)
          | next =>
            obtain ⟨τ6, G6, S6, q6⟩ := hsp
            exact ends S6 (fun s7 J7 => ⟨_, _, J7, q6⟩)
          | brk =>
            obtain ⟨τ6, G6, S6, q6⟩ := hsp
            exact ends S6 (fun s7 J7 => ⟨_, _, J7, q6⟩)
          | cont =>
            obtain ⟨τ6, G6, S6, q6⟩ := hsp
            exact ends S6 (fun s7 J7 => ⟨_, _, J7, q6⟩)
    exact go cl w
  · cases f with
    | ret u =>
      obtain ⟨v, τ1, G1, J1, r, q⟩ := hsp
      exact ⟨v, τ1, G1, J1.ofTry okX, r, q⟩
    | next =>
      obtain ⟨τ1, G1, J1, q⟩ := hsp
      exact wpAny_execs_nil ⟨τ1, G1, J1.ofTry okX, q⟩
    | brk =>
      obtain ⟨τ1, G1, J1, q⟩ := hsp
      exact ⟨τ1, G1, J1.ofTry okX, q⟩
    | cont =>
      obtain ⟨τ1, G1, J1, q⟩ := hsp
      exact ⟨τ1, G1, J1.ofTry okX, q⟩
end
end TA2


set_option Elab.async false
set_option linter.all false
set_option maxRecDepth 100000
set_option maxHeartbeats 2000000
/-! try: return [call()] / except A as e: return (word, e.field) / .. , given a lambda -/
namespace Hd
open PySem PySem.Spec PyProof.Rows L2 LamX TA2
/-- what a clause hands back -/
def word (w f : Str) (C : Addr) (i : Nat) : Suite := fun a cls d => tRet (tTup (tCons (tC (.str w)) (tCons (tXf a cls d C f (tVar i)) tNil)))
/-- word, field, class -/
abbrev Row := Str × Str × Addr
def rowsOf (i : Nat) (l : List Row) : List (Value × Nat × Suite) := l.map fun r => (.ref r.2.2, i, word r.1 r.2.1 r.2.2 i)
theorem one_clause {X : Cx} {w f x n : Str} {i k1 k2 : Nat} {C : Addr} {p1 p2 p3 p4 p5 p6 p7 : Pos} {hs : List ExceptHandler} {l : List Row} (T : XfC X.K C) (no : PySem.W.findIn X.K (.ref C) f = some none)
    (named : Names X x (.ref C)) (at_ : X.N[i]? = some n) (loc : X.env.kindOf n = some .local) (rest : Clauses X hs (rowsOf i l))
    (hd : (n == ("__debug__" : Str)) = false := by decide) (hcd : (n == ("__classdict__" : Str)) = false := by decide)
    (hb : attributeBase (.Name n p4) f X.env (eval (.Name n p4) X.env) = eval (.Name n p4) X.env := by rfl) :
    Clauses X (.ExceptHandler (some (.Name x p1)) (some n) [.Return (some (.Tuple [.Constant (.str w) k1 p3, .Attribute (.Name n p4) f p5] k2 p6)) p7] p2 :: hs) (rowsOf i ((w, f, C) :: l)) :=
  .more named at_ loc (fun a oe cls d pn hz hf => pss_one (ps_ret (pe_tup (pa_cons pe_str (pa_cons (pe_xf T no hz hf (pe_var at_ (.inl loc) hd hcd) hb) pa_nil))))) rest
/-- the wish, free of slots -/
def hE (K : PySem.W.Frag) (Q : VK) : List Row → XK
  | [] => fun _ _ _ => False
  | (w, f, C) :: more => fun cls d H => ∃ b, PySem.W.exmOne K cls (.ref C) = some b ∧
      (b = true → cls = .ref C ∧ ∃ (dd : Addr) (fs : List (Str × V)) (v : V), d = some dd ∧ H dd = some (.xd fs) ∧ fs.lookup f = some v ∧ ∀ p, H p = none → Q (.ref p) (upd H p (.tup [.str w, v]))) ∧
      (b = false → hE K Q more cls d H)
theorem hE_wish {K : PySem.W.Frag} {Q : VK} {nn i : Nat} {D : Ends} (hi : i < nn) (hD : D.rt = Q) : ∀ {l : List Row} {cls : Value} {d : Option Addr} {σ : L2.St} {H : Hp}, hE K Q l cls d H → wish K nn (fun _ _ _ _ => False) D (rowsOf i l) cls d σ H
  | [], _, _, _, _, h => h
  | (w, f, C) :: more, cls, d, σ, H, h => by
    obtain ⟨b, e, yes, no⟩ := h
    refine ⟨b, e, fun hb hl a _ => ?_, fun hb => hE_wish hi hD (no hb)⟩
    obtain ⟨ec, dd, fs, v, ed, eH, ef, q⟩ := yes hb
    have at_ : (σ.set i (some (.ref a)))[i]? = some (some (V.ref a)) := by
      rw [List.getElem?_set_self (by omega)]
    refine ⟨.ref a, at_, rfl, ec, dd, fs, v, ed, eH, ef, (by show 2 ≤ sizeLine; decide), ?_⟩
    show ∀ p, H p = none → D.rt (.ref p) (upd H p (.tup [.str w, v]))
    rw [hD]
    exact q
/-- what such a def makes of the lambda's reading -/
def TTh (K : PySem.W.Frag) (l : List Row) : (XK → Hp → VK → Prop) → Hp → VK → Prop := fun tl H Q =>
  tl (hE K Q l) H (fun v H' => ∀ p, H' p = none → Q (.ref p) (upd H' p (.lst [v])))
theorem heard_gives {X : Cx} {Ng : List Str} {x a q : Str} {sg : Scope} {g : Addr} {cdg : Value} {i : Nat} {l : List Row} {h0 : ExceptHandler} {hs : List ExceptHandler} {p1 p2 p3 p4 p5 : Pos} (hN : Ng.Nodup) (hi : i < Ng.length)
    (cl : ∀ (s : Shared) (H : Hp), Clauses (cxOf C8.CX0 X.prog X.w X.K X.mg X.base Ng x sg g cdg X.A X.stack s H C8.E0).nox (h0 :: hs) (rowsOf i l))
    (h0' : ∀ f : Addr, (L2.start Ng [V.ref f])[0]? = some (some (V.ref f))) :
    GivesTo X Ng x sg g cdg [.Try [.Return (some (.List [.Call (.Name a p1) [] [] p2] p3)) p4] (h0 :: hs) [] [] p5] a q (TTh X.K l) := by
  intro f c' s H Q tl act hc h
  refine ⟨_, pss_one (try_as (X := (cxOf C8.CX0 X.prog X.w X.K X.mg X.base Ng x sg g cdg X.A X.stack s H C8.E0).nox)
      (tb := fun W D σ H => ∃ Ech : XK, (∀ cls d σ' H', Ech cls d H' → W cls d σ' H') ∧ σ[0]? = some (some (.ref f)) ∧ H c' = some (CodeO c' q) ∧ tl Ech H (fun v H' => ∀ p, H' p = none → D.rt (.ref p) (upd H' p (.lst [v]))))
      rfl rfl hN LamX.takes0 (fun W pn xe tk _ => ?_) (cl s H)), ?_⟩
  · constructor
    intro pins s' σ H' D I ⟨Ech, hW, k1, k2, k3⟩
    have hp := act W pn xe Ech p1 p2 tk hW
    have whole := pss_one (ps_ret (pos := p4) (pe_lst (pos := p3) (pa_cons hp pa_nil)))
    exact whole.run pins s' σ H' D I ⟨k1, k2, by
      refine Eq.mp ?_ k3
      congr 1
      funext v H1
      refine propext ⟨fun z => ⟨(by show 1 ≤ sizeLine; decide), z⟩, fun z => z.2⟩⟩
  · exact ⟨hE X.K Q l, fun cls d σ' H' z => hE_wish (D := { nx := fun _ H' => Q .non H', rt := Q }) hi rfl z, h0' f, hc, h⟩
end Hd


set_option Elab.async false
set_option linter.all false
set_option maxRecDepth 100000
set_option maxHeartbeats 2000000
/-! a lambda with one parameter that has an integer as its default, handed to a def that calls it without arguments -/
namespace LmD
open PySem PySem.Spec PyProof.Rows L2 LamX PySem.W
/-- the function's object: its default's tuple at T -/
abbrev fdD (qual : Str) (params : Arguments) (body : Expr) (scope : Scope) (cl : List (Str × Addr)) (T : Addr) (pm cdv ct : Value) : FuncData :=
  { kla_fn "<lambda>" qual params body scope cl pm cdv ct with defaults := .ref T }
abbrev obD (qual : Str) (params : Arguments) (body : Expr) (scope : Scope) (cl : List (Str × Addr)) (T : Addr) (pm cdv ct : Value) : Obj :=
  { cls := .type "function", data := .func (fdD qual params body scope cl T pm cdv ct) }
section
variable {M : Model} {A : Around} {E : Value → Shared → Prop} {s : Shared} {qual : Str} {params : Arguments} {body : Expr} {scope : Scope} {env : Env} {c P T : Addr} {ps : Array Value} {pos : Pos} {ln : Nat} {mg : Str → Option Value}
  {clos : List (Str × Addr)} {Q : Value → Shared → Prop}
theorem tailNew (hcl : closureFor scope env = pure clos) (g0 : env.globals = mainGlobals) (hg : s.heap.Ns mainGlobals mg) (hcode : env.code = .ref c) (C : CodeHd s.heap c P)
    (hP : s.heap.get? P = some (tabObj ps)) (ht : TriplesOk ps.toList) (hnf : codeAmong pos ps.toList = none) (hgP : mainGlobals ≠ P) (hb : s.heap.BuiltinsAt mg P)
    (h : ∀ c' ctv h' tk, Heap.ExtBut P s.heap h' → s.heap.objs.size ≤ c' → c' < h'.objs.size → h'.CodeRec (.ref c') qual →
      h'.get? P = some (tabObj (ps ++ #[rawInt pos.line, rawInt pos.col, .ref c'])) →
      Q (.ref h'.objs.size) { s with heap := h'.push (obD qual params body scope clos T ((mg "__name__").getD .none) (.ref c') ctv), toks := tk }) :
    wpAny M A (makeTail "<lambda>" qual params (.expr body) scope env (.ref T) .none none pos ln) Q E s := by
  obtain ⟨bm, ob, e1, e2, _, e3, e4, e5, e6, e7⟩ := hb
  unfold makeTail
  rw [hcl, g0]
  refine wpAny_bind (wpAny_pure ?_)
  by_cases hz : clos = []
  · subst hz
    simp only [List.isEmpty_nil, if_true]
    refine wpAny_bind (wpAny_pure (wpAny_bind (wpAny_functionCodeX hcode (C.code hP ht) (C.tab hP) hnf ?_)))
    intro c' h' tk hx hge hlt _ hrec htb _
    refine wpAny_bind (wpAny_builtinsFor (hg.extBut hx hgP) e1 e2 (hx _ _ e3 e4) e5 e6 e7 (wpAny_bind (wpAny_nsGet (hg.extBut hx hgP) ?_)))
    exact wpAny_bind (wpAny_pure (wpAny_newObj_type (h c' .none h' tk hx hge hlt hrec htb.2) (by size_fits)))
  · have hz' : clos.isEmpty = false := by
      cases clos with
      | nil => exact absurd rfl hz
      | cons _ _ => rfl
    simp only [hz', Bool.false_eq_true, if_false]
    have up : ∀ {oT : Obj} b o, s.heap.get? b = some o → (s.heap.push oT).get? b = some o := fun b o e => Heap.get?_push_of_some _ e
    refine wpAny_bind (wpAny_newTextTuple (wpAny_bind (wpAny_functionCodeX hcode ((C.keeps up).code (up _ _ hP) ht) ((C.keeps up).tab (up _ _ hP)) hnf ?_)))
    intro c' h' tk hx hge hlt _ hrec htb _
    have hx' : Heap.ExtBut P s.heap h' := fun b o nb e => hx b o nb (up _ _ e)
    have hgn := (hg.push _).extBut hx hgP
    have big : s.heap.objs.size ≤ c' := Nat.le_trans (by rw [Heap.size_push]; omega) hge
    refine wpAny_bind (wpAny_builtinsFor hgn e1 e2 (hx' _ _ e3 e4) e5 e6 e7 (wpAny_bind (wpAny_nsGet hgn ?_)))
    exact wpAny_bind (wpAny_pure (wpAny_newObj_type (h c' _ h' tk hx' big hlt hrec htb.2) (by size_fits)))
theorem tailOld {cv : Value} (hcl : closureFor scope env = pure clos) (g0 : env.globals = mainGlobals) (hg : s.heap.Ns mainGlobals mg) (hcode : env.code = .ref c) (C : CodeHd s.heap c P)
    (hP : s.heap.get? P = some (tabObj ps)) (ht : TriplesOk ps.toList) (hf : codeAmong pos ps.toList = some cv) (hb : s.heap.BuiltinsAt mg P)
    (h : ∀ (ctv : Value) (h' : Heap) (tk : Tok), (∀ b o, s.heap.get? b = some o → h'.get? b = some o) → s.heap.objs.size ≤ h'.objs.size →
      Q (.ref h'.objs.size) { s with heap := h'.push (obD qual params body scope clos T ((mg "__name__").getD .none) cv ctv), toks := tk }) :
    wpAny M A (makeTail "<lambda>" qual params (.expr body) scope env (.ref T) .none none pos ln) Q E s := by
  obtain ⟨bm, ob, e1, e2, _, e3, e4, e5, e6, e7⟩ := hb
  unfold makeTail
  rw [hcl, g0]
  refine wpAny_bind (wpAny_pure ?_)
  by_cases hz : clos = []
  · subst hz
    simp only [List.isEmpty_nil, if_true]
    refine wpAny_bind (wpAny_pure (wpAny_bind (wpAny_functionCode_hit hcode (C.code hP ht) hf ?_)))
    refine wpAny_bind (wpAny_builtinsFor hg e1 e2 e4 e5 e6 e7 (wpAny_bind (wpAny_nsGet hg ?_)))
    exact wpAny_bind (wpAny_pure (wpAny_newObj_type (h .none s.heap s.toks (fun _ _ e => e) (Nat.le_refl _)) (by size_fits)))
  · have hz' : clos.isEmpty = false := by
      cases clos with
      | nil => exact absurd rfl hz
      | cons _ _ => rfl
    simp only [hz', Bool.false_eq_true, if_false]
    have up : ∀ {oT : Obj} b o, s.heap.get? b = some o → (s.heap.push oT).get? b = some o := fun b o e => Heap.get?_push_of_some _ e
    refine wpAny_bind (wpAny_newTextTuple (wpAny_bind (wpAny_functionCode_hit hcode ((C.keeps up).code (up _ _ hP) ht) hf ?_)))
    refine wpAny_bind (wpAny_builtinsFor (hg.push _) e1 e2 (up _ _ e4) e5 e6 e7 (wpAny_bind (wpAny_nsGet (hg.push _) ?_)))
    exact wpAny_bind (wpAny_pure (wpAny_newObj_type (h _ _ s.toks up (by rw [Heap.size_push]; omega)) (by size_fits)))
end
/-- the parameters: one, x, with the default i -/
def one (x : Str) (i : Int) (p1 p2 : Pos) (j : Nat) : Arguments :=
  { posonlyargs := [], args := [{ arg := x, annotation := none, pos := p1 }], vararg := none, kwonlyargs := [], kw_defaults := [], kwarg := none, defaults := [.Constant (.int i) j p2] }
theorem evalD {M : Model} {A : Around} {E : Value → Shared → Prop} {s : Shared} {x : Str} {i : Int} {p1 p2 pos : Pos} {j : Nat} {body : Expr} {scope : Scope} {env : Env} {Q : Value → Shared → Prop}
    (h : wpAny M A (makeTail "<lambda>" (env.qual ++ "<lambda>") (one x i p1 p2 j) (.expr body) scope env (.ref s.heap.objs.size) .none none pos pos.line) Q E
      { s with heap := s.heap.push { cls := .type "tuple", data := .seq #[.int i s.toks] }, toks := s.toks + 1 }) :
    wpAny M A (eval (.Lambda (one x i p1 p2 j) body scope pos) env) Q E s := by
  rw [arm_eval_Lambda]
  show wpAny M A (do let dv ← evalAll [eval (.Constant (.int i) j p2) env]; let kdv ← holding dv (evalAllOpt []); makeFunction "<lambda>" (env.qual ++ "<lambda>") (one x i p1 p2 j) (.expr body) scope env dv kdv [] pos pos.line) Q E s
  refine wpAny_bind (wpAny_bind (wpAny_Constant_int (wpAny_bind (wpAny_holding (wpAny_pure (wpAny_pure ?_))))))
  refine wpAny_bind (wpAny_holding (wpAny_pure ?_))
  rw [makeFunction_eq]
  show wpAny M A (do let d ← newTextTuple [.int i s.toks]; makeTail "<lambda>" (env.qual ++ "<lambda>") (one x i p1 p2 j) (.expr body) scope env d .none none pos pos.line) Q E _
  exact wpAny_bind (wpAny_newTextTuple h)
/-- the default's tuple -/
abbrev tupD (i : Int) (t : Tok) : Obj := { cls := .type "tuple", data := .seq #[.int i t] }
section
variable {X : Cx} {pins : List (Addr × Obj)} {σ : L2.St} {H : Hp} {s : Shared}
theorem makeD {Ts : List (Addr × Str)} {c P : Addr} {x : Str} {i : Int} {p1 p2 pos : Pos} {j : Nat} {body : Expr} {scope : Scope} {E : Value → Shared → Prop} {Q : Value → Shared → Prop} (I : L2.Inv X pins σ H s) (TB : TabB X.base X.mg c P) (hcode : X.env.code = .ref c)
    (hm : (P, X.env.qual ++ "<lambda>") ∈ Ts) (hu : ∀ p ∈ Ts, p.1 = P → p.2 = X.env.qual ++ "<lambda>") (hT : Tabs Ts H) (hfree : ∀ y ∈ scope.names, y.2 = .free → ∃ c, X.env.cells.lookup y.1 = some c)
    (h : ∀ (f c' Ta : Addr) (pm ctv : Value) (H1 : Hp) (s' : Shared) (t : Tok), L2.Inv X pins σ H1 s' → ExtN H H1 → Tabs Ts H1 →
      s'.heap.get? f = some (obD (X.env.qual ++ "<lambda>") (one x i p1 p2 j) body scope (cloFrom X.env.cells scope.names []) Ta pm (.ref c') ctv) → H1 f = none → f ∉ frs X.stack →
      s'.heap.get? Ta = some (tupD i t) → H1 Ta = none → Ta ∉ frs X.stack → H1 c' = some (CodeO c' (X.env.qual ++ "<lambda>")) → Q (.ref f) s') :
    wpAny (model X.prog X.w) X.A (eval (.Lambda (one x i p1 p2 j) body scope pos) X.env) Q E s := by
  refine evalD ?_
  have I0 : L2.Inv X pins σ H { s with heap := s.heap.push (tupD i s.toks), toks := s.toks + 1 } := I.kept fun b o e => Heap.get?_push_of_some _ e
  have atT : (s.heap.push (tupD i s.toks)).get? s.heap.objs.size = some (tupD i s.toks) := Heap.get?_push_size _ rfl
  have noT : H s.heap.objs.size = none := I.hok.fresh (Nat.le_refl _)
  have outside : ∀ a, s.heap.objs.size ≤ a → a ∉ frs X.stack := fun a ha z => by
    rcases List.mem_cons.mp (I.stkSub _ z) with e | e
    · exact Nat.lt_irrefl _ (Nat.lt_of_lt_of_le (e ▸ I.lt) ha)
    · exact I.nofs ha e
  obtain ⟨ps, hP, ht, ha⟩ := hT _ hm
  have sz0 : s.heap.objs.size < (s.heap.push (tupD i s.toks)).objs.size := by rw [Heap.size_push]; omega
  have bP : (s.heap.push (tupD i s.toks)).BuiltinsAt X.mg P := TB.bm.keeps I0.bk
  have hP' : (s.heap.push (tupD i s.toks)).get? P = some { cls := .none, data := .fields ps } := I0.hok P _ hP
  have PT : s.heap.objs.size ≠ P := fun z => by
    rw [← z, noT] at hP
    cases hP
  cases hc : codeAmong pos ps.toList with
  | none =>
    refine tailNew (mg := X.mg) (c := c) (P := P) (ps := ps) (closure_ok hfree) I0.ok.glob (I0.mod.glob.keeps I0.bk) hcode (TB.code.keeps I0.bk) hP' ht hc TB.gP bP (fun c' ctv h' tk hx hge hlt hrec htb => ?_)
    obtain ⟨c2, oc, vs, t, e2, hoc, hd, hv⟩ := hrec
    cases e2
    have szl : (s.heap.push (tupD i s.toks)).objs.size ≤ h'.objs.size := Nat.le_trans hge (Nat.le_of_lt hlt)
    have nC : H c' = none := I0.hok.fresh hge
    have J := inv_table (t' := tk) (more := #[rawInt pos.line, rawInt pos.col, .ref c'])
      (h' := h'.push (obD (X.env.qual ++ "<lambda>") (one x i p1 p2 j) body scope (cloFrom X.env.cells scope.names []) s.heap.objs.size ((X.mg "__name__").getD .none) (.ref c') ctv)) I0 hP
      (fun b o nb e => Heap.get?_push_of_some _ (hx b o nb e)) (Heap.get?_push_of_some _ htb) hge ⟨oc, vs, t, Heap.get?_push_of_some _ hoc, hd, hv⟩
    have grown : ExtN H (upd (upd H P (.tbl (ps ++ #[rawInt pos.line, rawInt pos.col, .ref c']))) c' (CodeO c' (X.env.qual ++ "<lambda>"))) := by
      intro b o e n
      have nb : b ≠ P := fun z => n ps (Option.some.inj (e.symm.trans (z ▸ hP)))
      rw [upd_ne (ne_of_none e nC), upd_ne nb]
      exact e
    have asList : (ps ++ #[rawInt pos.line, rawInt pos.col, .ref c']).toList = ps.toList ++ [rawInt pos.line, rawInt pos.col, .ref c'] := by simp
    have tabs' : Tabs Ts (upd (upd H P (.tbl (ps ++ #[rawInt pos.line, rawInt pos.col, .ref c']))) c' (CodeO c' (X.env.qual ++ "<lambda>"))) := by
      intro p hp
      by_cases hb : p.1 = P
      · rw [hu p hp hb, hb]
        refine ⟨_, (upd_ne (ne_of_none hP nC)).trans upd_same, by rw [asList]; exact PySem.TriplesOk_snoc _ _ _ _ ht, fun p' cv hcv => ?_⟩
        rw [asList] at hcv
        rcases among_app _ ht hcv with z | z
        · obtain ⟨c0, q1, q2⟩ := ha p' cv z
          exact ⟨c0, q1, grown _ _ q2 codeO_ne⟩
        · exact ⟨c', z, upd_same⟩
      · obtain ⟨ps', a1, a2, a3⟩ := hT p hp
        refine ⟨ps', by rw [upd_ne (ne_of_none a1 nC), upd_ne hb]; exact a1, a2, fun p' cv hcv => ?_⟩
        obtain ⟨c0, q1, q2⟩ := a3 p' cv hcv
        exact ⟨c0, q1, grown _ _ q2 codeO_ne⟩
    have old : ∀ {b : Addr}, b ≠ c' → b ≠ P → H b = none → upd (upd H P (.tbl (ps ++ #[rawInt pos.line, rawInt pos.col, .ref c']))) c' (CodeO c' (X.env.qual ++ "<lambda>")) b = none := fun {b} n1 n2 e => by rw [upd_ne n1, upd_ne n2]; exact e
    refine h h'.objs.size c' s.heap.objs.size ((X.mg "__name__").getD .none) ctv _ _ s.toks J grown tabs' (Heap.get?_push_size _ rfl) ?_ (outside _ (Nat.le_trans (Nat.le_of_lt sz0) szl)) (Heap.get?_push_of_some _ (hx _ _ PT atT)) ?_ (outside _ (Nat.le_refl _)) upd_same
    · exact old (Nat.ne_of_gt hlt) (Nat.ne_of_gt (Nat.lt_of_lt_of_le (Heap.lt_size hP') szl)) (I0.hok.fresh szl)
    · exact old (Nat.ne_of_lt (Nat.lt_of_lt_of_le sz0 hge)) PT noT
  | some cv =>
    obtain ⟨c', e, hco⟩ := ha pos cv hc
    subst e
    refine tailOld (mg := X.mg) (c := c) (P := P) (ps := ps) (closure_ok hfree) I0.ok.glob (I0.mod.glob.keeps I0.bk) hcode (TB.code.keeps I0.bk) hP' ht hc bP (fun ctv h' tk hx hsz => ?_)
    have J : L2.Inv X pins σ H { s with heap := h'.push (obD (X.env.qual ++ "<lambda>") (one x i p1 p2 j) body scope (cloFrom X.env.cells scope.names []) s.heap.objs.size ((X.mg "__name__").getD .none) (.ref c') ctv), toks := tk } :=
      I.kept fun b o e => Heap.get?_push_of_some _ (hx b o (Heap.get?_push_of_some _ e))
    exact h h'.objs.size c' s.heap.objs.size ((X.mg "__name__").getD .none) ctv H _ s.toks J (ExtN.refl H) hT (Heap.get?_push_size _ rfl) (I0.hok.fresh hsz) (outside _ (Nat.le_trans (Nat.le_of_lt sz0) hsz)) (Heap.get?_push_of_some _ (hx _ _ atT)) noT (outside _ (Nat.le_refl _)) hco
end
/-! ### the names of such a lambda -/
/-- x its parameter; no cells; the others are captured or global -/
structure ScD (sc scope : Scope) (x : Str) : Prop where
  kind : scope.kind = .function
  co : scope.isCoroutine = false
  gen : scope.isGenerator = false
  own : ∀ y ∈ scope.names, y.2 ≠ .cell ∧ (y.2 = .local → y.1 = x)
  has : scope.names.lookup x = some .local
  free : ∀ y ∈ scope.names, y.2 = .free → sc.names.lookup y.1 = some .cell ∨ sc.names.lookup y.1 = some .free
def scDB (sc scope : Scope) (x : Str) : Bool :=
  decide (scope.kind = .function) && (!scope.isCoroutine) && (!scope.isGenerator) && decide (scope.names.lookup x = some .local) &&
    scope.names.all fun y => (!decide (y.2 = .cell)) && ((!decide (y.2 = .local)) || decide (y.1 = x)) && ((!decide (y.2 = .free)) || decide (sc.names.lookup y.1 = some .cell) || decide (sc.names.lookup y.1 = some .free))
theorem scD_by {sc scope : Scope} {x : Str} (h : scDB sc scope x = true) : ScD sc scope x := by
  unfold scDB at h
  simp only [Bool.and_eq_true, Bool.or_eq_true, Bool.not_eq_true', decide_eq_true_eq, decide_eq_false_iff_not, List.all_eq_true] at h
  obtain ⟨⟨⟨⟨h1, h2⟩, h3⟩, h5⟩, h4⟩ := h
  refine ⟨h1, h2, h3, fun y hy => ⟨(h4 y hy).1.1, fun e => ?_⟩, h5, fun y hy e => ?_⟩
  · rcases (h4 y hy).1.2 with z | z
    · exact absurd e z
    · exact z
  · rcases (h4 y hy).2 with (z | z) | z
    · exact absurd e z
    · exact .inl z
    · exact .inr z
theorem ScD.look {X : Cx} {scope : Scope} {x : Str} (S : ScD X.env.scope scope x) (ok : X.Ok) : ∀ y ∈ scope.names, y.2 = .free → ∃ c, X.env.cells.lookup y.1 = some c := fun y hy e =>
  ok.has _ (S.free y hy e)
section
variable {X : Cx} {pins : List (Addr × Obj)} {σ : L2.St} {H HZ : Hp} {s s1 : Shared}
theorem startD {A : Around} {outer : List Env} {E : XK} {scope : Scope} {x : Str} {v : Value} {f c' : Addr} {h₁ : Heap} {tk : Nat} (I : L2.Inv X pins σ H s) (S : ScD X.env.scope scope x) (nx : ∀ i : Nat, X.N[i]? ≠ some x)
    (e0 : Env0 X.prog X.w X.K X.mg X.base A outer s1 HZ) (hd : A.handled = none) (un : Un (frs X.stack) [] H HZ s.heap s1.heap)
    (hns : h₁.Ns s1.heap.objs.size fun y => ([(x, v)] : List (Str × Value)).reverse.lookup y) (kp : ∀ b o, s1.heap.get? b = some o → h₁.get? b = some o) :
    L2.Inv (lamCx X A outer s1 HZ E scope f c') [] σ HZ { s1 with heap := h₁, toks := tk } := by
  have hfree := S.look I.ok
  have fromCells : ∀ {y c}, (cloFrom X.env.cells scope.names []).lookup y = some c → X.env.cells.lookup y = some c := by
    intro y c e
    rcases cloFrom_mem (PySem.mem_of_lookup e) with hm | ⟨k1, k2⟩
    · cases hm
    · obtain ⟨c1, hc⟩ := hfree _ k1 rfl
      have hc : X.env.cells.lookup y = some c1 := hc
      have : c = c1 := by rw [k2, hc] <;> rfl
      rw [this]
      exact hc
  have toCells : ∀ {y}, scope.names.lookup y = some .free → ∃ c, (cloFrom X.env.cells scope.names []).lookup y = some c := fun {y} hl =>
    mem_lookup (cloFrom_has (cells := X.env.cells) (acc := []) (PySem.mem_of_lookup hl))
  have cellKept : ∀ {c : Addr} {u : Option Value}, H c = none → s.heap.IsCell c u → h₁.IsCell c u := by
    intro c u n ⟨o, ho, hdt⟩
    obtain ⟨sl, q⟩ := un.any ho n (by simp)
    exact ⟨_, kp _ _ q, hdt⟩
  have none_ : ∀ b : Addr, b ∉ (lamCx X A outer s1 HZ E scope f c').ex := fun b z => nomatch (show b ∈ ([] : List Addr) from z)
  refine ⟨⟨e0.mod, S.kind, rfl, rfl, Nat.le_refl _, fun y z c k1 k2 => I.ok.inj y z c (fromCells k1) (fromCells k2), fun y hy => ?_, fun y c z _ => (Bool.false_ne_true z).elim, fun _ => hd,
      Around.frames_deeper e0.frames, .inr ⟨rfl, rfl⟩, fun b z => absurd z (none_ b), e0.bs, e0.bsz, fun b _ _ => none_ b, fun b z => absurd z (none_ b), e0.funs, e0.frf⟩,
    rfl, e0.bare, Un.kept kp, ⟨_, hns, fun i y u k1 k2 k3 => ?_⟩, fun y c e => ?_, e0.hok.fresh (Nat.le_refl _), fun y c e => ?_, fun q hq => (List.not_mem_nil (show q ∈ ([] : List (Addr × Obj)) from hq)).elim, e0.hok.kept kp, I.len⟩
  · have hy : scope.names.lookup y = some .cell ∨ scope.names.lookup y = some .free := hy
    rcases hy with hy | hy
    · exact absurd rfl (S.own _ (PySem.mem_of_lookup hy)).1
    · exact toCells hy
  · have k3 : Vis scope y := k3
    rcases k3 with k | k | k
    · have : y = x := (S.own _ (PySem.mem_of_lookup k)).2 rfl
      exact absurd (this ▸ k1) (nx i)
    · exact absurd rfl (S.own _ (PySem.mem_of_lookup k)).1
    · obtain ⟨m, hn, hl⟩ := I.loc
      have outerK := S.free _ (PySem.mem_of_lookup k) rfl
      obtain ⟨w', r, q⟩ := hl i y u k1 k2 (outerK.elim (fun z => .inr (.inl z)) (fun z => .inr (.inr z)))
      obtain ⟨c2, h2⟩ := toCells k
      refine ⟨w', r, .inr ⟨.inr k, c2, h2, ?_⟩⟩
      have c1 := fromCells h2
      rcases q with ⟨kl, _⟩ | ⟨_, c3, e', z⟩
      · have kl : X.env.scope.names.lookup y = some .local := kl
        rcases outerK with o2 | o2 <;> rw [show X.env.scope.names.lookup y = _ from o2] at kl <;> cases kl
      · rw [c1] at e'
        cases e'
        exact cellKept (I.freeC y _ c1) z
  · obtain ⟨w', z⟩ := I.cell y c (fromCells e)
    exact ⟨w', cellKept (I.freeC y c (fromCells e)) z⟩
  · obtain ⟨u, o, ho, hdt⟩ := I.cell y c (fromCells e)
    exact un.free c o ho (I.freeC y c (fromCells e)) (by simp)
/-- how the call without arguments binds -/
def BindD (x : Str) (i : Int) (params : Arguments) (body : Expr) (scope : Scope) : Prop :=
  ∀ (qual : Str) (cl : List (Str × Addr)) (T : Addr) (pm cv ctv : Value) (t : Tok), ∃ k, bindArgs (fdD qual params body scope cl T pm cv ctv) ⟨[], []⟩ = seqItems? (.ref T) >>= k ∧ k (some #[.int i t]) = pure [(x, .int i t)]
/-- a(), in the def that got the lambda -/
theorem actD {CXg : CXT} {Eg : XK} {Ng : List Str} {qg : Str} {sg : Scope} {g f c' Ta : Addr} {cdg pm ctv : Value} {params : Arguments} {body : Expr} {scope : Scope} {k i : Nat} {a x : Str} {n : Int} {t : Tok} {pn : List (Addr × Obj)} {xe : Value → Shared → Prop} {W : WX} {E : XK} {tb : TE} {p1 p2 : Pos}
    (I : L2.Inv X pins σ H s) (S : ScD X.env.scope scope x) (nx : ∀ i : Nat, X.N[i]? ≠ some x)
    (hf : s.heap.get? f = some (obD (X.env.qual ++ "<lambda>") params body scope (cloFrom X.env.cells scope.names []) Ta pm (.ref c') ctv)) (hfn : H f = none) (hfr : f ∉ frs X.stack)
    (hT : s.heap.get? Ta = some (tupD n t)) (hTn : H Ta = none) (hTr : Ta ∉ frs X.stack) (hb : BindD x n params body scope)
    (tk : Takes ((cxOf CXg X.prog X.w X.K X.mg X.base Ng qg sg g cdg X.A X.stack s H Eg).tr pn xe) W) (hW : ∀ cls d σ' H', E cls d H' → W cls d σ' H') (hr : Room (k + 1) (X.A.deeper (envOfC qg sg s.heap.objs.size g cdg)))
    (hbody : ∀ (A : Around) (outer : List Env) (s : Shared) (H : Hp), Room k (A.deeper (lamEnv X scope s.heap.objs.size f c')) → PE (lamCx X A outer s H E scope f c') body tb)
    (hN : Ng[i]? = some a) (hv : Vis sg a) (hd : (a == ("__debug__" : Str)) = false := by decide) (hcd : (a == ("__classdict__" : Str)) = false := by decide) :
    PE ((cxOf CXg X.prog X.w X.K X.mg X.base Ng qg sg g cdg X.A X.stack s H Eg).tr pn xe) (.Call (.Name a p1) [] [] p2)
      (fun σZ HZ Q => σZ[i]? = some (some (.ref f)) ∧ HZ c' = some (CodeO c' (X.env.qual ++ "<lambda>")) ∧ tb σ HZ Q) := by
  constructor
  intro pinsZ sZ σZ HZ Q IZ ⟨hs, hc, ht⟩
  refine wpAny_Call_Name_kw (thn ((pe_var (pos := p1) (i := i) hN hv hd hcd).run pinsZ sZ σZ HZ (fun v H1 => v = .ref f ∧ H1 = HZ) IZ ⟨.ref f, hs, rfl, rfl⟩) (fun u s1 ⟨v, H1, I1, r1, ev, eH⟩ => ?_))
  subst ev
  subst eH
  obtain rfl : u = Value.ref f := r1
  have nil_ : ∀ b : Addr, b ∉ ([] : List Addr) := fun b z => nomatch z
  have of1 := I1.base.keep f _ hf hfn hfr (nil_ f)
  have oT1 : s1.heap.get? Ta = some (tupD n t) := I1.base.keep Ta _ hT hTn hTr (nil_ Ta)
  refine PySem.W.callWith_F0 ⟨_, _, _, _, of1⟩ ?_
  have un : Un (frs X.stack) [] H H1 s.heap s1.heap := I1.base
  obtain ⟨⟨oc, vs, tq, hoc, hdc, hvc⟩, _, _⟩ := I1.hok c' _ hc
  have rc : codeAny (model X.prog X.w) (X.A.deeper (envOfC qg sg s.heap.objs.size g cdg)) (.call (.ref f) ⟨[], []⟩)
      (CR (L2.CX X.prog X.w) (envOfC qg sg s.heap.objs.size g cdg :: X.stack) X.prog X.w H1 s1 Q E) s1 := by
    refine PySem.W.kla_callFunE hr.depth of1 rfl S.co S.gen rfl ⟨c', oc, vs, tq, rfl, hoc, hdc, hvc⟩ ?_
    obtain ⟨kk, b1, b2⟩ := hb (X.env.qual ++ "<lambda>") (cloFrom X.env.cells scope.names []) Ta pm (.ref c') ctv t
    refine BindsTo.of_defaults (T := Ta) (o := tupD n t) rfl oT1 rfl b1 b2 _ _ _ _ ?_
    refine wpAny_newFunctionEnv (fun y hy => (S.own y hy).1) (fun y hy => ?_) (fun h₁ hns hsb => ⟨I1.nolimit.fresh _ hsb, ?_⟩) S.kind
    · obtain rfl : y = (x, Value.int n t) := List.mem_singleton.mp hy
      exact S.has
    show codeAny _ _ (.expr body (lamEnv X scope s1.heap.objs.size f c')) _ _
    have kp : ∀ b o, s1.heap.get? b = some o → h₁.get? b = some o := fun b o e => hsb.extBut b o (Nat.ne_of_lt (Heap.lt_size e)) (Heap.get?_push_of_some _ e)
    have J := startD (tk := s1.toks + ([(x, Value.int n t)] : List (Str × Value)).length) (E := E) (f := f) (c' := c') I S nx I1.env0 hr.hd un hns kp
    refine PySem.W.kla_codeExpr (wpAny_mono ((hbody _ _ s1 H1 (hr.deeper _)).run [] _ _ H1 Q J ht) (fun v s' ⟨w', H', J', rv, q⟩ => ?_) (fun _ _ hq => hq))
    exact ⟨w', H', J'.os, J'.bare, J'.base, J'.hok, rv, q⟩
  have hx : Passes (L2.CX X.prog X.w) ((cxOf CXg X.prog X.w X.K X.mg X.base Ng qg sg g cdg X.A X.stack s H Eg).tr pn xe) E := passes_call tk hW
  refine wpAny_call (codeAny_mono rc (fun r s' hq => ?_))
  rcases r with e | fl
  · exact hx pinsZ σZ H1 s1 e s' I1 hq
  · cases fl with
    | ret u => exact I1.after hq
    | next => exact hq.elim
    | brk => exact hq.elim
    | cont => exact hq.elim
/-- g(lambda x=i: body) -/
theorem pe_lamD {Ts : List (Addr × Str)} {TT : (XK → Hp → VK → Prop) → Hp → VK → Prop} {gn a x : Str} {n : Int} {g c P : Addr} {k j : Nat} {pg : Arguments} {bg : List Stmt} {sg : Scope} {dV kV doc pm cdv ct oc : Value} {an od : Option Addr} {osl : Array (Option Value)} {Ng : List Str}
    {body : Expr} {scope : Scope} {t : XK → TE} {p lpos pos p1 p2 : Pos} (hg : Gl X gn) (hm : X.mg gn = some (.ref g)) (hk : PySem.W.keepIn X.K (.ref g) = true)
    (lk : X.K.lookup g = some ⟨oc, od, .func (PySem.W.fnOf gn gn pg bg sg dV kV doc pm an cdv ct), osl⟩) (hcg : PySem.W.codeIn X.K cdv gn = true) (hb : L2.Binds X.K (PySem.W.fnOf gn gn pg bg sg dV kV doc pm an cdv ct) [a] [])
    (Sg : FnScope Ng [a] sg) (hNg : Ng[0]? = some a) (hva : Vis sg a) (hG : GivesTo X Ng gn sg g cdv bg a (X.env.qual ++ "<lambda>") TT)
    (TB : TabB X.base X.mg c P) (hcode : X.env.code = .ref c) (hmT : (P, X.env.qual ++ "<lambda>") ∈ Ts) (hu : ∀ p ∈ Ts, p.1 = P → p.2 = X.env.qual ++ "<lambda>") (hr : Room (k + 2) X.A)
    (S : ScD X.env.scope scope x) (nx : ∀ i : Nat, X.N[i]? ≠ some x) (hbd : BindD x n (one x n p1 p2 j) body scope)
    (hbody : ∀ (A : Around) (outer : List Env) (s : Shared) (H : Hp) (E : XK) (f c' : Addr), Room k (A.deeper (lamEnv X scope s.heap.objs.size f c')) → PE (lamCx X A outer s H E scope f c') body (t E))
    (hdb : (gn == ("__debug__" : Str)) = false := by decide) (hd : (a == ("__debug__" : Str)) = false := by decide) (hcd : (a == ("__classdict__" : Str)) = false := by decide) :
    PE X (.Call (.Name gn p) [.Lambda (one x n p1 p2 j) body scope lpos] [] pos) (tLam Ts TT t) := by
  constructor
  intro pins s σ H Q I ⟨hT, h⟩
  refine wpAny_Call_Name_kw (ld_glob I hg hm ?_ hdb)
  refine PySem.W.callWith_K (h₀ := X.base) I.ok.mod.kin hk ?_ (by rfl) (by rfl)
  show wpAny _ _ (spliced ((false, eval (.Lambda (one x n p1 p2 j) body scope lpos) X.env) :: backTo pos (starEach [] X.env))) _ _ s
  refine Calls.spliced_cons (makeD I TB hcode hmT hu hT (S.look I.ok) (fun f c' Ta pm' ctv H1 s' tq I1 eN T1 hf hfn hfr hTa hTn hTr hco => ?_))
  refine Calls.spliced_nil ⟨I1.kIn, ?_⟩
  have rc : codeAny (model X.prog X.w) X.A (.call (.ref g) ⟨[.ref f], []⟩) (CR C8.CX0 X.stack X.prog X.w H1 s' Q C8.E0) s' := by
    refine run_ofS (N := Ng) (ps := [a]) (us := [.ref f]) (vs := [.ref f]) lk hcg Sg hr I1.env0 (hb s' [.ref f] I1.kIn rfl) (.cons rfl .nil) rfl (fun hr' => ?_)
    obtain ⟨t', ht', hq'⟩ := hG f c' s' H1 Q (fun E H' Q' => t E σ H' Q')
      (fun W pn xe E p1 p2 tk hW => actD (i := 0) I1 S nx hf hfn hfr hTa hTn hTr hbd tk hW hr' (fun A outer s H hr2 => hbody A outer s H E f c' hr2) hNg hva hd hcd) hco (h H1 eN T1)
    exact ⟨t', ht'.nox, hq'⟩
  refine wpAny_call (codeAny_mono rc (fun r s2 hq => ?_))
  rcases r with e | fl
  · exact (show False from hq).elim
  · cases fl with
    | ret u => exact I1.after hq
    | next => exact hq.elim
    | brk => exact hq.elim
    | cont => exact hq.elim
end
end LmD


set_option Elab.async false
set_option linter.all false
set_option maxRecDepth 100000
set_option maxHeartbeats 400000
namespace Rs
open PySem L2 Bs Fq LamX
/-! ### polynomials -/
inductive FrAll (K : PySem.W.Frag) (H : Hp) : List V → List F → Prop
  | nil : FrAll K H [] []
  | cons {v : V} {vs : List V} {q : F} {qs : List F} : Fr K H v q → FrAll K H vs qs → FrAll K H (v :: vs) (q :: qs)
theorem FrAll.mono {K : PySem.W.Frag} {H H' : Hp} (e : Same H H') : ∀ {vs : List V} {qs : List F}, FrAll K H vs qs → FrAll K H' vs qs
  | _, _, .nil => .nil
  | _, _, .cons a b => .cons (a.mono e) (FrAll.mono e b)
theorem FrAll.len {K : PySem.W.Frag} {H : Hp} : ∀ {vs : List V} {qs : List F}, FrAll K H vs qs → vs.length = qs.length
  | _, _, .nil => rfl
  | _, _, .cons _ b => congrArg (· + 1) (FrAll.len b)
theorem FrAll.get {K : PySem.W.Frag} {H : Hp} : ∀ {vs : List V} {qs : List F} {i : Nat}, FrAll K H vs qs → i < qs.length → ∃ v q, vs[i]? = some v ∧ qs[i]? = some q ∧ Fr K H v q
  | _, _, 0, .cons a _, _ => ⟨_, _, rfl, rfl, a⟩
  | _, _, i + 1, .cons _ b, h => by
    obtain ⟨v, q, h1, h2, h3⟩ := FrAll.get (i := i) b (by simp only [List.length_cons] at h; omega)
    exact ⟨v, q, h1, h2, h3⟩
  | _, _, _, .nil, h => absurd h (by simp)
/-- a tuple of fractions -/
def Po (K : PySem.W.Frag) (H : Hp) (v : V) (qs : List F) : Prop := ∃ a xs, v = .ref a ∧ SqT K H a xs ∧ FrAll K H xs qs
abbrev sAt : Stmt := top 11
def spAt (K : PySem.W.Frag) : Sp := fun vs H Q _ => ∃ (v : V) (qs : List F) (k : Nat), vs = [v, .int k] ∧ Po K H v qs ∧ ∀ u, Fr K H u (co qs k) → Q u H
section
variable {P : Program} {w : World} {K : PySem.W.Frag} {mg : Str → Option Value} {base : Heap} {f : Addr} {fd : FuncData}
theorem scAt : FnScope ["poly", "number"] ["poly", "number"] (defScope sAt) := ⟨rfl, rfl, rfl, by decide +kernel, rfl, by decide +kernel, by decide +kernel⟩
theorem ok_at (F : Fun K "at_power" "at_power" sAt f fd) (T : Blt mg) (Z : Nou K mg) : FnOk P w K mg base CX0 1 f fd ["poly", "number"] (spAt K) := by
  refine F.ok scAt (fun vs H Q E h => ?_) (fun cdv A outer s H vs Q E hr h => ?_)
  · obtain ⟨v, qs, k, rfl, _⟩ := h
    rfl
  · obtain ⟨v, qs, k, rfl, ⟨a, xs, rfl, sx, fx⟩, kk⟩ := h
    obtain ⟨z, mz, sz⟩ := Z.ex
    refine ⟨_, pss_one (ps_ret (pe_ifExp (pt_cmpR op_lt (pv 1) (pe_callB call_len_seq (by rfl) T.len (by decide +kernel) (pa_cons (pv 0) pa_nil)) (nomark _)) (pe_ix ix_tup (pv 0) (pv 1) (fun _ _ => rfl)) (pe_glob (v := .ref z) (by rfl) mz rfl))), ?_⟩
    refine ⟨_, rfl, _, rfl, a, xs, rfl, Or.inr sx, _, _, rfl, rfl, _, rfl, ?_⟩
    refine ite2 (fun c => ?_) (fun c => ?_)
    · have c1 : (k : Int) < (xs.length : Int) := of_decide_eq_true c
      have c2 : k < qs.length := by
        have := fx.len
        omega
      obtain ⟨u, q, h1, h2, h3⟩ := fx.get c2
      have e : co qs k = q := by
        unfold co
        rw [List.getD_eq_getElem?_getD, h2]
        rfl
      exact ⟨_, rfl, _, rfl, a, xs, _, u, rfl, rfl, sx, atI_nat (j := k) h1, kk u (by rw [e]; exact h3)⟩
    · have c1 : ¬ (k : Int) < (xs.length : Int) := fun z => c (decide_eq_true z)
      have e : co qs k = (0, 1) := by
        unfold co
        rw [List.getD_eq_getElem?_getD, List.getElem?_eq_none (by have := fx.len; omega)]
        rfl
      exact kk _ (by rw [e]; exact ⟨z, rfl, sz H⟩)
end
end Rs


set_option Elab.async false
set_option linter.all false
set_option maxRecDepth 100000
set_option maxHeartbeats 400000
namespace Rs
open PySem L2 Bs Fq LamX
theorem FrAll.take {K : PySem.W.Frag} {H : Hp} : ∀ {vs : List V} {qs : List F} (n : Nat), FrAll K H vs qs → FrAll K H (vs.take n) (qs.take n)
  | _, _, 0, _ => .nil
  | _, _, n + 1, .nil => .nil
  | _, _, n + 1, .cons a b => .cons a (FrAll.take n b)
theorem eqv_nought {q : F} : PyData.eqv (dF q) (dF (0, 1)) = decide (q = (0, 1)) := by
  obtain ⟨a, b⟩ := q
  have e : PyData.eqv (dF (a, b)) (dF (0, 1)) = (decide (a = 0) && decide (b = 1)) := by
    simp only [dF, PyData.eqv, PyData.eqvAll, Bool.and_true]
    rfl
  rw [e]
  simp [Prod.ext_iff]
abbrev sTrim : Stmt := top 10
def spTrim (K : PySem.W.Frag) : Sp := fun vs H Q _ => ∃ (a : Addr) (xs : List V) (qs : List F), vs = [.ref a] ∧ (SqL K H a xs ∨ SqT K H a xs) ∧ FrAll K H xs qs ∧ xs.length ≤ 1000 ∧
  ∀ H' p ys, Same H H' → SqT K H' p ys → FrAll K H' ys (trim qs) → Q (.ref p) H'
section
variable {P : Program} {w : World} {K : PySem.W.Frag} {mg : Str → Option Value} {base : Heap} {f : Addr} {fd : FuncData}
theorem scTrim : FnScope ["some", "many"] ["some"] (defScope sTrim) := ⟨rfl, rfl, rfl, by decide +kernel, rfl, by decide +kernel, by decide +kernel⟩
theorem ok_trim (F : Fun K "trimmed" "trimmed" sTrim f fd) (T : Blt mg) (Z : Nou K mg) : FnOk P w K mg base CX0 1 f fd ["some"] (spTrim K) := by
  refine F.ok scTrim (fun vs H Q E h => ?_) (fun cdv A outer s H vs Q E hr h => ?_)
  · obtain ⟨a, xs, qs, rfl, _⟩ := h
    rfl
  · obtain ⟨a, xs, qs, rfl, sx, fx, l1, kk⟩ := h
    obtain ⟨z, mz, sz⟩ := Z.ex
    refine ⟨_, pss_cons (ps_set (i := 1) scTrim.nd rfl (Or.inl rfl) (pe_callB call_len_seq (by rfl) T.len (by decide +kernel) (pa_cons (pv 0) pa_nil)))
      (pss_cons (ps_while PassesOwn.never (PW.pt (pw_and (pt_cmpR op_gt (pv 1) pe_int (nomark _)) (pw_and1 (pt_cmpR (op_eqD hr.units) (pe_ix ix_seq (pv 0) (pe_op op_sub (pv 1) pe_int) (fun _ _ => rfl)) (pe_glob (v := .ref z) (by rfl) mz rfl) (nomark _)))))
        (pss_one (ps_aug (i := 1) scTrim.nd rfl (.inl rfl) pe_int ip_sub)))
      (pss_one (ps_ret (pe_callTy call_tuple_of (by rfl) T.tuple (by decide +kernel) (pa_cons (pe_slice (sl_list.or sl_tupA) (pv 0) po_none (po_some (pv 1))) pa_nil))))), ?_⟩
    have lx := fx.len
    refine ⟨_, rfl, a, xs, rfl, sx, fun m σ H1 => H1 = H ∧ m ≤ qs.length ∧ trim qs = trimN qs m ∧ σ = [some (V.ref a), some (V.int m)], ⟨qs.length, rfl, Nat.le_refl _, rfl, by rw [← lx]; rfl⟩, ?_⟩
    rintro m σ H1 ⟨rfl, hm, e, rfl⟩
    -- the end
    have fin : trim qs = qs.take m → tRet (tCB (fun xs H Q => ∃ p ys, xs = [V.ref p] ∧ ((SqL K H p ys ∧ ∀ l, H l = none → Q (.ref l) (upd H l (.tup ys))) ∨ (SqT K H p ys ∧ Q (.ref p) H))) (tCons (tSl (fun x lo hi H_1 Q => rSlL K x lo hi H_1 Q ∨ rSlA K x lo hi H_1 Q) (tVar 0) tNoPart (tPart (tVar 1))) tNil))
        { nx := fun _ H' => Q .non H', rt := Q } [some (V.ref a), some (V.int m)] H1 := by
      intro et
      have cut : cutV xs none (some (m : Int)) = xs.take m := by
        simp only [cutV, HT.sIx_none, HT.sIx_nat, List.drop_zero, Nat.sub_zero]
        rw [Nat.min_eq_left (by omega)]
      have ft : FrAll K H1 (xs.take m) (trim qs) := by
        rw [et]
        exact fx.take m
      rcases sx with sq | sq
      · refine ⟨_, rfl, _, rfl, _, rfl, Or.inl ⟨a, xs, rfl, sq, fun p hp => ⟨p, _, rfl, Or.inl ⟨SqL.of upd_same, fun l hl => ?_⟩⟩⟩⟩
        rw [cut]
        have s1 := same_new (o := .lst (xs.take m)) hp
        rw [cut] at hl
        have s2 := same_new (o := .tup (xs.take m)) hl
        exact kk _ l _ (s1.trans s2) (SqT.of upd_same) (ft.mono (s1.trans s2))
      · refine ⟨_, rfl, _, rfl, _, rfl, Or.inr ⟨a, xs, rfl, sq, fun hw => ⟨a, xs, rfl, Or.inr ⟨sq, ?_⟩⟩, fun _ p hp => ⟨p, _, rfl, Or.inr ⟨SqT.of upd_same, ?_⟩⟩⟩⟩
        · have h2 := hw.2
          rw [HT.sIx_nat, Nat.min_eq_left (by omega)] at h2
          refine kk _ a xs (fun _ _ z => z) sq ?_
          rw [et, List.take_of_length_le (by omega)]
          exact fx
        · rw [cut]
          have s1 := same_new (o := .tup (xs.take m)) hp
          exact kk _ p _ s1 (SqT.of upd_same) (ft.mono s1)
    cases m with
    | zero =>
      refine ⟨_, rfl, _, _, rfl, rfl, _, rfl, ?_⟩
      refine fin ?_
      rw [e]
      rfl
    | succ n =>
      have ei : ((n + 1 : Nat) : Int) - 1 = (n : Int) := by omega
      obtain ⟨u, q, h1, h2, h3⟩ := fx.get (i := n) (by omega)
      have ec : co qs n = q := by
        unfold co
        rw [List.getD_eq_getElem?_getD, h2]
        rfl
      have ha : atI xs (((n + 1 : Nat) : Int) - 1) = some u := by
        rw [ei]
        exact atI_nat (j := n) h1
      refine ⟨_, rfl, _, _, rfl, rfl, true, congrArg V.bl (decide_eq_true (by omega)), iteT ?_⟩
      have rest : rEqD K u (.ref z) H1 fun x H' => ∃ k, x = .bl k ∧ (if k = true then ∃ N : L2.St → Hp → Prop, (∀ σ' H', N σ' H' → ∃ m', m' < n + 1 ∧ (H' = H1 ∧ m' ≤ qs.length ∧ trim qs = trimN qs m' ∧ σ' = [some (V.ref a), some (V.int m')])) ∧
          N [some (V.ref a), some (V.int (((n + 1 : Nat) : Int) - 1))] H' else
          tRet (tCB (fun xs H Q => ∃ p ys, xs = [V.ref p] ∧ ((SqL K H p ys ∧ ∀ l, H l = none → Q (.ref l) (upd H l (.tup ys))) ∨ (SqT K H p ys ∧ Q (.ref p) H))) (tCons (tSl (fun x lo hi H_1 Q => rSlL K x lo hi H_1 Q ∨ rSlA K x lo hi H_1 Q) (tVar 0) tNoPart (tPart (tVar 1))) tNil))
            { nx := fun _ H' => Q .non H', rt := Q } [some (V.ref a), some (V.int ((n + 1 : Nat) : Int))] H') := by
        refine ⟨dF q, dF (0, 1), h3.dp, .tup (sz H1) (.cons (.int 0) (.cons (.int 1) .nil)), rfl, rfl, _, rfl, ?_⟩
        rw [eqv_nought]
        refine ite2 (fun c => ?_) (fun c => ?_)
        · have c1 : q = (0, 1) := of_decide_eq_true c
          refine ⟨fun σ' H' => H' = H1 ∧ n ≤ qs.length ∧ trim qs = trimN qs n ∧ σ' = [some (V.ref a), some (V.int n)], fun σ' H' h => ⟨n, by omega, h⟩, rfl, by omega, ?_, by rw [ei]⟩
          rw [e, trimN, if_pos (by rw [ec]; exact c1)]
        · have c1 : ¬ q = (0, 1) := fun w => c (decide_eq_true w)
          refine fin ?_
          rw [e, trimN, if_neg (by rw [ec]; exact c1)]
      obtain ⟨d1, d2, g1, g2, g3, g4, k, ek, g5⟩ := rest
      rcases sx with sq | sq
      · refine ⟨_, rfl, _, rfl, _, _, rfl, rfl, Or.inl ⟨a, xs, _, u, rfl, rfl, sq, ha, d1, d2, g1, g2, g3, g4, k, ek, ?_⟩⟩
        cases k with
        | true =>
          obtain ⟨N, n1, n2⟩ := g5
          exact ⟨N, n1, _, rfl, _, _, rfl, rfl, n2⟩
        | false => exact g5
      · refine ⟨_, rfl, _, rfl, _, _, rfl, rfl, Or.inr (Or.inl ⟨a, xs, _, u, rfl, rfl, sq, ha, d1, d2, g1, g2, g3, g4, k, ek, ?_⟩)⟩
        cases k with
        | true =>
          obtain ⟨N, n1, n2⟩ := g5
          exact ⟨N, n1, _, rfl, _, _, rfl, rfl, n2⟩
        | false => exact g5
end
end Rs


set_option Elab.async false
set_option linter.all false
set_option maxRecDepth 100000
set_option maxHeartbeats 400000
namespace Rs
open PySem L2 Bs Fq LamX
theorem Fr.off {K : PySem.W.Frag} {H : Hp} {v : V} {q : F} {D : Addr} {acc : List V} {o : HO} (h : Fr K H v q) (hD : H D = some (.lst acc)) : Fr K (upd H D o) v q := by
  obtain ⟨a, rfl, s⟩ := h
  refine ⟨a, rfl, ?_⟩
  rcases s with (s | ⟨o', s⟩) | s
  · exact .inl (.inl ((upd_ne (ne_of s hD (by intro z; cases z))).trans s))
  · exact .inl (.inr ⟨o', (upd_ne (ne_of s hD (by intro z; cases z))).trans s⟩)
  · exact .inr s
theorem FrAll.off {K : PySem.W.Frag} {H : Hp} {D : Addr} {acc : List V} {o : HO} (hD : H D = some (.lst acc)) : ∀ {vs : List V} {qs : List F}, FrAll K H vs qs → FrAll K (upd H D o) vs qs
  | _, _, .nil => .nil
  | _, _, .cons a b => .cons (a.off hD) (FrAll.off hD b)
theorem FrAll.snoc {K : PySem.W.Frag} {H : Hp} : ∀ {vs : List V} {qs : List F} {v : V} {q : F}, FrAll K H vs qs → Fr K H v q → FrAll K H (vs ++ [v]) (qs ++ [q])
  | _, _, _, _, .nil, h => .cons h .nil
  | _, _, _, _, .cons a b, h => .cons a (FrAll.snoc b h)
theorem Po.mono {K : PySem.W.Frag} {H H' : Hp} {v : V} {qs : List F} (e : Same H H') (h : Po K H v qs) : Po K H' v qs := by
  obtain ⟨a, xs, rfl, s, f⟩ := h
  exact ⟨a, xs, rfl, Bs.Same.t e s, f.mono e⟩
theorem co_dm {qs : List F} (h : ∀ q ∈ qs, Dm q) (k : Nat) : Dm (co qs k) := by
  unfold co
  rw [List.getD_eq_getElem?_getD]
  cases e : qs[k]? with
  | none => exact ⟨Lt2.mono (m := 1) (by show (0 : Int).natAbs < 2; decide) (by decide), by decide, Lt2.mono (m := 1) (by show (1 : Int).natAbs < 2; decide) (by decide)⟩
  | some q => exact h q (List.mem_of_getElem? e)
def spPoly2 (K : PySem.W.Frag) (op : F → F → F) : Sp := fun vs H Q _ => ∃ (x y : V) (qs rs : List F), vs = [x, y] ∧ Po K H x qs ∧ Po K H y rs ∧ (∀ q ∈ qs, Dm q) ∧ (∀ r ∈ rs, Dm r) ∧ qs.length ≤ 500 ∧ rs.length ≤ 500 ∧
  ∀ H' p, Same H H' → Po K H' (.ref p) (trim (byPower op qs rs (max qs.length rs.length))) → Q (.ref p) H'
abbrev sPLess : Stmt := top 12
section
variable {P : Program} {w : World} {K : PySem.W.Frag} {mg : Str → Option Value} {base : Heap} {f : Addr} {fd : FuncData}
theorem scPLess : FnScope ["one", "other", "many", "k"] ["one", "other"] (defScope sPLess) := ⟨rfl, rfl, rfl, by decide +kernel, rfl, by decide +kernel, by decide +kernel⟩
theorem ok_pless (F : Fun K "poly_lessened" "poly_lessened" sPLess f fd) (T : Blt mg) (mx : mg "max" = none) (C : Cal P w K mg base 2 "lessened" (spOp K sub dom2)) (At : Cal P w K mg base 1 "at_power" (spAt K)) (Tr : Cal P w K mg base 1 "trimmed" (spTrim K)) :
    FnOk P w K mg base CX0 3 f fd ["one", "other"] (spPoly2 K sub) := by
  refine F.ok scPLess (fun vs H Q E h => ?_) (fun cdv A outer s H vs Q E hr h => ?_)
  · obtain ⟨x, y, qs, rs, rfl, _⟩ := h
    rfl
  · obtain ⟨x, y, qs, rs, rfl, px, py, dq, dr, lq, lr, kk⟩ := h
    refine ⟨_, pss_cons (ps_set (i := 2) scPLess.nd rfl (Or.inl rfl) (pe_callB (call_max2 rfl) (by rfl) mx (by decide +kernel) (pa_cons (pe_callB call_len_seq (by rfl) T.len (by decide +kernel) (pa_cons (pv 0) pa_nil)) (pa_cons (pe_callB call_len_seq (by rfl) T.len (by decide +kernel) (pa_cons (pv 1) pa_nil)) pa_nil))))
      (pss_one (ps_ret (pe_n Tr hr (by decide) (by rfl) (pa_cons (pe_lc (own := [("k", 3)]) (g := gName 3) (tt := tYes) rfl scPLess.nd (pi_range1 rfl T.range (pa_cons (pv 2) pa_nil)) (blkOk_by (N := ["one", "other", "many", "k"]) (sc := defScope sPLess) (by decide +kernel))
          (fun _ _ _ _ _ => pg_name (i := 3) scPLess.nd rfl (Or.inl rfl)) (fun _ _ _ _ _ => pts_nil)
          (fun _ _ _ _ _ => pe_n C hr (by decide) (by rfl) (pa_cons (pe_n At hr (by decide) (by rfl) (pa_cons (pv 0) (pa_cons (pv 3) pa_nil))) (pa_cons (pe_n At hr (by decide) (by rfl) (pa_cons (pv 1) (pa_cons (pv 3) pa_nil))) pa_nil)))) pa_nil)))), ?_⟩
    obtain ⟨a, xs, rfl, sx, fx⟩ := px
    obtain ⟨b, ys, rfl, sy, fy⟩ := py
    have lx := fx.len
    have ly := fy.len
    have em : (if (ys.length : Int) > (xs.length : Int) then (ys.length : Int) else (xs.length : Int)) = ((max qs.length rs.length : Nat) : Int) := by
      rw [lx, ly]
      split <;> omega
    have mn : max qs.length rs.length ≤ 500 := by omega
    generalize max qs.length rs.length = n at em mn kk
    refine ⟨_, rfl, a, xs, rfl, Or.inr sx, _, rfl, b, ys, rfl, Or.inr sy, _, _, rfl, ?_⟩
    rw [em]
    refine ⟨_, rfl, (n : Int), rfl, by omega, by omega, fun D hD => lc_range (n := (n : Int).toNat) (fun i H2 => ∃ acc, H2 D = some (.lst acc) ∧ FrAll K H2 acc (byPower sub qs rs i) ∧ Same H H2) ⟨[], upd_same, .nil, same_new hD⟩ ?_ ?_⟩
    · rintro i H2 hi ⟨acc, hD2, fa, s2⟩
      have hi2 : i < n := by omega
      have la : acc.length = i := by
        rw [fa.len, byPower, List.length_map, List.length_range]
      refine ⟨rfl, ?_⟩
      refine iteT (B := ∃ acc, H2 D = some (.lst acc) ∧ FrAll K H2 acc (byPower sub qs rs (i + 1)) ∧ Same H H2) ?_
      refine ⟨_, rfl, _, rfl, .ref a, qs, i, (by rw [Int.zero_add]; rfl), ⟨a, xs, rfl, Bs.Same.t s2 sx, fx.mono s2⟩, fun u hu => ⟨_, rfl, _, rfl, .ref b, rs, i, (by rw [Int.zero_add]; rfl), ⟨b, ys, rfl, Bs.Same.t s2 sy, fy.mono s2⟩, fun v hv => ?_⟩⟩
      refine ⟨u, v, _, _, rfl, hu, hv, ⟨co_dm dq i, co_dm dr i⟩, fun p hp => ?_⟩
      have s3 := same_new (o := fr (sub (co qs i) (co rs i))) hp
      refine ⟨acc, s3 _ _ hD2, small1000 (by omega), acc ++ [.ref p], upd_same, ?_, fun c o e => (upd_ne (ne_of_none e hD)).trans (s3 c o (s2 c o e))⟩
      rw [byPower, List.range_succ, List.map_append]
      exact (FrAll.off (s3 _ _ hD2) (fa.mono s3)).snoc ((Fr.of upd_same).off (s3 _ _ hD2))
    · rintro H2 ⟨acc, hD2, fa, s2⟩
      have la : acc.length = n := by
        rw [fa.len, byPower, List.length_map, List.length_range, Int.toNat_natCast]
      exact ⟨D, acc, _, rfl, Or.inl (SqL.of hD2), fa, by omega, fun H' p zs s3 st ft => kk H' p (s2.trans s3) ⟨p, zs, rfl, st, ft⟩⟩
end
end Rs


set_option linter.all false
set_option maxRecDepth 100000
set_option maxHeartbeats 400000
namespace Fq
/-! ### the worth of a fraction -/
def val (q : F) : Rat := (q.1 : Rat) / (q.2 : Rat)
theorem ne0 {b : Int} (h : 0 < b) : (b : Rat) ≠ 0 := by exact_mod_cast (by omega : b ≠ 0)
theorem val_vl {q : F} {a b : Int} (hq : 0 < q.2) (hb : 0 < b) (h : Vl q a b) : val q = (a : Rat) / (b : Rat) := by
  have h1 := ne0 hq
  have h2 := ne0 hb
  unfold Vl at h
  have h3 : (q.1 : Rat) * (b : Rat) = (a : Rat) * (q.2 : Rat) := by
    rw [← Rat.intCast_mul, ← Rat.intCast_mul, h]
  unfold val
  grind
theorem val_add {q r : F} (hq : 0 < q.2) (hr : 0 < r.2) : val (add q r) = val q + val r := by
  have o := ok_add' hq hr
  have v := vl_add hq hr (vl_self q) (vl_self r)
  rw [val_vl o.1 (Int.mul_pos hq hr) v]
  have h1 := ne0 hq
  have h2 := ne0 hr
  unfold val
  rw [Rat.intCast_add, Rat.intCast_mul, Rat.intCast_mul, Rat.intCast_mul]
  grind
theorem val_red {a b : Int} (h : 0 < b) : val (red a b) = (a : Rat) / (b : Rat) := val_vl (red_ok h).1 h (vl_red h)
theorem val_sub {q r : F} (hq : 0 < q.2) (hr : 0 < r.2) : val (sub q r) = val q - val r := by
  show val (red _ _) = _
  rw [val_red (Int.mul_pos hq hr)]
  have h1 := ne0 hq
  have h2 := ne0 hr
  unfold val
  rw [Rat.intCast_sub, Rat.intCast_mul, Rat.intCast_mul, Rat.intCast_mul]
  grind
theorem val_mul {q r : F} (hq : 0 < q.2) (hr : 0 < r.2) : val (mul q r) = val q * val r := by
  show val (red _ _) = _
  rw [val_red (Int.mul_pos hq hr)]
  have h1 := ne0 hq
  have h2 := ne0 hr
  unfold val
  rw [Rat.intCast_mul, Rat.intCast_mul]
  grind
theorem val_zero : val (0, 1) = 0 := by
  unfold val
  simp
  grind
theorem val_one : val (1, 1) = 1 := by
  unfold val
  simp
  grind
theorem val_inj {q r : F} (o : Ok q) (o' : Ok r) (h : val q = val r) : q = r := by
  refine vl_uniq (a := r.1) (b := r.2) o o' (by have := o'.1; omega) ?_ rfl
  have h1 := ne0 o.1
  have h2 := ne0 o'.1
  have h3 : (q.1 : Rat) * (r.2 : Rat) = (r.1 : Rat) * (q.2 : Rat) := by
    unfold val at h
    grind
  show q.1 * r.2 = r.1 * q.2
  rw [← Rat.intCast_mul, ← Rat.intCast_mul] at h3
  exact_mod_cast h3
/-! ### sums of n -/
def sm (f : Nat → Rat) : Nat → Rat
  | 0 => 0
  | n + 1 => sm f n + f n
theorem sm_congr {f g : Nat → Rat} : ∀ {n : Nat}, (∀ i, i < n → f i = g i) → sm f n = sm g n
  | 0, _ => rfl
  | n + 1, h => by
    show sm f n + f n = sm g n + g n
    rw [sm_congr (fun i hi => h i (by omega)), h n (by omega)]
theorem sm_zero {f : Nat → Rat} {n : Nat} (h : ∀ i, i < n → f i = 0) : sm f n = 0 := by
  rw [sm_congr h]
  induction n with
  | zero => rfl
  | succ n ih =>
    show sm (fun _ => 0) n + 0 = 0
    rw [ih (fun i hi => h i (by omega))]
    grind
theorem sm_sub (f g : Nat → Rat) : ∀ n, sm (fun i => f i - g i) n = sm f n - sm g n
  | 0 => by show (0 : Rat) = 0 - 0; grind
  | n + 1 => by
    show sm _ n + _ = (sm f n + f n) - (sm g n + g n)
    rw [sm_sub f g n]
    grind
theorem sm_mul (c : Rat) (f : Nat → Rat) : ∀ n, sm (fun i => c * f i) n = c * sm f n
  | 0 => by show (0 : Rat) = c * 0; grind
  | n + 1 => by
    show sm _ n + _ = c * (sm f n + f n)
    rw [sm_mul c f n]
    grind
theorem sm_left (f : Nat → Rat) : ∀ n, sm f (n + 1) = f 0 + sm (fun i => f (i + 1)) n
  | 0 => by show (0 : Rat) + f 0 = f 0 + 0; grind
  | n + 1 => by
    show sm f (n + 1) + f (n + 1) = f 0 + (sm _ n + f (n + 1))
    rw [sm_left f n]
    grind
theorem sm_more {f : Nat → Rat} {n : Nat} (h : ∀ i, n ≤ i → f i = 0) : ∀ d, sm f (n + d) = sm f n
  | 0 => rfl
  | d + 1 => by
    show sm f (n + d) + f (n + d) = _
    rw [sm_more h d, h _ (by omega)]
    grind
/-! ### one step of the ways, in worths -/
def J (A B : Nat → Rat) (s : Nat → Rat) : Nat → Rat := fun h => (if h = 0 then 0 else s (h - 1)) + A h * s h + B h * s (h + 1)
def Jn (A B : Nat → Rat) : Nat → (Nat → Rat) → Nat → Rat
  | 0, u => u
  | n + 1, u => J A B (Jn A B n u)
theorem Jn_in (A B : Nat → Rat) (u : Nat → Rat) : ∀ n, Jn A B n (J A B u) = Jn A B (n + 1) u
  | 0 => rfl
  | n + 1 => by
    show J A B (Jn A B n (J A B u)) = J A B (Jn A B (n + 1) u)
    rw [Jn_in A B u n]
theorem Jn_add (A B : Nat → Rat) (u : Nat → Rat) (j : Nat) : ∀ i, Jn A B (i + j) u = Jn A B i (Jn A B j u)
  | 0 => by rw [Nat.zero_add]; rfl
  | i + 1 => by
    rw [show i + 1 + j = (i + j) + 1 by omega]
    show J A B (Jn A B (i + j) u) = J A B (Jn A B i (Jn A B j u))
    rw [Jn_add A B u j i]
theorem J_sm (A B : Nat → Rat) (c : Nat → Rat) (g : Nat → Nat → Rat) : ∀ n, J A B (fun h => sm (fun i => c i * g i h) n) = fun h => sm (fun i => c i * J A B (g i) h) n
  | 0 => by
    funext h
    show (if h = 0 then (0 : Rat) else 0) + A h * 0 + B h * 0 = 0
    split <;> grind
  | n + 1 => by
    funext h
    have ih := congrFun (J_sm A B c g n) h
    show _ = sm _ n + c n * J A B (g n) h
    rw [← ih]
    unfold J
    show (if h = 0 then (0 : Rat) else sm _ n + _) + A h * (sm _ n + _) + B h * (sm _ n + _) = _
    split <;> grind
theorem Jn_sm (A B : Nat → Rat) (c : Nat → Rat) (g : Nat → Nat → Rat) (n : Nat) : ∀ m, Jn A B m (fun h => sm (fun i => c i * g i h) n) = fun h => sm (fun i => c i * Jn A B m (g i) h) n
  | 0 => rfl
  | m + 1 => by
    show J A B (Jn A B m _) = _
    rw [Jn_sm A B c g n m, J_sm]
    rfl
/-- the standard functions -/
def ek (k : Nat) : Nat → Rat := fun h => if h = k then 1 else 0
theorem J_ek (A B : Nat → Rat) (k : Nat) : J A B (ek k) = fun h => ek (k + 1) h + A k * ek k h + (if k = 0 then 0 else B (k - 1) * ek (k - 1) h) := by
  funext h
  unfold J ek
  by_cases h0 : h = 0
  · subst h0
    by_cases k0 : k = 0
    · subst k0
      simp
    · by_cases k1 : k = 1
      · subst k1
        simp
      · simp
        have : ¬ (0 = k) := by omega
        have : ¬ (0 = k - 1) := by omega
        have : ¬ (1 = k) := by omega
        grind
  · by_cases e1 : h = k + 1
    · subst e1
      simp
      have : ¬ (k + 1 = k - 1) := by omega
      grind
    · by_cases e2 : h = k
      · subst e2
        have : ¬ (h - 1 = h) := by omega
        have : ¬ (h = h - 1) := by omega
        simp
        grind
      · by_cases e3 : h + 1 = k
        · subst e3
          simp
          grind
        · have : ¬ (h - 1 = k) := by omega
          have : ¬ (h = k - 1) := by omega
          grind
/-! ### the polynomials by the rule of three terms: their coefficients in worths -/
def pc (A B : Nat → Rat) : Nat → Nat → Rat
  | 0 => fun i => if i = 0 then 1 else 0
  | 1 => fun i => (if i = 0 then 0 else if i = 1 then 1 else 0) - A 0 * (if i = 0 then 1 else 0)
  | k + 2 => fun i => (if i = 0 then 0 else pc A B (k + 1) (i - 1)) - A (k + 1) * pc A B (k + 1) i - B k * pc A B k i
theorem pc_hi (A B : Nat → Rat) : ∀ k i, k < i → pc A B k i = 0
  | 0, i, h => by
    show (if i = 0 then (1 : Rat) else 0) = 0
    rw [if_neg (by omega)]
  | 1, i, h => by
    show (if i = 0 then (0 : Rat) else if i = 1 then 1 else 0) - A 0 * (if i = 0 then 1 else 0) = 0
    rw [if_neg (by omega), if_neg (by omega), if_neg (by omega)]
    grind
  | k + 2, i, h => by
    show (if i = 0 then (0 : Rat) else pc A B (k + 1) (i - 1)) - A (k + 1) * pc A B (k + 1) i - B k * pc A B k i = 0
    rw [if_neg (by omega), pc_hi A B (k + 1) _ (by omega), pc_hi A B (k + 1) i (by omega), pc_hi A B k i (by omega)]
    grind
/-- a polynomial at J, on u -/
def ev (A B : Nat → Rat) (c : Nat → Rat) (n : Nat) (u : Nat → Rat) : Nat → Rat := fun h => sm (fun i => c i * Jn A B i u h) n
theorem ev_more {A B c : Nat → Rat} {n : Nat} (h : ∀ i, n ≤ i → c i = 0) (u : Nat → Rat) (d : Nat) : ev A B c (n + d) u = ev A B c n u := by
  funext x
  refine sm_more (fun i hi => ?_) d
  rw [h i hi]
  grind
theorem ev_pc2 (A B : Nat → Rat) (k : Nat) (u : Nat → Rat) : ev A B (pc A B (k + 2)) (k + 3) u = fun h => ev A B (pc A B (k + 1)) (k + 2) (J A B u) h - A (k + 1) * ev A B (pc A B (k + 1)) (k + 2) u h - B k * ev A B (pc A B k) (k + 1) u h := by
  funext h
  have e1 : sm (fun i => pc A B (k + 1) i * Jn A B i u h) (k + 3) = ev A B (pc A B (k + 1)) (k + 2) u h :=
    congrFun (ev_more (n := k + 2) (fun i hi => pc_hi A B _ _ (by omega)) u 1) h
  have e2 : sm (fun i => pc A B k i * Jn A B i u h) (k + 3) = ev A B (pc A B k) (k + 1) u h :=
    congrFun (ev_more (n := k + 1) (fun i hi => pc_hi A B _ _ (by omega)) u 2) h
  have e3 : sm (fun i => (if i = 0 then 0 else pc A B (k + 1) (i - 1)) * Jn A B i u h) (k + 3) = ev A B (pc A B (k + 1)) (k + 2) (J A B u) h := by
    rw [sm_left]
    show (if 0 = 0 then (0 : Rat) else _) * _ + _ = _
    rw [if_pos rfl]
    have : sm (fun i => (if i + 1 = 0 then 0 else pc A B (k + 1) (i + 1 - 1)) * Jn A B (i + 1) u h) (k + 2) = ev A B (pc A B (k + 1)) (k + 2) (J A B u) h := by
      refine sm_congr fun i hi => ?_
      rw [if_neg (by omega), Nat.add_sub_cancel, ← Jn_in]
    rw [this]
    grind
  rw [← e1, ← e2, ← e3, ← sm_mul, ← sm_mul, ← sm_sub, ← sm_sub]
  refine sm_congr fun i hi => ?_
  show ((if i = 0 then (0 : Rat) else pc A B (k + 1) (i - 1)) - A (k + 1) * pc A B (k + 1) i - B k * pc A B k i) * Jn A B i u h = _
  grind
theorem ev_pc0 (A B : Nat → Rat) (u : Nat → Rat) : ev A B (pc A B 0) 1 u = u := by
  funext h
  show (0 : Rat) + (if 0 = 0 then 1 else 0) * u h = u h
  rw [if_pos rfl]
  grind
theorem ev_pc1 (A B : Nat → Rat) (u : Nat → Rat) : ev A B (pc A B 1) 2 u = fun h => J A B u h - A 0 * u h := by
  funext h
  show ((0 : Rat) + ((if 0 = 0 then 0 else _) - A 0 * (if 0 = 0 then 1 else 0)) * u h) + ((if 1 = 0 then (0 : Rat) else if 1 = 1 then 1 else 0) - A 0 * (if 1 = 0 then 1 else 0)) * J A B u h = _
  rw [if_pos rfl, if_pos rfl, if_neg (by decide), if_pos rfl, if_neg (by decide)]
  grind
/-- a polynomial at J commutes with J -/
theorem ev_J (A B c : Nat → Rat) (n : Nat) (u : Nat → Rat) : ev A B c n (J A B u) = J A B (ev A B c n u) := by
  show _ = J A B (fun h => sm (fun i => c i * Jn A B i u h) n)
  rw [J_sm]
  funext h
  refine sm_congr fun i _ => ?_
  rw [Jn_in]
  rfl
theorem up2 {f : Nat → Prop} (h0 : f 0) (h1 : f 1) (h : ∀ k, f k → f (k + 1) → f (k + 2)) : ∀ k, f k := by
  have : ∀ k, f k ∧ f (k + 1) := by
    intro k
    induction k with
    | zero => exact ⟨h0, h1⟩
    | succ k ih => exact ⟨ih.2, h k ih.1 ih.2⟩
  exact fun k => (this k).1
/-- the k-th polynomial takes the first function to the k-th -/
theorem favard1 (A B : Nat → Rat) : ∀ k, ev A B (pc A B k) (k + 1) (ek 0) = ek k := by
  refine up2 (ev_pc0 A B _) ?_ fun k h1 h2 => ?_
  · rw [ev_pc1, J_ek]
    funext h
    show ek 1 h + A 0 * ek 0 h + (if 0 = 0 then 0 else _) - A 0 * ek 0 h = ek 1 h
    rw [if_pos rfl]
    grind
  · rw [ev_pc2, ev_J, h1, h2, J_ek]
    funext h
    show ek (k + 1 + 1) h + A (k + 1) * ek (k + 1) h + (if k + 1 = 0 then 0 else B (k + 1 - 1) * ek (k + 1 - 1) h) - A (k + 1) * ek (k + 1) h - B k * ek k h = ek (k + 2) h
    rw [if_neg (by omega), Nat.add_sub_cancel]
    grind
/-- the product of the first k steps -/
def pB (B : Nat → Rat) : Nat → Rat
  | 0 => 1
  | k + 1 => pB B k * B k
theorem favard2 (A B : Nat → Rat) : ∀ k, ∀ u : Nat → Rat, ev A B (pc A B k) (k + 1) u 0 = pB B k * u k := by
  refine up2 (fun u => ?_) (fun u => ?_) fun k h1 h2 u => ?_
  · rw [ev_pc0]
    show u 0 = 1 * u 0
    grind
  · rw [ev_pc1]
    show (if 0 = 0 then (0 : Rat) else _) + A 0 * u 0 + B 0 * u 1 - A 0 * u 0 = 1 * B 0 * u 1
    rw [if_pos rfl]
    grind
  · rw [ev_pc2]
    show ev A B (pc A B (k + 1)) (k + 2) (J A B u) 0 - A (k + 1) * ev A B (pc A B (k + 1)) (k + 2) u 0 - B k * ev A B (pc A B k) (k + 1) u 0 = _
    rw [h2, h2, h1]
    show pB B (k + 1) * ((if k + 1 = 0 then (0 : Rat) else u (k + 1 - 1)) + A (k + 1) * u (k + 1) + B (k + 1) * u (k + 1 + 1)) - _ - _ = pB B (k + 1) * B (k + 1) * u (k + 2)
    rw [if_neg (by omega), Nat.add_sub_cancel]
    show pB B k * B k * _ - A (k + 1) * (pB B k * B k * u (k + 1)) - _ = pB B k * B k * B (k + 1) * u (k + 2)
    grind
/-- an ended ladder: above the end nothing comes back -/
theorem ended_zero (A B : Nat → Rat) {m : Nat} (hB : B (m - 1) = 0) (hm : 0 < m) : ∀ k h, h < m → Jn A B k (ek m) h = 0
  | 0, h, hh => by
    show (if h = m then (1 : Rat) else 0) = 0
    rw [if_neg (by omega)]
  | k + 1, h, hh => by
    show (if h = 0 then (0 : Rat) else Jn A B k (ek m) (h - 1)) + A h * Jn A B k (ek m) h + B h * Jn A B k (ek m) (h + 1) = 0
    rw [ended_zero A B hB hm k h hh]
    have e : B h * Jn A B k (ek m) (h + 1) = 0 := by
      by_cases c : h + 1 < m
      · rw [ended_zero A B hB hm k (h + 1) c]
        grind
      · rw [show h = m - 1 by omega, hB]
        grind
    rw [e]
    split
    · grind
    · rw [ended_zero A B hB hm k (h - 1) (by omega)]
      grind
end Fq


set_option linter.all false
set_option maxRecDepth 100000
set_option maxHeartbeats 400000
namespace Fq
open Rs (co co_get co_lt co_ge co_mem co_all)
/-! ### sizes: over 6^n, at most 2^(9n) -/
structure Zs (n : Nat) (q : F) : Prop where
  ok : Ok q
  v : ∃ t : Int, Vl q t (6 ^ n) ∧ t.natAbs ≤ 2 ^ (9 * n)
theorem six_pos (n : Nat) : (0 : Int) < 6 ^ n := Int.pow_pos (by decide)
theorem p9 (n : Nat) : 2 ^ (9 * (n + 1)) = 2 ^ (9 * n) * 512 := by
  rw [show 9 * (n + 1) = 9 * n + 9 by omega, Nat.pow_add]
theorem Zs.up {n : Nat} {q : F} (h : Zs n q) : Zs (n + 1) q := by
  obtain ⟨o, t, v, l⟩ := h
  refine ⟨o, t * 6, ?_, ?_⟩
  · rw [Int.pow_succ]
    exact vl_times 6 v
  · rw [Int.natAbs_mul, p9]
    exact Nat.mul_le_mul l (by decide)
theorem Zs.mono {n m : Nat} {q : F} (h : Zs n q) (e : n ≤ m) : Zs m q := by
  induction e with
  | refl => exact h
  | step _ ih => exact ih.up
theorem Zs.zero {n : Nat} : Zs n (0, 1) := ⟨ok01, 0, by show (0 : Int) * _ = 0 * 1; rw [Int.zero_mul, Int.zero_mul], Nat.zero_le _⟩
theorem Zs.one {n : Nat} : Zs n (1, 1) := Zs.mono (n := 0) ⟨⟨by decide, by decide⟩, 1, by show (1 : Int) * 1 = 1 * 1; rfl, by decide⟩ (Nat.zero_le n)
theorem Zs.mul {n m : Nat} {q r : F} (h : Zs n q) (g : Zs m r) : Zs (n + m) (mul q r) := by
  obtain ⟨o, t, v, l⟩ := h
  obtain ⟨o', t', v', l'⟩ := g
  refine ⟨ok_mul' o.1 o'.1, t * t', ?_, ?_⟩
  · rw [Int.pow_add]
    exact vl_mul o.1 o'.1 v v'
  · rw [Int.natAbs_mul, Nat.mul_add, Nat.pow_add]
    exact Nat.mul_le_mul l l'
theorem vl_sub {q r : F} {a b c d : Int} (hq : 0 < q.2) (hr : 0 < r.2) (h1 : Vl q a b) (h2 : Vl r c d) : Vl (sub q r) (a * d - c * b) (b * d) := by
  have hm : 0 < q.2 * r.2 := Int.mul_pos hq hr
  have v := vl_red (a := q.1 * r.2 - r.1 * q.2) hm
  unfold Vl at *
  show (red _ _).1 * _ = _ * (red _ _).2
  generalize red (q.1 * r.2 - r.1 * q.2) (q.2 * r.2) = s at *
  refine mul_cancel (m := q.2 * r.2) (by omega) ?_
  generalize q.1 = q1 at *; generalize q.2 = q2 at *; generalize r.1 = r1 at *; generalize r.2 = r2 at *; generalize s.1 = s1 at *; generalize s.2 = s2 at *
  have e : s1 * (b * d) * (q2 * r2) = (s1 * (q2 * r2)) * (b * d) := by grind
  rw [e, v]
  have e2 : (q1 * r2 - r1 * q2) * s2 * (b * d) = s2 * ((q1 * b) * r2 * d - (r1 * d) * q2 * b) := by grind
  rw [e2, h1, h2]
  grind
theorem vl_same {q : F} {x D : Int} (hD : 0 < D) (h : Vl q (x * D) (D * D)) : Vl q x D := by
  unfold Vl at *
  refine mul_cancel (m := D) (by omega) ?_
  rw [Int.mul_assoc, h]
  grind
theorem Zs.add {n : Nat} {q r : F} (h : Zs n q) (g : Zs n r) : Zs (n + 1) (add q r) := by
  obtain ⟨o, t, v, l⟩ := h
  obtain ⟨o', t', v', l'⟩ := g
  have s := vl_add o.1 o'.1 v v'
  rw [← Int.add_mul] at s
  refine ⟨ok_add' o.1 o'.1, (t + t') * 6, ?_, ?_⟩
  · rw [Int.pow_succ]
    exact vl_times 6 (vl_same (six_pos n) s)
  · have := Int.natAbs_add_le t t'
    rw [Int.natAbs_mul, p9, show (6 : Int).natAbs = 6 from rfl]
    generalize 2 ^ (9 * n) = X at *
    omega
theorem Zs.sub {n : Nat} {q r : F} (h : Zs n q) (g : Zs n r) : Zs (n + 1) (sub q r) := by
  obtain ⟨o, t, v, l⟩ := h
  obtain ⟨o', t', v', l'⟩ := g
  have s := vl_sub o.1 o'.1 v v'
  rw [← Int.sub_mul] at s
  refine ⟨ok_sub' o.1 o'.1, (t - t') * 6, ?_, ?_⟩
  · rw [Int.pow_succ]
    exact vl_times 6 (vl_same (six_pos n) s)
  · have := Int.natAbs_sub_le t t'
    rw [Int.natAbs_mul, p9, show (6 : Int).natAbs = 6 from rfl]
    generalize 2 ^ (9 * n) = X at *
    omega
/-- what the reckoning wants of a size -/
theorem Zs.small {n : Nat} {q : F} (h : Zs n q) (e : n ≤ 400) : q.1.natAbs < 2 ^ 4000 ∧ 0 < q.2 ∧ q.2.natAbs < 2 ^ 4000 := by
  obtain ⟨o, t, v, l⟩ := h
  have d := vl_dvd o v
  have p := six_pos n
  have s : q.2 ≤ 6 ^ n := Int.le_of_dvd p d
  obtain ⟨x, hx⟩ := d
  have x0 : 0 < x := by
    rw [hx] at p
    exact Int.pos_of_mul_pos_right p o.1 |> id
  have et : q.1 * x = t := by
    unfold Vl at v
    refine mul_cancel (m := q.2) (by have := o.1; omega) ?_
    rw [← v, hx]
    grind
  have b : 2 ^ (9 * n) < 2 ^ 4000 := Nat.pow_lt_pow_right (by decide) (by omega)
  have c : (6 ^ n : Nat) < 2 ^ 4000 := by
    refine Nat.lt_of_le_of_lt ?_ b
    rw [Nat.pow_mul]
    exact Nat.pow_le_pow_left (by decide) n
  refine ⟨?_, o.1, ?_⟩
  · refine Nat.lt_of_le_of_lt (Nat.le_trans ?_ l) b
    rw [← et, Int.natAbs_mul]
    exact Nat.le_mul_of_pos_right _ (by omega)
  · refine Nat.lt_of_le_of_lt ?_ c
    have e2 : ((6 ^ n : Nat) : Int) = 6 ^ n := by rw [Int.natCast_pow]; rfl
    have := o.1
    omega
/-- a small fraction: the law's levels, steps and totals -/
theorem Zs.of {q : F} (o : Ok q) (d : q.2 ∣ 6) (a : q.1.natAbs ≤ 85) : Zs 1 q := by
  obtain ⟨x, hx⟩ := d
  have x0 : 0 < x := by
    have : 0 < q.2 * x := by omega
    exact Int.pos_of_mul_pos_right this o.1 |> id
  have x6 : x ≤ 6 := by
    have := o.1
    have h1 : 1 * x ≤ q.2 * x := Int.mul_le_mul_of_nonneg_right (by omega) (by omega)
    omega
  refine ⟨o, q.1 * x, ?_, ?_⟩
  · show q.1 * 6 ^ 1 = q.1 * x * q.2
    rw [Int.pow_one, hx]
    grind
  · rw [Int.natAbs_mul]
    have : q.1.natAbs * x.natAbs ≤ 85 * 6 := Nat.mul_le_mul a (by omega)
    have : 2 ^ (9 * 1) = 512 := by decide
    omega
/-! ### lists of fractions -/
def Za (n : Nat) (l : List F) : Prop := ∀ q ∈ l, Zs n q
theorem Za.co {n : Nat} {l : List F} (h : Za n l) (k : Nat) : Zs n (Rs.co l k) := co_all h Zs.zero k
theorem Za.mono {n m : Nat} {l : List F} (h : Za n l) (e : n ≤ m) : Za m l := fun q hq => (h q hq).mono e
/-- a list of fractions by its worths -/
theorem list_eq {n m : Nat} {a b : List F} (ha : Za n a) (hb : Za m b) (hl : a.length = b.length) (h : ∀ i, i < a.length → val (co a i) = val (co b i)) : a = b := by
  refine List.ext_getElem? fun i => ?_
  by_cases c : i < a.length
  · rw [co_lt c, co_lt (hl ▸ c), val_inj (ha.co i).ok (hb.co i).ok (h i c)]
  · rw [List.getElem?_eq_none (by omega), List.getElem?_eq_none (by omega)]
theorem co_map {n : Nat} {f : Nat → F} {k : Nat} : co ((List.range n).map f) k = if k < n then f k else (0, 1) := by
  split
  · rename_i h
    refine co_get ?_
    rw [List.getElem?_map, List.getElem?_range h]
    rfl
  · rename_i h
    exact co_ge (by simp; omega)
theorem co_map1 {l : List F} {f : F → F} {k : Nat} : co (l.map f) k = if k < l.length then f (co l k) else (0, 1) := by
  split
  · rename_i h
    refine co_get ?_
    rw [List.getElem?_map, co_lt h]
    rfl
  · rename_i h
    exact co_ge (by simp; omega)
theorem trimN_co (qs : List F) : ∀ n, n ≤ qs.length → ∀ i, co (Rs.trimN qs n) i = if i < n then co qs i else (0, 1)
  | 0, _, i => by
    rw [if_neg (by omega)]
    exact co_ge (Nat.zero_le _)
  | n + 1, h, i => by
    unfold Rs.trimN
    split
    · rename_i z
      rw [trimN_co qs n (by omega)]
      by_cases c : i < n
      · rw [if_pos c, if_pos (by omega)]
      · by_cases e : i = n
        · subst e
          rw [if_neg c, if_pos (by omega), z]
        · rw [if_neg c, if_neg (by omega)]
    · split
      · rename_i c
        refine co_get ?_
        rw [List.getElem?_take_of_lt (by omega), co_lt (by omega)]
      · exact co_ge (by rw [List.length_take]; omega)
theorem trim_co (qs : List F) (i : Nat) : co (Rs.trim qs) i = co qs i := by
  unfold Rs.trim
  rw [trimN_co qs _ (Nat.le_refl _)]
  split
  · rfl
  · rw [co_ge (by omega)]
theorem trim_za {n : Nat} {l : List F} (h : Za n l) : Za n (Rs.trim l) := fun q hq => h q (Rs.trim_mem hq)
/-! ### sums -/
def sumF (z : F) (l : List F) : F := l.foldl add z
theorem sumF_snoc (z : F) (l : List F) (q : F) : sumF z (l ++ [q]) = add (sumF z l) q := by
  unfold sumF
  rw [List.foldl_append]
  rfl
theorem sum_map {n : Nat} {g : Nat → F} (h : ∀ i, Zs n (g i)) : ∀ m, Zs (n + m) (sumF (0, 1) ((List.range m).map g)) ∧ val (sumF (0, 1) ((List.range m).map g)) = sm (fun i => val (g i)) m
  | 0 => ⟨Zs.zero, val_zero⟩
  | m + 1 => by
    obtain ⟨a, b⟩ := sum_map h m
    rw [List.range_succ, List.map_append, List.map_singleton, sumF_snoc]
    refine ⟨a.add ((h m).mono (by omega)), ?_⟩
    rw [val_add a.ok.1 (h m).ok.1, b]
    rfl
def sumBy (some row : List F) : F := sumF (0, 1) (List.zipWith mul some row)
theorem zip_map {a b : List F} (h : a.length ≤ b.length) : List.zipWith mul a b = (List.range a.length).map fun i => mul (co a i) (co b i) := by
  refine List.ext_getElem? fun i => ?_
  rw [List.getElem?_zipWith]
  by_cases c : i < a.length
  · rw [co_lt c, co_lt (Nat.lt_of_lt_of_le c h), List.getElem?_map, List.getElem?_range c]
    rfl
  · rw [List.getElem?_eq_none (by omega), List.getElem?_eq_none (l := List.map _ _) (by simp; omega)]
theorem sumBy_val {n m : Nat} {a b : List F} (ha : Za n a) (hb : Za m b) (h : a.length ≤ b.length) :
    Zs (n + m + a.length) (sumBy a b) ∧ val (sumBy a b) = sm (fun i => val (co a i) * val (co b i)) a.length := by
  unfold sumBy
  rw [zip_map h]
  obtain ⟨x, y⟩ := sum_map (g := fun i => mul (co a i) (co b i)) (fun i => (ha.co i).mul (hb.co i)) a.length
  refine ⟨x, ?_⟩
  rw [y]
  refine sm_congr fun i _ => ?_
  exact val_mul (ha.co i).ok.1 (hb.co i).ok.1
/-! ### products -/
theorem co_set {w : List F} {k : Nat} (x : F) (hk : k < w.length) (m : Nat) : co (w.set k x) m = if m = k then x else co w m := by
  split
  · rename_i e
    subst e
    exact co_get (List.getElem?_set_self hk)
  · rename_i e
    unfold Rs.co
    rw [List.getD_eq_getElem?_getD, List.getD_eq_getElem?_getD, List.getElem?_set_ne (by omega)]
theorem sm_upd (g : Nat → Rat) (c : Rat) (k : Nat) : ∀ n, k < n → sm (fun m => if m = k then g m + c else g m) n = sm g n + c
  | 0, h => absurd h (by omega)
  | n + 1, h => by
    by_cases e : k = n
    · subst e
      show sm _ k + (if k = k then g k + c else g k) = sm g k + g k + c
      rw [if_pos rfl, sm_congr (g := g) (fun i hi => if_neg (by omega))]
      grind
    · show sm _ n + (if n = k then g n + c else g n) = sm g n + g n + c
      rw [if_neg (by omega), sm_upd g c k n (by omega)]
      grind
def wt (f : Nat → Rat) (w : List F) : Rat := sm (fun m => val (co w m) * f m) w.length
theorem wt_set {n : Nat} {w : List F} (hw : Za n w) {y : F} (hy : 0 < y.2) (f : Nat → Rat) {k : Nat} (hk : k < w.length) : wt f (w.set k (add (co w k) y)) = wt f w + val y * f k := by
  unfold wt
  rw [List.length_set, ← sm_upd (fun m => val (co w m) * f m) (val y * f k) k w.length hk]
  refine sm_congr fun m _ => ?_
  show val (co (w.set k _) m) * f m = _
  rw [co_set _ hk]
  split
  · rename_i e
    subst e
    rw [val_add (hw.co m).ok.1 hy]
    grind
  · rfl
theorem za_set {n : Nat} {w : List F} (hw : Za n w) {y : F} (hy : Zs n y) (k : Nat) : Za n (w.set k y) := fun q hq => by
  rcases List.mem_or_eq_of_mem_set hq with m | rfl
  · exact hw q m
  · exact hy
theorem stepJ_wt {n a b i : Nat} {w : List F} {p : F} {rs : List F} (hw : Za n w) (hp : Zs a p) (hr : Za b rs) (hn : a + b ≤ n) (f : Nat → Rat) : ∀ j, i + j ≤ w.length →
    Za (n + j) (Rs.stepJ w i p rs j) ∧ wt f (Rs.stepJ w i p rs j) = wt f w + val p * sm (fun j => val (co rs j) * f (i + j)) j
  | 0, _ => ⟨hw, by show wt f w = wt f w + val p * 0; grind⟩
  | j + 1, h => by
    obtain ⟨x, y⟩ := stepJ_wt (i := i) hw hp hr hn f j (by omega)
    have l := Rs.stepJ_len w i p rs j
    have z : Zs (n + j) (mul p (co rs j)) := (hp.mul (hr.co j)).mono (by omega)
    refine ⟨za_set (x.mono (Nat.le_succ _)) ((x.co _).add z) _, ?_⟩
    show wt f (List.set _ _ _) = _
    rw [wt_set x z.ok.1 f (by omega), y, val_mul hp.ok.1 (hr.co j).ok.1]
    show _ = wt f w + val p * (sm _ j + val (co rs j) * f (i + j))
    grind
theorem stepI_wt {n a b : Nat} {w qs rs : List F} (hw : Za n w) (hq : Za a qs) (hr : Za b rs) (hn : a + b ≤ n) (f : Nat → Rat) : ∀ i, i + rs.length ≤ w.length + 1 →
    Za (n + i * rs.length) (Rs.stepI w qs rs i) ∧ wt f (Rs.stepI w qs rs i) = wt f w + sm (fun i => val (co qs i) * sm (fun j => val (co rs j) * f (i + j)) rs.length) i
  | 0, _ => ⟨by rw [Nat.zero_mul]; exact hw, by show wt f w = wt f w + 0; grind⟩
  | i + 1, h => by
    obtain ⟨x, y⟩ := stepI_wt hw hq hr hn f i (by omega)
    have l := Rs.stepI_len w qs rs i
    obtain ⟨u, v⟩ := stepJ_wt (i := i) x (hq.co i) hr (by omega) f rs.length (by omega)
    refine ⟨?_, ?_⟩
    · rw [Nat.succ_mul, ← Nat.add_assoc]
      exact u
    · show wt f (Rs.stepJ _ _ _ _ _) = _
      rw [v, y]
      show _ = wt f w + (sm _ i + _)
      grind
theorem prodN_wt {a b : Nat} {qs rs : List F} (hq : Za a qs) (hr : Za b rs) (h1 : qs ≠ []) (h2 : rs ≠ []) (f : Nat → Rat) :
    Za (a + b + qs.length * rs.length) (Rs.prodN (qs.length + rs.length - 1) qs rs) ∧
    wt f (Rs.prodN (qs.length + rs.length - 1) qs rs) = sm (fun i => val (co qs i) * sm (fun j => val (co rs j) * f (i + j)) rs.length) qs.length := by
  have l1 : 0 < qs.length := List.length_pos_iff.mpr h1
  have l2 : 0 < rs.length := List.length_pos_iff.mpr h2
  have hw : Za (a + b) (List.replicate (qs.length + rs.length - 1) ((0, 1) : F)) := fun q hq => by
    rw [(List.mem_replicate.mp hq).2]
    exact Zs.zero
  obtain ⟨x, y⟩ := stepI_wt hw hq hr (Nat.le_refl _) f qs.length (by rw [List.length_replicate]; omega)
  refine ⟨x, ?_⟩
  unfold Rs.prodN
  rw [y]
  have : wt f (List.replicate (qs.length + rs.length - 1) ((0, 1) : F)) = 0 := by
    refine sm_zero fun i _ => ?_
    have : co (List.replicate (qs.length + rs.length - 1) ((0, 1) : F)) i = (0, 1) := by
      unfold Rs.co
      rw [List.getD_eq_getElem?_getD]
      cases e : (List.replicate (qs.length + rs.length - 1) ((0, 1) : F))[i]? with
      | none => rfl
      | some q => exact (List.mem_replicate.mp (List.mem_of_getElem? e)).2
    rw [this, val_zero]
    grind
  rw [this]
  grind
end Fq


set_option linter.all false
set_option maxRecDepth 100000
set_option maxHeartbeats 400000
namespace Fq
open Rs (co co_get co_lt co_ge co_mem co_all)
/-! ### whole numbers over a bottom, with their sizes -/
def Ov (D : Int) (n : Nat) (x : Rat) : Prop := ∃ t : Int, x * (D : Rat) = (t : Rat) ∧ t.natAbs ≤ 2 ^ n
section
variable {D E : Int} {n m k : Nat} {x y : Rat}
theorem Ov.mono (h : Ov D n x) (e : n ≤ m) : Ov D m x := by
  obtain ⟨t, a, b⟩ := h
  exact ⟨t, a, Nat.le_trans b (Nat.pow_le_pow_right (by decide) e)⟩
theorem Ov.zero : Ov D n 0 := ⟨0, by rw [Rat.zero_mul]; rfl, Nat.zero_le _⟩
theorem Ov.one : Ov 1 n 1 := ⟨1, by rw [Rat.one_mul], Nat.one_le_two_pow⟩
theorem Ov.add (h : Ov D n x) (g : Ov D n y) : Ov D (n + 1) (x + y) := by
  obtain ⟨t, a, b⟩ := h
  obtain ⟨u, c, d⟩ := g
  refine ⟨t + u, ?_, ?_⟩
  · rw [Rat.intCast_add, ← a, ← c]
    grind
  · have := Int.natAbs_add_le t u
    rw [Nat.pow_succ]
    omega
theorem Ov.sub (h : Ov D n x) (g : Ov D n y) : Ov D (n + 1) (x - y) := by
  obtain ⟨t, a, b⟩ := h
  obtain ⟨u, c, d⟩ := g
  refine ⟨t - u, ?_, ?_⟩
  · rw [Rat.intCast_sub, ← a, ← c]
    grind
  · have := Int.natAbs_sub_le t u
    rw [Nat.pow_succ]
    omega
theorem Ov.mul (h : Ov D n x) (g : Ov E m y) : Ov (D * E) (n + m) (x * y) := by
  obtain ⟨t, a, b⟩ := h
  obtain ⟨u, c, d⟩ := g
  refine ⟨t * u, ?_, ?_⟩
  · rw [Rat.intCast_mul, Rat.intCast_mul, ← a, ← c]
    grind
  · rw [Int.natAbs_mul, Nat.pow_add]
    exact Nat.mul_le_mul b d
theorem Ov.scale (h : Ov D n x) (l : E.natAbs ≤ 2 ^ k) : Ov (D * E) (n + k) x := by
  obtain ⟨t, a, b⟩ := h
  refine ⟨t * E, ?_, ?_⟩
  · rw [Rat.intCast_mul, Rat.intCast_mul, ← a]
    grind
  · rw [Int.natAbs_mul, Nat.pow_add]
    exact Nat.mul_le_mul b l
theorem Ov.cong (h : Ov D n x) (e : D = E) : Ov E n x := e ▸ h
theorem Ov.sm {f : Nat → Rat} (h : ∀ i, Ov D n (f i)) : ∀ m, Ov D (n + m) (sm f m)
  | 0 => Ov.zero
  | m + 1 => (Ov.sm h m).add ((h m).mono (by omega))
/-- the top of what is above nought -/
theorem Ov.top (h : Ov D n x) (p : 0 < D) (q : 0 < x) : ∃ u : Int, 0 < u ∧ u.natAbs ≤ 2 ^ n ∧ x * (D : Rat) = (u : Rat) := by
  obtain ⟨t, a, b⟩ := h
  refine ⟨t, ?_, b, a⟩
  have pd : (0 : Rat) < (D : Rat) := by exact_mod_cast p
  have : (0 : Rat) < (t : Rat) := by
    rw [← a]
    exact Rat.mul_pos q pd
  exact_mod_cast this
/-- a quotient over one bottom -/
theorem Ov.div (h : Ov D n x) (g : Ov D m y) (p : 0 < D) (q : 0 < y) : ∃ u : Int, 0 < u ∧ u.natAbs ≤ 2 ^ m ∧ Ov u n (x / y) := by
  obtain ⟨u, u0, ul, ue⟩ := g.top p q
  obtain ⟨t, a, b⟩ := h
  refine ⟨u, u0, ul, t, ?_, b⟩
  have pd := ne0 p
  have py : y ≠ 0 := fun z => by
    rw [z] at q
    exact absurd q (by decide)
  rw [← a, ← ue]
  grind
/-- a quotient over two -/
theorem Ov.div2 (h : Ov D n x) (g : Ov E m y) (p : 0 < E) (q : 0 < y) (l : E.natAbs ≤ 2 ^ k) : ∃ u : Int, 0 < u ∧ u.natAbs ≤ 2 ^ m ∧ Ov (D * u) (n + k) (x / y) := by
  obtain ⟨u, u0, ul, ue⟩ := g.top p q
  obtain ⟨t, a, b⟩ := h
  refine ⟨u, u0, ul, t * E, ?_, ?_⟩
  · have py : y ≠ 0 := fun z => by
      rw [z] at q
      exact absurd q (by decide)
    rw [Rat.intCast_mul, Rat.intCast_mul, ← a, ← ue]
    grind
  · rw [Int.natAbs_mul, Nat.pow_add]
    exact Nat.mul_le_mul b l
end
theorem val_eq0 {q : F} (o : Ok q) : val q = 0 ↔ q = (0, 1) := by
  refine ⟨fun h => val_inj o ok01 (by rw [h, val_zero]), fun h => by rw [h, val_zero]⟩
theorem val_num {q : F} (o : Ok q) : val q * (q.2 : Rat) = (q.1 : Rat) := by
  have := ne0 o.1
  unfold val
  grind
theorem val_pos {q : F} (o : Ok q) : 0 < val q ↔ 0 < q.1 := by
  have p : (0 : Rat) < (q.2 : Rat) := by exact_mod_cast o.1
  rw [← Rat.mul_pos_iff_of_pos_right p, val_num o]
  exact_mod_cast Iff.rfl
theorem val_neg {q : F} (o : Ok q) : val q < 0 ↔ q.1 < 0 := by
  have p : (0 : Rat) < (q.2 : Rat) := by exact_mod_cast o.1
  rw [← Rat.mul_neg_iff_of_pos_right p, val_num o]
  exact_mod_cast Iff.rfl
/-- a fraction over a bottom -/
structure Cb (D : Int) (n : Nat) (q : F) : Prop where
  ok : Ok q
  v : Ov D n (val q)
section
variable {D E : Int} {n m k : Nat} {q r : F}
theorem Cb.mono (h : Cb D n q) (e : n ≤ m) : Cb D m q := ⟨h.ok, h.v.mono e⟩
theorem Cb.zero : Cb D n (0, 1) := ⟨ok01, by rw [val_zero]; exact Ov.zero⟩
theorem Cb.add (h : Cb D n q) (g : Cb D n r) : Cb D (n + 1) (add q r) := ⟨ok_add' h.ok.1 g.ok.1, by rw [val_add h.ok.1 g.ok.1]; exact h.v.add g.v⟩
theorem Cb.sub (h : Cb D n q) (g : Cb D n r) : Cb D (n + 1) (sub q r) := ⟨ok_sub' h.ok.1 g.ok.1, by rw [val_sub h.ok.1 g.ok.1]; exact h.v.sub g.v⟩
theorem Cb.mul (h : Cb D n q) (g : Cb E m r) : Cb (D * E) (n + m) (mul q r) := ⟨ok_mul' h.ok.1 g.ok.1, by rw [val_mul h.ok.1 g.ok.1]; exact h.v.mul g.v⟩
theorem Cb.small {N : Nat} (h : Cb D n q) (p : 0 < D) (l : D.natAbs ≤ 2 ^ N) (e : n ≤ N) : q.1.natAbs ≤ 2 ^ N ∧ 0 < q.2 ∧ q.2.natAbs ≤ 2 ^ N := by
  obtain ⟨o, t, v, b⟩ := h
  have b := Nat.le_trans b (Nat.pow_le_pow_right (by decide) e)
  have vl : q.1 * D = t * q.2 := by
    have h1 := ne0 o.1
    have h3 : (q.1 : Rat) * (D : Rat) = (t : Rat) * (q.2 : Rat) := by
      rw [← v]
      unfold val
      grind
    rw [← Rat.intCast_mul, ← Rat.intCast_mul] at h3
    exact_mod_cast h3
  have d := vl_dvd o vl
  obtain ⟨z, hz⟩ := d
  have z0 : 0 < z := by
    rw [hz] at p
    exact Int.pos_of_mul_pos_right p o.1 |> id
  have et : q.1 * z = t := by
    refine mul_cancel (m := q.2) (by have := o.1; omega) ?_
    rw [← vl, hz]
    grind
  refine ⟨?_, o.1, ?_⟩
  · refine Nat.le_trans ?_ b
    rw [← et, Int.natAbs_mul]
    exact Nat.le_mul_of_pos_right _ (by omega)
  · refine Nat.le_trans ?_ l
    rw [hz, Int.natAbs_mul]
    exact Nat.le_mul_of_pos_right _ (by omega)
end
/-! ### lists of them -/
def Ca (D : Int) (n : Nat) (l : List F) : Prop := ∀ q ∈ l, Cb D n q
section
variable {D E : Int} {n m k : Nat} {a b : List F}
theorem Ca.co (h : Ca D n a) (k : Nat) : Cb D n (Rs.co a k) := co_all h Cb.zero k
theorem Ca.mono (h : Ca D n a) (e : n ≤ m) : Ca D m a := fun q hq => (h q hq).mono e
theorem list_eqC (ha : Ca D n a) (hb : Ca E m b) (hl : a.length = b.length) (h : ∀ i, i < a.length → val (Rs.co a i) = val (Rs.co b i)) : a = b := by
  refine List.ext_getElem? fun i => ?_
  by_cases c : i < a.length
  · rw [co_lt c, co_lt (hl ▸ c), val_inj (ha.co i).ok (hb.co i).ok (h i c)]
  · rw [List.getElem?_eq_none (by omega), List.getElem?_eq_none (by omega)]
theorem sum_mapC {g : Nat → F} (h : ∀ i, Cb D n (g i)) : ∀ m, Cb D (n + m) (sumF (0, 1) ((List.range m).map g)) ∧ val (sumF (0, 1) ((List.range m).map g)) = sm (fun i => val (g i)) m
  | 0 => ⟨Cb.zero, val_zero⟩
  | m + 1 => by
    obtain ⟨a, b⟩ := sum_mapC h m
    rw [List.range_succ, List.map_append, List.map_singleton, sumF_snoc]
    refine ⟨a.add ((h m).mono (by omega)), ?_⟩
    rw [val_add a.ok.1 (h m).ok.1, b]
    rfl
theorem zip_mapC (a b : List F) : List.zipWith mul a b = (List.range (min a.length b.length)).map fun i => mul (Rs.co a i) (Rs.co b i) := by
  refine List.ext_getElem? fun i => ?_
  rw [List.getElem?_zipWith]
  by_cases c : i < min a.length b.length
  · rw [co_lt (by omega : i < a.length), co_lt (by omega : i < b.length), List.getElem?_map, List.getElem?_range c]
    rfl
  · rw [List.getElem?_eq_none (l := List.map _ _) (by simp; omega)]
    by_cases d : i < a.length
    · rw [co_lt d, List.getElem?_eq_none (by omega)]
    · rw [List.getElem?_eq_none (by omega)]
theorem sumBy_valC (ha : Ca D n a) (hb : Ca E m b) : Cb (D * E) (n + m + min a.length b.length) (sumBy a b) ∧ val (sumBy a b) = sm (fun i => val (Rs.co a i) * val (Rs.co b i)) (min a.length b.length) := by
  unfold sumBy
  rw [zip_mapC]
  obtain ⟨x, y⟩ := sum_mapC (g := fun i => mul (Rs.co a i) (Rs.co b i)) (fun i => (ha.co i).mul (hb.co i)) (min a.length b.length)
  refine ⟨x, ?_⟩
  rw [y]
  refine sm_congr fun i _ => ?_
  exact val_mul (ha.co i).ok.1 (hb.co i).ok.1
theorem ca_set {w : List F} (hw : Ca D n w) {y : F} (hy : Cb D n y) (k : Nat) : Ca D n (w.set k y) := fun q hq => by
  rcases List.mem_or_eq_of_mem_set hq with m | rfl
  · exact hw q m
  · exact hy
theorem wt_setC {w : List F} (hw : Ca D n w) {y : F} (hy : 0 < y.2) (f : Nat → Rat) {k : Nat} (hk : k < w.length) : wt f (w.set k (add (Rs.co w k) y)) = wt f w + val y * f k := by
  unfold wt
  rw [List.length_set, ← sm_upd (fun m => val (Rs.co w m) * f m) (val y * f k) k w.length hk]
  refine sm_congr fun m _ => ?_
  show val (Rs.co (w.set k _) m) * f m = _
  rw [co_set _ hk]
  split
  · rename_i e
    subst e
    rw [val_add (hw.co m).ok.1 hy]
    grind
  · rfl
theorem stepJ_wtC {D1 D2 : Int} {a b i : Nat} {w : List F} {p : F} {rs : List F} (hw : Ca (D1 * D2) n w) (hp : Cb D1 a p) (hr : Ca D2 b rs) (hn : a + b ≤ n) (f : Nat → Rat) : ∀ j, i + j ≤ w.length →
    Ca (D1 * D2) (n + j) (Rs.stepJ w i p rs j) ∧ wt f (Rs.stepJ w i p rs j) = wt f w + val p * sm (fun j => val (Rs.co rs j) * f (i + j)) j
  | 0, _ => ⟨hw, by show wt f w = wt f w + val p * 0; grind⟩
  | j + 1, h => by
    obtain ⟨x, y⟩ := stepJ_wtC (i := i) hw hp hr hn f j (by omega)
    have l := Rs.stepJ_len w i p rs j
    have z : Cb (D1 * D2) (n + j) (mul p (Rs.co rs j)) := (hp.mul (hr.co j)).mono (by omega)
    refine ⟨ca_set (x.mono (Nat.le_succ _)) ((x.co _).add z) _, ?_⟩
    show wt f (List.set _ _ _) = _
    rw [wt_setC x z.ok.1 f (by omega), y, val_mul hp.ok.1 (hr.co j).ok.1]
    show _ = wt f w + val p * (sm _ j + val (Rs.co rs j) * f (i + j))
    grind
theorem stepI_wtC {D1 D2 : Int} {a b : Nat} {w qs rs : List F} (hw : Ca (D1 * D2) n w) (hq : Ca D1 a qs) (hr : Ca D2 b rs) (hn : a + b ≤ n) (f : Nat → Rat) : ∀ i, i + rs.length ≤ w.length + 1 →
    Ca (D1 * D2) (n + i * rs.length) (Rs.stepI w qs rs i) ∧ wt f (Rs.stepI w qs rs i) = wt f w + sm (fun i => val (Rs.co qs i) * sm (fun j => val (Rs.co rs j) * f (i + j)) rs.length) i
  | 0, _ => ⟨by rw [Nat.zero_mul]; exact hw, by show wt f w = wt f w + 0; grind⟩
  | i + 1, h => by
    obtain ⟨x, y⟩ := stepI_wtC hw hq hr hn f i (by omega)
    have l := Rs.stepI_len w qs rs i
    obtain ⟨u, v⟩ := stepJ_wtC (i := i) x (hq.co i) hr (by omega) f rs.length (by omega)
    refine ⟨?_, ?_⟩
    · rw [Nat.succ_mul, ← Nat.add_assoc]
      exact u
    · show wt f (Rs.stepJ _ _ _ _ _) = _
      rw [v, y]
      show _ = wt f w + (sm _ i + _)
      grind
/-- a product, N places -/
theorem prodN_wtC {D1 D2 : Int} {a b N : Nat} {qs rs : List F} (hq : Ca D1 a qs) (hr : Ca D2 b rs) (hN : qs.length + rs.length ≤ N + 1) (f : Nat → Rat) :
    Ca (D1 * D2) (a + b + qs.length * rs.length) (Rs.prodN N qs rs) ∧
    wt f (Rs.prodN N qs rs) = sm (fun i => val (Rs.co qs i) * sm (fun j => val (Rs.co rs j) * f (i + j)) rs.length) qs.length := by
  have hw : Ca (D1 * D2) (a + b) (List.replicate N ((0, 1) : F)) := fun q hq => by
    rw [(List.mem_replicate.mp hq).2]
    exact Cb.zero
  obtain ⟨x, y⟩ := stepI_wtC hw hq hr (Nat.le_refl _) f qs.length (by rw [List.length_replicate]; omega)
  refine ⟨x, ?_⟩
  unfold Rs.prodN
  rw [y]
  have : wt f (List.replicate N ((0, 1) : F)) = 0 := by
    refine sm_zero fun i _ => ?_
    have : Rs.co (List.replicate N ((0, 1) : F)) i = (0, 1) := by
      unfold Rs.co
      rw [List.getD_eq_getElem?_getD]
      cases e : (List.replicate N ((0, 1) : F))[i]? with
      | none => rfl
      | some q => exact (List.mem_replicate.mp (List.mem_of_getElem? e)).2
    rw [this, val_zero]
    grind
  rw [this]
  grind
end
end Fq


set_option linter.all false
set_option maxRecDepth 100000
set_option maxHeartbeats 400000
namespace Fq
open Rs (co co_get co_lt co_ge co_mem co_all)
/-! ### rungs by the moments of a row, over the rationals -/
/-- the sum of a product of two polynomials of less than m coefficients, by the moments from s on -/
def gsq (r p q : Nat → Rat) (m s : Nat) : Rat := sm (fun i => p i * sm (fun j => q j * r (i + j + s)) m) m
def gs (r : Nat → Rat) : Nat → (Nat → Rat) × (Nat → Rat) × Rat
  | 0 => (fun _ => 0, fun i => if i = 0 then 1 else 0, 0)
  | k + 1 =>
    let g := gs r k
    let n1 := gsq r g.2.1 g.2.1 (k + 1) 0
    let l := gsq r g.2.1 g.2.1 (k + 1) 1 / n1
    let s := if k = 0 then 0 else n1 / g.2.2
    (g.2.1, fun i => (if i = 0 then 0 else g.2.1 (i - 1)) - l * g.2.1 i - s * g.1 i, n1)
def pol (r : Nat → Rat) (k : Nat) : Nat → Rat := (gs r k).2.1
def nor (r : Nat → Rat) (k : Nat) : Rat := gsq r (pol r k) (pol r k) (k + 1) 0
def mid (r : Nat → Rat) (k : Nat) : Rat := gsq r (pol r k) (pol r k) (k + 1) 1
def lvl (r : Nat → Rat) (k : Nat) : Rat := mid r k / nor r k
def pre (r : Nat → Rat) (k : Nat) : Nat → Rat := if k = 0 then fun _ => 0 else pol r (k - 1)
def stp (r : Nat → Rat) (k : Nat) : Rat := if k = 0 then 0 else nor r k / nor r (k - 1)
theorem gs_pre (r : Nat → Rat) : ∀ k, (gs r k).1 = pre r k
  | 0 => rfl
  | k + 1 => rfl
theorem gs_nor (r : Nat → Rat) : ∀ k, (gs r k).2.2 = if k = 0 then 0 else nor r (k - 1)
  | 0 => rfl
  | k + 1 => rfl
theorem pol_zero (r : Nat → Rat) : pol r 0 = fun i => if i = 0 then 1 else 0 := rfl
theorem pol_succ (r : Nat → Rat) (k i : Nat) : pol r (k + 1) i = (if i = 0 then 0 else pol r k (i - 1)) - lvl r k * pol r k i - stp r k * pre r k i := by
  show (if i = 0 then 0 else (gs r k).2.1 (i - 1)) - gsq r (gs r k).2.1 (gs r k).2.1 (k + 1) 1 / gsq r (gs r k).2.1 (gs r k).2.1 (k + 1) 0 * (gs r k).2.1 i - (if k = 0 then 0 else gsq r (gs r k).2.1 (gs r k).2.1 (k + 1) 0 / (gs r k).2.2) * (gs r k).1 i = _
  rw [gs_pre, gs_nor]
  unfold stp
  by_cases c : k = 0
  · rw [if_pos c, if_pos c]
    rfl
  · rw [if_neg c, if_neg c, if_neg c]
    rfl
theorem pol_hi (r : Nat → Rat) : ∀ k, (∀ i, k < i → pol r k i = 0) ∧ (∀ i, k ≤ i → pre r k i = 0) ∧ pol r k k = 1
  | 0 => ⟨fun i h => if_neg (by omega), fun i h => rfl, rfl⟩
  | k + 1 => by
    obtain ⟨a, b, c⟩ := pol_hi r k
    refine ⟨fun i h => ?_, fun i h => ?_, ?_⟩
    · rw [pol_succ, if_neg (by omega), a (i - 1) (by omega), a i (by omega), b i (by omega)]
      grind
    · exact a i (by omega)
    · rw [pol_succ, if_neg (by omega), Nat.add_sub_cancel, c, a (k + 1) (by omega), b (k + 1) (by omega)]
      grind
/-! ### sizes -/
/-- bits of a sum, of a rung -/
def bS (A : Nat) : Nat := 2 * A + 42
section
variable {r : Nat → Rat} {M : Int}
/-- what is known of a row: over M, in 2^30 -/
structure Rv (r : Nat → Rat) (M : Int) : Prop where
  p : 0 < M
  m : M.natAbs ≤ 2 ^ 8
  v : ∀ i, Ov M 30 (r i)
theorem gsq_ov (R : Rv r M) {d : Int} {a m : Nat} {p : Nat → Rat} (h : ∀ i, Ov d a (p i)) (hm : m ≤ 5) (s : Nat) : Ov (d * (d * M)) (bS a) (gsq r p p m s) := by
  refine (Ov.sm (n := a + (a + 30 + m)) (fun i => (h i).mul (Ov.sm (fun j => (h j).mul (R.v _)) m)) m).mono ?_
  unfold bS
  omega
/-- a rung's bottom and size -/
structure Pd (r : Nat → Rat) (k : Nat) (d : Int) (a : Nat) : Prop where
  p : 0 < d
  l : d.natAbs ≤ 2 ^ a
  v : ∀ i, Ov d a (pol r k i)
theorem pd_zero : Pd r 0 1 0 := ⟨by decide, by decide, fun i => by
  rw [pol_zero]
  show Ov 1 0 (if i = 0 then 1 else 0)
  split
  · exact Ov.one
  · exact Ov.zero⟩
theorem natAbs_mul_le {x y : Int} {n m : Nat} (h : x.natAbs ≤ 2 ^ n) (g : y.natAbs ≤ 2 ^ m) : (x * y).natAbs ≤ 2 ^ (n + m) := by
  rw [Int.natAbs_mul, Nat.pow_add]
  exact Nat.mul_le_mul h g
/-- all that is known of one turn: bottoms of the rung, of the level, of the step -/
structure Tn (r : Nat → Rat) (M : Int) (k : Nat) (d : Int) (a : Nat) (u : Int) : Prop where
  pd : Pd r k d a
  u0 : 0 < u
  ul : u.natAbs ≤ 2 ^ bS a
  ue : nor r k * ((d * (d * M) : Int) : Rat) = (u : Rat)
  lv : Ov u (bS a) (lvl r k)
theorem turn (R : Rv r M) {k : Nat} {d : Int} {a : Nat} (h : Pd r k d a) (hk : k ≤ 4) (n : 0 < nor r k) : ∃ u, Tn r M k d a u := by
  have pm : 0 < d * (d * M) := Int.mul_pos h.p (Int.mul_pos h.p R.p)
  have o0 : Ov (d * (d * M)) (bS a) (nor r k) := gsq_ov R h.v (by omega) 0
  have o1 : Ov (d * (d * M)) (bS a) (mid r k) := gsq_ov R h.v (by omega) 1
  obtain ⟨u, u0, ul, ue⟩ := o0.top pm n
  obtain ⟨t, te, tl⟩ := o1
  refine ⟨u, h, u0, ul, ue, t, ?_, tl⟩
  have pd := ne0 pm
  have py : nor r k ≠ 0 := fun z => by
    rw [z] at n
    exact absurd n (by decide)
  rw [← te, ← ue]
  unfold lvl
  grind
theorem step_ov (R : Rv r M) {k : Nat} {d d' : Int} {a a' : Nat} {u u' : Int} (t : Tn r M (k + 1) d a u) (t' : Tn r M k d' a' u') (n : 0 < nor r k) : Ov (d * (d * M) * u') (bS a + (2 * a' + 8)) (stp r (k + 1)) := by
  have l : (d' * (d' * M)).natAbs ≤ 2 ^ (2 * a' + 8) := by
    have := natAbs_mul_le t'.pd.l (natAbs_mul_le t'.pd.l R.m)
    rw [show 2 * a' + 8 = a' + (a' + 8) by omega]
    exact this
  have e : stp r (k + 1) = nor r (k + 1) / nor r k := rfl
  rw [e]
  refine ⟨u * (d' * (d' * M)), ?_, ?_⟩
  · have py : nor r k ≠ 0 := fun z => by
      rw [z] at n
      exact absurd n (by decide)
    have e1 := t.ue
    have e2 := t'.ue
    have e3 : ((u * (d' * (d' * M)) : Int) : Rat) = (u : Rat) * ((d' * (d' * M) : Int) : Rat) := Rat.intCast_mul _ _
    have e4 : ((d * (d * M) * u' : Int) : Rat) = ((d * (d * M) : Int) : Rat) * (u' : Rat) := Rat.intCast_mul _ _
    rw [e3, e4, ← e1, ← e2]
    generalize ((d * (d * M) : Int) : Rat) = X
    generalize ((d' * (d' * M) : Int) : Rat) = Y
    grind
  · exact natAbs_mul_le t.ul l
/-- the next rung, behind the first -/
theorem pd_one (R : Rv r M) {d u : Int} {a : Nat} (t : Tn r M 0 d a u) : Pd r 1 (u * d) (bS a + a + 2) := by
  refine ⟨Int.mul_pos t.u0 t.pd.p, ?_, fun i => ?_⟩
  · exact Nat.le_trans (natAbs_mul_le t.ul t.pd.l) (Nat.pow_le_pow_right (by decide) (by omega))
  · rw [pol_succ]
    have e : stp r 0 * pre r 0 i = 0 := by
      show (0 : Rat) * _ = 0
      grind
    rw [e, show ∀ x : Rat, x - 0 = x from fun x => by grind]
    have x1 : Ov (u * d) (a + bS a) (if i = 0 then 0 else pol r 0 (i - 1)) := by
      split
      · exact Ov.zero
      · exact ((t.pd.v _).scale t.ul).cong (Int.mul_comm _ _)
    have x2 : Ov (u * d) (bS a + a) (lvl r 0 * pol r 0 i) := t.lv.mul (t.pd.v i)
    exact ((x1.mono (by omega)).sub x2).mono (by omega)
def bA (a a' : Nat) : Nat := bS a + 2 * a + 3 * a' + 52
theorem pd_more (R : Rv r M) {k : Nat} {d d' u u' : Int} {a a' : Nat} (t : Tn r M (k + 1) d a u) (t' : Tn r M k d' a' u') (n : 0 < nor r k) (le : a' ≤ a) : ∃ D, Pd r (k + 2) D (bA a a') := by
  have s := step_ov R t t' n
  have pm : 0 < d * (d * M) := Int.mul_pos t.pd.p (Int.mul_pos t.pd.p R.p)
  have lm : (d * M).natAbs ≤ 2 ^ (a + 8) := natAbs_mul_le t.pd.l R.m
  have l1 : (d * (d * M)).natAbs ≤ 2 ^ (a + (a + 8)) := natAbs_mul_le t.pd.l lm
  refine ⟨u * d * ((d * M) * (u' * d')), Int.mul_pos (Int.mul_pos t.u0 t.pd.p) (Int.mul_pos (Int.mul_pos t.pd.p R.p) (Int.mul_pos t'.u0 t'.pd.p)), ?_, fun i => ?_⟩
  · refine Nat.le_trans (natAbs_mul_le (natAbs_mul_le t.ul t.pd.l) (natAbs_mul_le lm (natAbs_mul_le t'.ul t'.pd.l))) (Nat.pow_le_pow_right (by decide) ?_)
    unfold bA bS
    omega
  · rw [pol_succ]
    have x1 : Ov (u * d * ((d * M) * (u' * d'))) (a + (bS a + ((a + 8) + (bS a' + a')))) (if i = 0 then 0 else pol r (k + 1) (i - 1)) := by
      split
      · exact Ov.zero
      · exact ((t.pd.v _).scale (natAbs_mul_le t.ul (natAbs_mul_le lm (natAbs_mul_le t'.ul t'.pd.l)))).cong (by grind)
    have x2 : Ov (u * d * ((d * M) * (u' * d'))) (bS a + a + ((a + 8) + (bS a' + a'))) (lvl r (k + 1) * pol r (k + 1) i) := (t.lv.mul (t.pd.v i)).scale (natAbs_mul_le lm (natAbs_mul_le t'.ul t'.pd.l))
    have x3 : Ov (u * d * ((d * M) * (u' * d'))) (bS a + (2 * a' + 8) + a' + bS a) (stp r (k + 1) * pre r (k + 1) i) := ((s.mul (t'.pd.v i)).scale t.ul).cong (by grind)
    have y1 := x1.mono (m := bA a a' - 2) (by unfold bA bS; omega)
    have y2 := x2.mono (m := bA a a' - 2) (by unfold bA bS; omega)
    have y3 := x3.mono (m := bA a a' - 1) (by unfold bA bS; omega)
    exact (((y1.sub y2).mono (m := bA a a' - 1) (by unfold bA; omega)).sub y3).mono (by unfold bA; omega)
end
end Fq


set_option linter.all false
set_option maxRecDepth 100000
set_option maxHeartbeats 400000
namespace Fq
open Rs (co co_get co_lt co_ge co_mem co_all)
/-! ### fractions of rationals -/
def rf (x : Rat) : F := (x.num, (x.den : Int))
theorem rf_ok (x : Rat) : Ok (rf x) := ⟨by show (0 : Int) < (x.den : Int); exact_mod_cast x.den_pos, by show Nat.gcd x.num.natAbs (x.den : Int).natAbs = 1; rw [Int.natAbs_natCast]; exact x.reduced⟩
theorem rf_val (x : Rat) : val (rf x) = x := by
  show (x.num : Rat) / (((x.den : Nat) : Int) : Rat) = x
  rw [← Rat.divInt_eq_div]
  exact Rat.num_divInt_den x
theorem rf_of {q : F} (o : Ok q) : rf (val q) = q := val_inj (rf_ok _) o (rf_val _)
theorem rf_is {q : F} {x : Rat} (o : Ok q) (h : val q = x) : q = rf x := by rw [← h, rf_of o]
theorem rf_zero : rf 0 = (0, 1) := rfl
theorem rf_one : rf 1 = (1, 1) := rfl
theorem rf_cb {D : Int} {n : Nat} {x : Rat} (h : Ov D n x) : Cb D n (rf x) := ⟨rf_ok x, by rw [rf_val]; exact h⟩
def OkA (l : List F) : Prop := ∀ q ∈ l, Ok q
theorem OkA.co {l : List F} (h : OkA l) (k : Nat) : Ok (Rs.co l k) := co_all h ok01 k
theorem Ca.okA {D : Int} {n : Nat} {l : List F} (h : Ca D n l) : OkA l := fun q hq => (h q hq).ok
theorem list_eqO {a b : List F} (ha : OkA a) (hb : OkA b) (hl : a.length = b.length) (h : ∀ i, i < a.length → val (Rs.co a i) = val (Rs.co b i)) : a = b := by
  refine List.ext_getElem? fun i => ?_
  by_cases c : i < a.length
  · rw [co_lt c, co_lt (hl ▸ c), val_inj (ha.co i) (hb.co i) (h i c)]
  · rw [List.getElem?_eq_none (by omega), List.getElem?_eq_none (by omega)]
/-! ### rungs as lists -/
def rg (r : Nat → Rat) (k : Nat) : List F := (List.range (k + 1)).map fun i => rf (pol r k i)
def rgB (r : Nat → Rat) (k : Nat) : List F := if k = 0 then [] else rg r (k - 1)
theorem rg_len (r : Nat → Rat) (k : Nat) : (rg r k).length = k + 1 := by simp [rg]
theorem rg_ok (r : Nat → Rat) (k : Nat) : OkA (rg r k) := fun q hq => by
  obtain ⟨i, _, rfl⟩ := List.mem_map.mp hq
  exact rf_ok _
theorem rg_co (r : Nat → Rat) (k i : Nat) : val (co (rg r k) i) = pol r k i := by
  unfold rg
  rw [co_map]
  split
  · exact rf_val _
  · rw [val_zero, (pol_hi r k).1 i (by omega)]
theorem rg_zero (r : Nat → Rat) : rg r 0 = [(1, 1)] := rfl
theorem rg_ca {r : Nat → Rat} {k : Nat} {d : Int} {a : Nat} (h : Pd r k d a) : Ca d a (rg r k) := fun q hq => by
  obtain ⟨i, _, rfl⟩ := List.mem_map.mp hq
  exact rf_cb (h.v i)
theorem rg_pn (r : Nat → Rat) (k : Nat) : Rs.Pn (rg r k) := by
  right
  rw [rg_len, Nat.add_sub_cancel]
  intro z
  have := rg_co r k k
  rw [z, val_zero, (pol_hi r k).2.2] at this
  exact absurd this (by decide)
theorem rgB_co (r : Nat → Rat) (k i : Nat) : val (co (rgB r k) i) = pre r k i := by
  unfold rgB pre
  split
  · exact val_zero
  · exact rg_co _ _ _
theorem rgB_ok (r : Nat → Rat) (k : Nat) : OkA (rgB r k) := by
  unfold rgB
  split
  · exact fun q hq => by cases hq
  · exact rg_ok _ _
theorem rgB_len (r : Nat → Rat) (k : Nat) : (rgB r k).length = k := by
  unfold rgB
  split
  · rename_i h
    rw [h]
    rfl
  · rw [rg_len]
    omega
/-! ### the program's next rung -/
def plL (a b : List F) : List F := Rs.trim (Rs.byPower sub a b (max a.length b.length))
def scP (a : List F) (c : F) : List F := Rs.trim (a.map fun q => mul q c)
def nxt (before here : List F) (level step : F) : List F := plL (plL ((0, 1) :: here) (scP here level)) (scP before step)
theorem shift_co (l : List F) (i : Nat) : co ((0, 1) :: l) i = if i = 0 then (0, 1) else co l (i - 1) := by
  cases i with
  | zero => rfl
  | succ i => rfl
theorem shift_okA {l : List F} (h : OkA l) : OkA ((0, 1) :: l) := fun q hq => by
  rcases List.mem_cons.mp hq with rfl | hq
  · exact ok01
  · exact h q hq
theorem shift_val (l : List F) (i : Nat) : val (co ((0, 1) :: l) i) = if i = 0 then 0 else val (co l (i - 1)) := by
  rw [shift_co]
  split
  · exact val_zero
  · rfl
theorem scP_okA {c : F} {a : List F} (hc : Ok c) (ha : OkA a) : OkA (scP a c) ∧ (∀ i, val (co (scP a c) i) = val c * val (co a i)) ∧ (scP a c).length ≤ a.length := by
  refine ⟨fun q hq => ?_, fun i => ?_, ?_⟩
  · obtain ⟨r, hr, rfl⟩ := List.mem_map.mp (Rs.trim_mem hq)
    exact ok_mul' (ha r hr).1 hc.1
  · unfold scP
    rw [trim_co, co_map1]
    split
    · rw [val_mul (ha.co i).1 hc.1]
      grind
    · rw [co_ge (qs := a) (by omega), val_zero]
      grind
  · have := Rs.trim_len (a.map fun q => mul q c)
    rw [List.length_map] at this
    exact this
theorem plL_okA {a b : List F} (ha : OkA a) (hb : OkA b) (hl : b.length ≤ a.length) (hz : val (co a (a.length - 1)) - val (co b (a.length - 1)) ≠ 0) :
    OkA (plL a b) ∧ (∀ i, val (co (plL a b) i) = val (co a i) - val (co b i)) ∧ (plL a b).length = a.length := by
  have t : ∀ i, val (co (Rs.byPower sub a b a.length) i) = val (co a i) - val (co b i) := by
    intro i
    unfold Rs.byPower
    rw [co_map]
    split
    · exact val_sub (ha.co i).1 (hb.co i).1
    · rw [co_ge (qs := a) (by omega), co_ge (qs := b) (by omega), val_zero]
      grind
  have e : max a.length b.length = a.length := Nat.max_eq_left hl
  have p : Rs.Pn (Rs.byPower sub a b a.length) := by
    right
    rw [Rs.byPower_len]
    intro z
    have := t (a.length - 1)
    rw [z, val_zero] at this
    exact hz this.symm
  unfold plL
  rw [e, Rs.trim_of p]
  refine ⟨fun q hq => ?_, t, Rs.byPower_len _ _ _ _⟩
  obtain ⟨k, rfl⟩ := Rs.byPower_mem hq
  exact ok_sub' (ha.co k).1 (hb.co k).1
theorem nxt_rg (r : Nat → Rat) (k : Nat) : nxt (rgB r k) (rg r k) (rf (lvl r k)) (rf (stp r k)) = rg r (k + 1) := by
  obtain ⟨h1, h2, h3⟩ := pol_hi r k
  have s1 := shift_okA (rg_ok r k)
  obtain ⟨c1, c2, c3⟩ := scP_okA (rf_ok (lvl r k)) (rg_ok r k)
  have sl : ((0, 1) :: rg r k).length = k + 2 := by rw [List.length_cons, rg_len]
  obtain ⟨l1, l2, l3⟩ := plL_okA s1 c1 (by rw [sl]; have := rg_len r k; omega) (by
    rw [sl, shift_val, c2, if_neg (by omega), show k + 2 - 1 - 1 = k by omega, rg_co, rg_co, h3, h1 _ (by omega)]
    grind)
  obtain ⟨d1, d2, d3⟩ := scP_okA (rf_ok (stp r k)) (rgB_ok r k)
  obtain ⟨m1, m2, m3⟩ := plL_okA l1 d1 (by rw [l3, sl]; have := rgB_len r k; omega) (by
    rw [l3, sl, l2, shift_val, c2, d2, if_neg (by omega), show k + 2 - 1 - 1 = k by omega, rg_co, rg_co, h3, h1 _ (by omega), rgB_co, h2 _ (by omega)]
    grind)
  refine list_eqO m1 (rg_ok _ _) (by show (plL _ _).length = _; rw [m3, l3, sl, rg_len]) fun i _ => ?_
  show val (co (plL _ _) i) = _
  rw [m2, l2, shift_val, c2, d2, rg_co, rg_co, rgB_co, rg_co, pol_succ, rf_val, rf_val]
/-! ### sizes that the reckoning bears -/
def aB (k : Nat) : Nat := if k = 0 then 0 else if k = 1 then 44 else if k = 2 then 270 else if k = 3 then 1306 else 6128
theorem pd_all {r : Nat → Rat} {M : Int} (R : Rv r M) : ∀ k, k ≤ 4 → (∀ j, j < k → 0 < nor r j) → ∃ d, Pd r k d (aB k)
  | 0, _, _ => ⟨1, pd_zero⟩
  | 1, _, n => by
    obtain ⟨u, t⟩ := turn R (pd_zero (r := r)) (by decide) (n 0 (by decide))
    exact ⟨_, pd_one R t⟩
  | k + 2, h, n => by
    obtain ⟨d, p⟩ := pd_all R (k + 1) (by omega) fun j hj => n j (by omega)
    obtain ⟨d', p'⟩ := pd_all R k (by omega) fun j hj => n j (by omega)
    obtain ⟨u, t⟩ := turn R p (by omega) (n (k + 1) (by omega))
    obtain ⟨u', t'⟩ := turn R p' (by omega) (n k (by omega))
    have le : aB k ≤ aB (k + 1) := by
      rcases (by omega : k = 0 ∨ k = 1 ∨ k = 2) with rfl | rfl | rfl <;> decide
    obtain ⟨D, q⟩ := pd_more R t t' (n k (by omega)) le
    refine ⟨D, ?_⟩
    have e : aB (k + 2) = bA (aB (k + 1)) (aB k) := by
      rcases (by omega : k = 0 ∨ k = 1 ∨ k = 2) with rfl | rfl | rfl <;> decide
    rw [e]
    exact q
end Fq


set_option Elab.async false
set_option linter.all false
set_option maxRecDepth 100000
set_option maxHeartbeats 1000000
/-! for i, x in enumerate(a tuple) -/
namespace EnT
open PySem PySem.Spec PyProof.Rows L2
theorem meets_new {v : Value} {o : Obj} {H : Heap → Prop} (B : Begins v o H) :
    Meets (Builtin.«enumerate.__new__» ⟨[.type "enumerate", v], []⟩) (fun _ R s => H s.heap ∧
      R (.ok (.ret (.ref (s.heap.push o).objs.size))) { s with heap := (s.heap.push o).push { cls := .type "enumerate", data := .fields #[.none, .bool false, .ref s.heap.objs.size, rawInt 0, .none, .none] } }) :=
  .of_wp fun prog w A R s h => by
    obtain ⟨hp, g, d, tk, os⟩ := s; obtain ⟨h1, h⟩ := h
    have hsub := sub_enumerate
    have q1 : ∀ {A' : Around} {E : Value → Shared → Prop} {Q : Value → Shared → Prop}, Q (.ref hp.objs.size) ⟨hp.push o, g, d, tk, os⟩ → wpAny (model prog w) A' (pyIter v) Q E ⟨hp, g, d, tk, os⟩ :=
      fun q => B.iter prog w _ _ ⟨hp, g, d, tk, os⟩ _ h1 q
    wp_walk using q1
    refine wpAny_stack_any fun st => wpAny_pure ?_
    split
    · rename_i c _ _ _ _ _
      cases (c == Value.type "enumerate")
      · wp_walk using q1
        exact ⟨_, rfl, h⟩
      · wp_walk using q1
        exact ⟨_, rfl, h⟩
    · wp_walk using q1
      exact ⟨_, rfl, h⟩
theorem call_enum {prog : Program} {w : World} {A : Around} {E : Value → Shared → Prop} {s : Shared} {v : Value} {o : Obj} {H : Heap → Prop} {Q : Value → Shared → Prop} (B : Begins v o H) (h1 : H s.heap)
    (h : ∀ h', IsEnum h' (s.heap.objs.size + 1) s.heap.objs.size 0 .none → h'.get? s.heap.objs.size = some o → h'.objs.size = s.heap.objs.size + 2 →
      (∀ b o, s.heap.get? b = some o → h'.get? b = some o) → Q (.ref (s.heap.objs.size + 1)) { s with heap := h' }) :
    wpAny (model prog w) A (call (.type "enumerate") [v]) Q E s := by
  refine callType_new F.called_enumerate (by decide) (F.typeCall_enumerate_1 _) (F.newCall_enumerate_1 _) (fun obj => F.args_object_init_2 obj _) F.entry_enumerate_new
    (meets_new B) ⟨h1, ?_⟩
  have hz : (s.heap.push o).objs.size = s.heap.objs.size + 1 := Heap.size_push ..
  show _ ∧ _
  rw [hz]
  have he : IsEnum ((s.heap.push o).push { cls := .type "enumerate", data := .fields #[.none, .bool false, .ref s.heap.objs.size, rawInt 0, .none, .none] }) (s.heap.objs.size + 1) s.heap.objs.size 0 .none := by
    have := Heap.get?_push_size (s.heap.push o) (o := { cls := .type "enumerate", data := .fields #[.none, .bool false, .ref s.heap.objs.size, rawInt 0, .none, .none] }) rfl
    rw [hz] at this; exact this
  refine ⟨⟨_, he, rfl⟩, h _ he (Heap.get?_push_of_some _ (Heap.get?_push_size _ B.free)) (by rw [Heap.size_push, hz]) fun b o x => Heap.get?_push_of_some _ (Heap.get?_push_of_some _ x)⟩
/-- the turns -/
def IteT (K : PySem.W.Frag) (a : Addr) : It :=
  ⟨fun i H => ∃ (xs : List V) (x : V), SqT K H a xs ∧ xs[i]? = some x, fun i H v H' => ∃ T x, v = .ref T ∧ H T = none ∧ H' = upd H T (.tup [.int (i : Nat), x]) ∧ ∀ xs, SqT K H a xs → xs[i]? = some x, fun i H => ∃ xs : List V, SqT K H a xs ∧ xs.length ≤ i⟩
theorem turn_enumT {P : Program} {w : World} {K : PySem.W.Frag} {elts : List Expr} {kk : Nat} {tpos : Pos} (a e it : Addr) (n : Nat) :
    Turn P w K (.Tuple elts kk tpos) (IteT K a) [e, it] e (fun i h => (∃ old, IsEnum h e it ((i : Nat) : Int) old) ∧ h.IsTupleIter it a i ∧ e ≠ it ∧ a ≠ it ∧ a ≠ e) where
  mem := by simp
  obj := fun i h st b hb => by
    obtain ⟨⟨old, he⟩, ⟨o, ho, hc, hd⟩, _⟩ := st
    have e' : b = e ∨ b = it := by simpa using hb
    rcases e' with z | z
    · rw [z]; exact ⟨_, he, fun v q => nomatch q⟩
    · rw [z]; exact ⟨o, ho, fun v q => by rw [hd] at q; cases q⟩
  keep := fun i h h' st k => let ⟨⟨old, he⟩, hi, hne⟩ := st; ⟨⟨old, k e (by simp) _ he⟩, hi.at fun o q => k it (by simp) o q, hne⟩
  item := by
    intro X hP hw hK hc i pins s σ H E I hf st hg
    subst hP hw hK
    obtain ⟨⟨old, he⟩, hit, hne, hai, hae⟩ := st
    obtain ⟨xs, x, hq, hx⟩ := hg
    obtain ⟨its, rv, p, hz⟩ := I.tuple hq
    obtain ⟨u, hu, ru⟩ := rv.get hx
    have hel : e < s.heap.objs.size := Heap.lt_size he
    have hil : it < s.heap.objs.size := by obtain ⟨_, q, _⟩ := hit; exact Heap.lt_size q
    have hlt : i < its.toArray.size := by
      obtain ⟨hlt, _⟩ := List.getElem?_eq_some_iff.mp hu
      simpa using hlt
    have p' : s.heap.IsTuple a its.toArray := p
    refine wpAny_pyNext_enum_itemD (Draws.tuple (A := X.A.in1) (I.ok.hd hc) it a hai its.toArray) he ⟨hit, p'⟩ hlt hne (by simp [hne, Ne.symm hae]) fun x' h' tk hP ho hit' hT hsz hk => ?_
    have ex : x' = u := by
      have : its[i]? = some x' := by simpa using hP
      rw [hu] at this
      exact (Option.some.inj this).symm
    subst ex
    refine ⟨_, rfl, wpAny_letOwnedTupleGo_enum (s := { s with heap := h', toks := tk + 1 }) ho fun h'' he' sb => ?_⟩
    have hT2 : h''.get? s.heap.objs.size = some { cls := .type "tuple", data := .seq #[.int i tk, x'] } := (sb.2 _ (Nat.ne_of_gt hel)).trans hT
    have new : ObjOk X.prog X.w (upd H s.heap.objs.size (.tup [.int (i : Nat), x])) h'' s.heap.objs.size (.tup [.int (i : Nat), x]) :=
      ⟨by show 2 ≤ sizeLine; decide, [.int i tk, x'], .cons ⟨_, rfl⟩ (.cons ru .nil), ⟨_, hT2, rfl, _, rfl⟩⟩
    have I1 : Inv X pins σ (upd H s.heap.objs.size (.tup [.int (i : Nat), x])) { s with heap := h'', toks := tk + 1 } :=
      I.turnedNew (ch := [e, it]) (fun b ob hb q => (sb.2 b (fun z => hb (by simp [z]))).trans (hk b ob (fun z => hb (by simp [z])) (fun z => hb (by simp [z])) q)) hf (Nat.le_refl _) new
    refine ⟨.ref s.heap.objs.size, _, I1, rfl, ⟨_, x, rfl, I.hok.fresh (Nat.le_refl _), rfl, fun ys hy => by rw [I.tuple_inj hy hq]; exact hx⟩, ⟨⟨x', ?_⟩, hit'.1.at fun o q => (sb.2 it (Ne.symm hne)).trans q, hne, hai, hae⟩, fun b hb => ?_⟩
    · have e1 : ((i + 1 : Nat) : Int) = (i : Int) + 1 := by omega
      rw [e1]; exact he'
    · have hb' : b < s.heap.objs.size := by
        have e' : b = e ∨ b = it := by simpa using hb
        rcases e' with z | z
        · rw [z]; exact hel
        · rw [z]; exact hil
      rw [upd_ne (Nat.ne_of_lt hb')]
      exact (hf b hb).1
  done := by
    intro X hP hw hK hc i pins s σ H E I hf st hg
    subst hP hw hK
    obtain ⟨⟨old, he⟩, hit, hne, hai, hae⟩ := st
    obtain ⟨xs, hq, hx⟩ := hg
    obtain ⟨its, rv, p, hz⟩ := I.tuple hq
    obtain ⟨f0, f1, f2, f3, f4, f5⟩ := hf it (by simp)
    have hl := rv.length
    have hT : s.TypeIs (.ref e) "enumerate" := ⟨_, he, rfl⟩
    unfold pyNext
    refine wpAny_bind (wpAny_attempt (wpAny_callSpecial?_slot (name := Str.ofString "__next__") hT F.slot_enumerate_next
      (wpAny_call_entry F.slot_enumerate_next hT F.entry_enumerate_next ?_ (F.args_enumerate_next_1 _))))
    show wpAny _ _ (field (.ref e) 2 >>= _) _ _ _
    refine wpAny_bind (wpAny_field he rfl (x := .ref it) rfl ?_)
    refine wpAny_bind (wpAny_nextOf_tuple_end (A := X.A.in1) (I.ok.hd hc) hit (show s.heap.IsTuple a its.toArray from p) (by simp; omega) fun h' e' eb hx' => ?_)
    obtain ⟨o, ho, hcl⟩ := hx'
    refine wpAny_bind (wpAny_isInstance (T := "StopIteration") (b := true) ⟨o, ho, hcl⟩ isSubtype_stop ?_)
    exact wpAny_pure ⟨rfl, I.turned (t' := s.toks) (fun b o hb q => eb b o hb q) f0 f1 f3 f4 f5⟩
  self := fun A i s Q E st h => let ⟨⟨_, he⟩, _⟩ := st; wpAny_pyIter_enum he h
def iEnumT (K : PySem.W.Frag) (ta : TA) : TI := fun σ H R => ta σ H fun vs H1 => ∃ a xs, vs = [.ref a] ∧ SqT K H1 a xs ∧ R (IteT K a) H1
theorem pi_enumT {X : Cx} {e : Expr} {ta : TA} {p pos tpos : Pos} {elts : List Expr} {kk : Nat} (hg : Gl X "enumerate") (hm : X.mg "enumerate" = none) (ha : PA X [e] ta) (hs : starEach [e] X.env = [(false, eval e X.env)] := by rfl) :
    PI X (.Tuple elts kk tpos) (.Call (.Name "enumerate" p) [e] [] pos) (iEnumT X.K ta) := by
  refine ⟨fun pins s σ H R I h => ?_⟩
  refine Call_ (ld_blt I hg hm boot_enumerate (PyProof.Rows.callWith_type1 (thn (ha.run pos pins s σ H _ I h) fun us s1 ⟨vs, H1, I1, r1, q1⟩ => ?_) hs rfl))
  obtain ⟨a, xs, ex, hq, q⟩ := q1
  subst ex
  cases r1 with
  | cons r rr =>
    cases rr
    cases r
    obtain ⟨its, rv, p', hz⟩ := I1.tuple hq
    have pt : s1.heap.IsTuple a its.toArray := p'
    have hal : a < s1.heap.objs.size := by
      obtain ⟨o, z, _⟩ := id pt
      exact Heap.lt_size z
    refine call_enum (begins_tuple a its.toArray) pt fun h' he hit hsz hk => wpAny_pyIter_enum he ?_
    have I2 : Inv X pins σ H1 { s1 with heap := h' } := I1.kept (t' := s1.toks) hk
    refine ⟨s1.heap.objs.size + 1, [s1.heap.objs.size + 1, s1.heap.objs.size], _, _, H1, rfl, I2, turn_enumT a (s1.heap.objs.size + 1) s1.heap.objs.size 0, ⟨⟨.none, he⟩, ⟨_, hit, rfl, rfl⟩, Nat.succ_ne_self _, Nat.ne_of_lt hal, Nat.ne_of_lt (Nat.lt_succ_of_lt hal)⟩, fun b hb => ?_, q⟩
    have e' : b = s1.heap.objs.size + 1 ∨ b = s1.heap.objs.size := by simpa using hb
    have hle : s1.heap.objs.size ≤ b := by
      rcases e' with z | z
      · rw [z]; exact Nat.le_add_right _ _
      · rw [z]; exact Nat.le_refl _
    exact I1.fpOk hle (I1.hok.fresh hle)
end EnT


set_option Elab.async false
set_option linter.all false
set_option maxRecDepth 100000
set_option maxHeartbeats 400000
namespace Rs
open PySem L2 Bs Fq LamX
theorem FrAll.set {K : PySem.W.Frag} {H : Hp} : ∀ {vs : List V} {qs : List F} {v : V} {q : F} (i : Nat), FrAll K H vs qs → Fr K H v q → FrAll K H (vs.set i v) (qs.set i q)
  | _, _, _, _, _, .nil, h => .nil
  | _, _, _, _, 0, .cons a b, h => .cons h b
  | _, _, _, _, i + 1, .cons a b, h => .cons a (FrAll.set i b h)
theorem FrAll.rep {K : PySem.W.Frag} {H : Hp} {v : V} {q : F} (h : Fr K H v q) : ∀ n : Nat, FrAll K H (List.replicate n v) (List.replicate n q)
  | 0 => .nil
  | n + 1 => .cons h (FrAll.rep h n)
/-- a bottom and a size that the reckoning bears -/
structure Bd (D : Int) (n : Nat) : Prop where
  p : 0 < D
  l : D.natAbs ≤ 2 ^ 4390
  n : n ≤ 4390
theorem cb_dm {D : Int} {n : Nat} {q : F} (h : Cb D n q) (b : Bd D n) : Dm q := by
  obtain ⟨x, y, z⟩ := h.small b.p b.l b.n
  have lt : 2 ^ 4390 < 2 ^ 4400 := Nat.pow_lt_pow_right (by decide) (by decide)
  exact ⟨Nat.lt_of_le_of_lt x lt, y, Nat.lt_of_le_of_lt z lt⟩
theorem Bd.mono {D : Int} {n m : Nat} (b : Bd D n) (e : m ≤ n) : Bd D m := ⟨b.p, b.l, Nat.le_trans e b.n⟩
theorem Bd.of {D : Int} {n N : Nat} (p : 0 < D) (l : D.natAbs ≤ 2 ^ N) (h : N ≤ 4390) (e : n ≤ 4390) : Bd D n := ⟨p, Nat.le_trans l (Nat.pow_le_pow_right (by decide) h), e⟩
theorem Dm.dl {q : F} (h : Dm q) : Dl q := ⟨h.big, h.pos, h.low⟩
theorem cb_dl {D : Int} {n : Nat} {q : F} (h : Cb D n q) (b : Bd D n) : Dl q := (cb_dm h b).dl
theorem ca_dm {D : Int} {n : Nat} {l : List F} (h : Ca D n l) (b : Bd D n) : ∀ q ∈ l, Dm q := fun q hq => cb_dm (h q hq) b
theorem walk_enumT {K : PySem.W.Frag} {a : Addr} {xs : List V} : Walk (EnT.IteT K a) xs.length (fun H => SqT K H a xs) (YPair (fun i => some (.int (i : Nat))) (fun i => xs[i]?)) := by
  refine ⟨fun i _ hi q => ⟨xs, xs[i], q, by simp [hi]⟩, fun _ q => ⟨xs, q, Nat.le_refl _⟩, fun i H v H' _ q y => ?_⟩
  obtain ⟨T, x, h1, h2, h3, h4⟩ := y
  exact ⟨T, .int (i : Nat), x, h1, h2, h3, rfl, h4 xs q⟩
end Rs


set_option Elab.async false
set_option linter.all false
set_option maxRecDepth 100000
set_option maxHeartbeats 400000
namespace Rs
open PySem L2 Bs Fq LamX
/-! ### polynomials as data -/
def dP (qs : List F) : PyData := .tuple (qs.map dF)
def fracsD (n : Int) : PyData → Bool
  | .tuple ds => decide ((ds.length : Int) ≤ n) && ds.all fracD
  | _ => false
def lastNz (ds : List PyData) : Bool :=
  match ds.getLast? with
  | none => true
  | some d => !(PyData.eqv d (dF (0, 1)))
def polyD : PyData → Bool
  | .tuple ds => decide ((ds.length : Int) ≤ 12) && ds.all fracD && lastNz ds
  | _ => false
theorem FrAll.dp {K : PySem.W.Frag} {H : Hp} : ∀ {vs : List V} {qs : List F}, FrAll K H vs qs → DpAll K H vs (qs.map dF)
  | _, _, .nil => .nil
  | _, _, .cons a b => .cons a.dp (FrAll.dp b)
theorem Po.dp {K : PySem.W.Frag} {H : Hp} {v : V} {qs : List F} (h : Po K H v qs) : Dp K H v (dP qs) := by
  obtain ⟨a, xs, rfl, s, f⟩ := h
  exact .tup s f.dp
theorem dp_frAll {K : PySem.W.Frag} {H : Hp} : ∀ {vs : List V} {qs : List F}, DpAll K H vs (qs.map dF) → FrAll K H vs qs
  | _, [], h => by
    cases h
    exact .nil
  | _, q :: qs, h => by
    cases h with
    | cons h1 h2 => exact .cons (dp_fr h1) (dp_frAll h2)
theorem dp_po {K : PySem.W.Frag} {H : Hp} {v : V} {qs : List F} (h : Dp K H v (dP qs)) : Po K H v qs := by
  cases h with
  | tup s f => exact ⟨_, _, rfl, s, dp_frAll f⟩
theorem all_frac : ∀ {ds : List PyData}, ds.all fracD = true → ∃ qs : List F, ds = qs.map dF ∧ ∀ q ∈ qs, Fq.Ok q
  | [], _ => ⟨[], rfl, fun q h => by simp at h⟩
  | d :: ds, h => by
    rw [List.all_cons, Bool.and_eq_true] at h
    obtain ⟨q, rfl, o⟩ := fracD_true h.1
    obtain ⟨qs, rfl, os⟩ := all_frac h.2
    refine ⟨q :: qs, rfl, fun r hr => ?_⟩
    rcases List.mem_cons.mp hr with rfl | h
    · exact o
    · exact os r h
theorem all_frac_of : ∀ {qs : List F}, (∀ q ∈ qs, Fq.Ok q) → (qs.map dF).all fracD = true
  | [], _ => rfl
  | q :: qs, h => by
    rw [List.map_cons, List.all_cons, fracD_dF (h q List.mem_cons_self), Bool.true_and]
    exact all_frac_of fun r hr => h r (List.mem_cons_of_mem _ hr)
instance (qs : List F) : Decidable (Pn qs) := inferInstanceAs (Decidable (qs = [] ∨ co qs (qs.length - 1) ≠ (0, 1)))
theorem lastNz_map (qs : List F) : lastNz (qs.map dF) = decide (Pn qs) := by
  unfold lastNz
  rw [List.getLast?_map]
  cases e : qs.getLast? with
  | none =>
    have : qs = [] := List.getLast?_eq_none_iff.mp e
    exact (decide_eq_true (show Pn qs from Or.inl this)).symm
  | some q =>
    show (!(PyData.eqv (dF q) (dF (0, 1)))) = _
    rw [eqv_nought]
    have hn : qs ≠ [] := fun z => by rw [z] at e; cases e
    have ec : co qs (qs.length - 1) = q := by
      refine co_get ?_
      rw [← List.getLast?_eq_getElem?, e]
    by_cases c : q = (0, 1)
    · rw [decide_eq_true c]
      refine (decide_eq_false ?_).symm
      rintro (z | z)
      · exact hn z
      · exact z (ec.trans c)
    · rw [decide_eq_false c]
      exact (decide_eq_true (show Pn qs from .inr (fun z => c (ec.symm.trans z)))).symm
theorem polyD_true {d : PyData} (h : polyD d = true) : ∃ qs : List F, d = dP qs ∧ (∀ q ∈ qs, Fq.Ok q) ∧ qs.length ≤ 12 ∧ Pn qs := by
  unfold polyD at h
  split at h
  · rename_i ds
    rw [Bool.and_eq_true, Bool.and_eq_true] at h
    obtain ⟨⟨h1, h2⟩, h3⟩ := h
    obtain ⟨qs, rfl, o⟩ := all_frac h2
    rw [lastNz_map] at h3
    have := of_decide_eq_true h1
    rw [List.length_map] at this
    exact ⟨qs, rfl, o, by omega, of_decide_eq_true h3⟩
  · cases h
theorem polyD_of {qs : List F} (o : ∀ q ∈ qs, Fq.Ok q) (l : qs.length ≤ 12) (p : Pn qs) : polyD (dP qs) = true := by
  show (decide (((qs.map dF).length : Int) ≤ 12) && (qs.map dF).all fracD && lastNz (qs.map dF)) = true
  rw [all_frac_of o, lastNz_map, decide_eq_true p, List.length_map, decide_eq_true (by omega)]
  rfl
theorem fracsD_of {qs : List F} (o : ∀ q ∈ qs, Fq.Ok q) (l : qs.length ≤ 12) : fracsD 12 (dP qs) = true := by
  show (decide (((qs.map dF).length : Int) ≤ 12) && (qs.map dF).all fracD) = true
  rw [all_frac_of o, List.length_map, decide_eq_true (by omega)]
  rfl
theorem fracsD_true {n : Int} {d : PyData} (h : fracsD n d = true) : ∃ qs : List F, d = dP qs ∧ (∀ q ∈ qs, Fq.Ok q) ∧ (qs.length : Int) ≤ n := by
  unfold fracsD at h
  split at h
  · rename_i ds
    rw [Bool.and_eq_true] at h
    obtain ⟨h1, h2⟩ := h
    obtain ⟨qs, rfl, o⟩ := all_frac h2
    have := of_decide_eq_true h1
    rw [List.length_map] at this
    exact ⟨qs, rfl, o, this⟩
  · cases h
theorem polyD_eq (d : PyData) : polyD d = (fracsD 12 d && match d with | .tuple ds => lastNz ds | _ => false) := by
  cases d <;> rfl
theorem dF_inj {q r : F} (h : dF q = dF r) : q = r := by
  obtain ⟨a, b⟩ := q
  obtain ⟨c, d⟩ := r
  simp only [dF, PyData.tuple.injEq, List.cons.injEq, PyData.int.injEq, and_true] at h
  rw [h.1, h.2]
theorem map_dF_inj : ∀ {qs rs : List F}, qs.map dF = rs.map dF → qs = rs
  | [], [], _ => rfl
  | [], _ :: _, h => by cases h
  | _ :: _, [], h => by cases h
  | q :: qs, r :: rs, h => by
    rw [List.map_cons, List.map_cons, List.cons.injEq] at h
    rw [dF_inj h.1, map_dF_inj h.2]
theorem dP_inj {qs rs : List F} (h : dP qs = dP rs) : qs = rs := by
  simp only [dP, PyData.tuple.injEq] at h
  exact map_dF_inj h
abbrev sAreF : Stmt := top 28
def spAreF (K : PySem.W.Frag) : Sp := fun vs H Q _ => ∃ (v : V) (d : PyData) (n : Int), vs = [v, .int n] ∧ Dp K H v d ∧ n ≤ 12 ∧ ∀ H', Same H H' → Q (.bl (fracsD n d)) H'
theorem dpAll_at {K : PySem.W.Frag} {H : Hp} : ∀ {ds : List PyData} {xs : List V} {i : Nat} {x : V}, DpAll K H xs ds → xs[i]? = some x → ∃ d, ds[i]? = some d ∧ Dp K H x d
  | _, _, i, x, .nil, h => by simp at h
  | _, _, 0, x, .cons h1 h2, h => by
    simp only [List.getElem?_cons_zero, Option.some.injEq] at h
    rw [← h]
    exact ⟨_, rfl, h1⟩
  | _, _, i + 1, x, .cons h1 h2, h => by
    simp only [List.getElem?_cons_succ] at h
    obtain ⟨d, m, e⟩ := dpAll_at h2 h
    exact ⟨d, m, e⟩
/-- data kept where all is kept -/
theorem sqL_same {K : PySem.W.Frag} {H H' : Hp} (e : Same H H') {a : Addr} {xs : List V} (h : SqL K H a xs) : SqL K H' a xs := e.seq h
mutual
theorem dp_same' {K : PySem.W.Frag} {H H' : Hp} (e : Same H H') : ∀ (d : PyData) (v : V), Dp K H v d → Dp K H' v d
  | .none, _, h => by
    cases h
    exact .non
  | .bool b, _, h => by
    cases h
    exact .bl _
  | .int i, _, h => by
    cases h
    exact .int _
  | .str x, _, h => by
    cases h
    exact .str _
  | .list ds, _, h => by
    cases h with
    | lst hs ha => exact .lst (sqL_same e hs) (dpAll_same' e ds _ ha)
  | .tuple ds, _, h => by
    cases h with
    | tup hs ha => exact .tup (Bs.Same.t e hs) (dpAll_same' e ds _ ha)
  | .dict _, _, h => by cases h
theorem dpAll_same' {K : PySem.W.Frag} {H H' : Hp} (e : Same H H') : ∀ (ds : List PyData) (vs : List V), DpAll K H vs ds → DpAll K H' vs ds
  | [], _, h => by
    cases h
    exact .nil
  | d :: ds, _, h => by
    cases h with
    | cons h1 h2 => exact .cons (dp_same' e d _ h1) (dpAll_same' e ds _ h2)
end
theorem dps {K : PySem.W.Frag} {H H' : Hp} (e : Same H H') {d : PyData} {v : V} (h : Dp K H v d) : Dp K H' v d := dp_same' e d v h
section
variable {P : Program} {w : World} {K : PySem.W.Frag} {mg : Str → Option Value} {base : Heap} {f : Addr} {fd : FuncData}
theorem scAreF : FnScope ["thing", "most", "part"] ["thing", "most"] (defScope sAreF) := ⟨rfl, rfl, rfl, by decide +kernel, rfl, by decide +kernel, by decide +kernel⟩
theorem ok_areF (F : Fun K "are_fractions" "are_fractions" sAreF f fd) (T : Blt mg) (al : mg "all" = none) (W : Cal P w K mg base 2 "is_fraction" (spFraction K)) : FnOk P w K mg base CX0 3 f fd ["thing", "most"] (spAreF K) := by
  refine F.ok scAreF (fun vs H Q E h => ?_) (fun cdv A outer s H vs Q E hr h => ?_)
  · obtain ⟨v, d, n, rfl, _⟩ := h
    rfl
  · obtain ⟨v, d, n, rfl, hd, hn, kk⟩ := h
    refine ⟨_, pss_one (ps_ret (pe_and (pe_callB call_isi (by rfl) T.isinstance (by decide +kernel) (pa_cons (pv 0) (pa_cons (pe_bltn (v := .ty "tuple") (by rfl) T.tuple (by decide +kernel) rfl) pa_nil)))
      (pe_and (pe_cmpR op_le (pe_callB call_len_seq (by rfl) T.len (by decide +kernel) (pa_cons (pv 0) pa_nil)) (pv 1) (nomark _))
        (pe_one (pe_callB (cr_all rfl) (by rfl) al (by decide +kernel) (pa_cons (pe_lc (own := [("part", 2)]) (g := gName 2) (tt := tYes) rfl scAreF.nd (pi_tup (pv 0)) (blkOk_by (N := ["thing", "most", "part"]) (sc := defScope sAreF) (by decide +kernel))
          (fun _ _ _ _ _ => pg_name (i := 2) scAreF.nd rfl (Or.inl rfl)) (fun _ _ _ _ _ => pts_nil)
          (fun _ _ _ _ _ => pe_n W hr (by decide) (by rfl) (pa_cons (pv 2) pa_nil))) pa_nil)))))), ?_⟩
    refine ⟨v, rfl, v, _, _, _, _, rfl, .ty _, hd.ty, kitT K d, _, rfl, ?_⟩
    have no : fracsD n d = false → isTup d = false → Q (.bl false) H := fun e _ => by
      have := kk H (fun _ _ z => z)
      rwa [e] at this
    cases d with
    | tuple ds =>
      refine iteT ?_
      cases hd with
      | tup sq all =>
        rename_i a xs
        have l := dpAll_len all
        refine ⟨_, rfl, a, xs, rfl, Or.inr sq, _, rfl, _, _, rfl, rfl, _, rfl, ?_⟩
        have e : fracsD n (.tuple ds) = (decide ((xs.length : Int) ≤ n) && ds.all fracD) := by rw [l]; rfl
        refine ite2 (fun c => ?_) (fun c => ?_)
        · have cl : (xs.length : Int) ≤ n := of_decide_eq_true c
          rw [decide_eq_true cl, Bool.true_and] at e
          refine ⟨_, rfl, a, rfl, ⟨_, sq⟩, fun D hD => lc_tup (K := K) (a := a) (xs := xs) (fun i H2 => Same H H2 ∧ H2 D = some (.lst (((ds.take i).map fracD).map V.bl))) ⟨same_new hD, upd_same⟩ (fun i H2 _ z => Bs.Same.t z.1 sq) ?_ ?_⟩
          · rintro i x H2 hx ⟨s2, hD2⟩
            obtain ⟨d', hd', dd⟩ := dpAll_at all hx
            refine ⟨rfl, ?_⟩
            refine iteT (B := Same H H2 ∧ H2 D = some (.lst (((ds.take (i + 1)).map fracD).map V.bl))) ?_
            refine ⟨_, rfl, x, d', rfl, dps s2 dd, ?_⟩
            refine ⟨_, hD2, ?_, fun b o e => (upd_ne (ne_of_none e hD)).trans (s2 b o e), ?_⟩
            · rw [List.length_map, List.length_map, List.length_take]
              exact small1000 (by omega)
            · rw [upd_same, take_one hd', List.map_append, List.map_append]
              rfl
          · rintro H2 ⟨s2, hD2⟩
            rw [l, List.take_length] at hD2
            refine ⟨D, _, rfl, SqL.of hD2, ?_⟩
            have := kk H2 s2
            rw [e] at this
            rw [List.all_map]
            exact this
        · have := kk H (fun _ _ z => z)
          rw [e, Bool.eq_false_iff.mpr c, Bool.false_and] at this
          exact this
    | none => exact iteF (no rfl rfl)
    | bool b => exact iteF (no rfl rfl)
    | int i => exact iteF (no rfl rfl)
    | str x => exact iteF (no rfl rfl)
    | list xs => exact iteF (no rfl rfl)
    | dict xs => exact iteF (no rfl rfl)
end
end Rs


set_option Elab.async false
set_option linter.all false
set_option maxRecDepth 100000
set_option maxHeartbeats 4000000
/-! an own class of errors over a built-in one of any family, with an __init__ of its own -/
namespace OxF
open PySem PySem.W PySem.Calls PyProof.Rows PySem.HandSPX L2 Builtin Builtin.ObjectAttr
/-- what a family of built-in errors gives -/
structure Fam (B nw it : String) (tl : List Value) : Prop where
  base : ExcBaseFacts B nw it tl
  pass : ∀ self : Value, refuseLoop self "__setattr__" tl = pure ()
  obj : tl.contains (.type "object") = true
theorem famO : Fam "OverflowError" "OverflowError.__new__" "OverflowError.__init__" [.type "OverflowError", .type "ArithmeticError", .type "Exception", .type "BaseException", .type "object"] := ⟨F.excBase_OverflowError, fun self => by kernel_rfl, by decide +kernel⟩
structure OexF (K : W.Frag) (nw : String) (tl : List Value) (C : Addr) : Prop where
  cls : ∃ nm q N bs sn sub ab col dd k0 k1 k2 k3 k5, K.lookup C = some (excClassObj nm q C N bs tl true sn sub ab col dd k0 k1 k2 k3 k5 nw)
  sa : W.findIn K (.ref C) "__setattr__" = some (some (.builtin "object.__setattr__"))
  ex : W.subIn K (.ref C) (.type "BaseException") = some true
  ty : W.typeIn K (.ref C) = some (.type "type")
  kp : W.keepIn K (.ref C) = true
section
variable {prog : Program} {w : World} {A : Around} {B nw it : String} {tl : List Value} {K : W.Frag} {hp : Heap} {fl : Str} {tk : Tok} {y : Value} {a C : Addr} {fv : Array Value} {cd : ClassData} {g : Array GenState} {dr : Drawn} {t : Nat} {os : OsState} {R : Result → Shared → Prop}
/-- the first field of such an error -/
theorem first_field (fam : Fam B nw it tl) (inK : K.In hp) (at_ : hp.get? a = some { cls := .ref C, data := .fields fv }) (cl : W.clsIn K C = some cd) (mro : cd.mro = .ref C :: tl) (dct : cd.hasDict = true) (none_ : W.findIn K (.ref C) fl = some none)
    (wish : ∀ h2 tk2 dx, (∀ b o, b ≠ a → hp.get? b = some o → h2.get? b = some o) → hp.objs.size ≤ dx → dx ≠ a → h2.get? a = some { cls := .ref C, dict := some dx, data := .fields fv } → h2.Ns1 dx (fun z => if z = fl then some y else none) → R (.ok (.ret .none)) ⟨h2, g, dr, tk2, os⟩) :
    codeAny (model prog w) A (.call (.builtin "object.__setattr__") ⟨[.ref a, .str fl tk, y], []⟩) R ⟨hp, g, dr, t, os⟩ := by
  have inst : W.InstAt hp a { cls := .ref C, data := .fields fv } C none := ⟨at_, rfl, rfl, trivial⟩
  have far : a ≠ hp.objs.size := Nat.ne_of_lt (Heap.lt_size at_)
  have whole : W.Looks (model prog w) hp (mroOf (.ref C)) cd.mro := W.Looks.andThen (W.looks_clsIn inK cl) W.Looks.now
  have isObj : W.Looks (model prog w) hp (isInstance (.ref a) (.type "object")) true := inst.type.andThen (W.looks_mroIn inK (by
    unfold W.mroIn
    rw [cl, Option.bind_some, mro]
    simp only [List.isEmpty_cons, List.contains_cons, fam.obj]
    rfl))
  have so := F.store_object
  refine codeAny_call_builtin so.slot.plain so.entry (@W.check_slot (model prog w) _ _ ⟨hp, g, dr, t, os⟩ "object.__setattr__" "object" "__setattr__" (.ref a) [.str fl tk, y] [] _ so.kind so.split isObj (so.args _ _ _) ?_)
  have told : W.Looks (model prog w) hp (classData C) cd := W.looks_clsIn inK cl
  have noTaker : W.Looks (model prog w) hp (storeTaker? none) none := W.Looks.now
  rw [W.osa_eq]
  rw [refuse_eq]
  refine wpAny_bind (wpAny_bind (inst.type.at (wpAny_bind (whole.at ?_))))
  rw [mro, refuseLoop_ref, fam.pass]
  refine wpAny_pure (wpAny_bind (inst.type.at (wpAny_bind ((W.looks_findIn inK none_).at (wpAny_bind (noTaker.at ?_))))))
  show wpAny _ _ (storeInOwnDict (.ref a) (.ref C) (.str fl tk) fl y false) _ _ _
  obtain ⟨c1, c2, c3, c4, c5, c6, c7, c8, c9, c10, c11⟩ := cd
  dsimp only at dct
  subst dct
  unfold storeInOwnDict
  unfold ownDictForStores
  repeat (first
    | with_reducible refine store_in_new ?_ ?_
    | with_reducible refine wpAny_loadPart_at at_ ?_
    | with_reducible refine told.at ?_
    | wp_step)
  · refine ⟨_, #[], _, (Heap.get?_update_ne _ _ _ _ far.symm).trans (Heap.get?_push_at rfl rfl), rfl, ?_, fun _ => rfl⟩
    intro en he
    exact absurd he (by simp)
  · intro h2 tk2 ns2 same
    have at2 : (hp.push { cls := .type "dict", data := .dict #[] }).get? a = some { cls := .ref C, data := .fields fv } := Heap.get?_push_of_some _ at_
    refine wish h2 tk2 hp.objs.size (fun b o nb hb => ?_) (Nat.le_refl _) far.symm ((same.2 a far).trans (Heap.get?_update_self _ at2 rfl)) ns2
    have nb2 : b ≠ hp.objs.size := Nat.ne_of_lt (Heap.lt_size hb)
    exact ((same.2 b nb2).trans (Heap.get?_update_ne _ _ _ _ nb)).trans (Heap.get?_push_of_some _ hb)
end
section
variable {X : Cx} {pins : List (Addr × Obj)} {σ : L2.St} {H : Hp} {s : Shared} {a C : Addr} {f : Str} {y : V} {u : Value} {B nw it : String} {tl : List Value} {Q : Unit → Shared → Prop} {E : Value → Shared → Prop} {A : Around}
theorem set_first (fam : Fam B nw it tl) (T : OexF X.K nw tl C) (I : L2.Inv X pins σ H s) (e : H a = some (exo a C none)) (no : W.findIn X.K (.ref C) f = some none) (ry : RelV y u)
    (wish : ∀ dx s', H dx = none → dx ≠ a → L2.Inv X pins σ (upd (upd H dx (exd dx [(f, y)])) a (exo a C (some dx))) s' → Q () s') : wpAny (model X.prog X.w) A (setAttr (.ref a) f u) Q E s := by
  obtain ⟨nm, qn, N, bs, sn, sub, ab, col, dd, k0, k1, k2, k3, k5, hC⟩ := T.cls
  have cl : W.clsIn X.K C = some ⟨nm, bs, .ref C :: tl, N, qn, true, sn, sub, ab, col, false⟩ := by
    unfold W.clsIn
    rw [hC] <;> rfl
  obtain ⟨t1, there⟩ := exo_at I.hok e
  obtain ⟨hp, g, dr, t, os⟩ := s
  refine W.set_plain I.kIn (ox := { cls := .ref C, dict := none, data := .fields #[.ref t1, .none, .none, .none, .bool false, .none] }) (od := none) ⟨there, rfl, rfl, trivial⟩ T.sa ?_
  refine first_field fam I.kIn there cl rfl rfl no fun h2 tk2 dx kept big ne at2 ns2 => ?_
  have fr : H dx = none := I.hok.fresh big
  have isA : ∀ {b : Addr} {o : HO}, H b = some o → o ≠ exo a C none → b ≠ a := fun {b o} z n q => n (by
    rw [q, e] at z
    exact (Option.some.inj z).symm)
  have offA : ∀ {b : Addr}, H b = none → b ≠ a := fun {b} z q => by
    rw [q, e] at z
    cases z
  have offD : ∀ {b : Addr} {o : HO}, H b = some o → b ≠ dx := fun z => ne_of_none z fr
  have low : ∀ {b : Addr} {o : Obj}, hp.get? b = some o → b ≠ dx := fun z => Nat.ne_of_lt (Nat.lt_of_lt_of_le (Heap.lt_size z) big)
  have same : ∀ {b : Addr}, b ≠ a → b ≠ dx → upd (upd H dx (exd dx [(f, y)])) a (exo a C (some dx)) b = H b := fun n1 n2 => (upd_ne n1).trans (upd_ne n2)
  have U : Un X.fs [] H (upd (upd H dx (exd dx [(f, y)])) a (exo a C (some dx))) hp h2 := by
    constructor
    · exact fun b o z n _ _ => kept b o (offA n) z
    · exact fun b o z n _ _ => ⟨o.slots, kept b o (offA n) z⟩
    · exact fun b o z n _ => (same (offA n) (low z)).trans n
    · intro b o z _
      by_cases c : b = a
      · exact ⟨_, (congrArg h2.get? c).trans at2⟩
      · exact ⟨_, kept b o c z⟩
    · exact fun b xs z => (same (isA z (Ne.symm exo_tup)) (offD z)).trans z
    · exact fun b o v z => (same (isA z (Ne.symm exo_frz)) (offD z)).trans z
    · exact fun b ps z => ⟨#[], ((same (isA z (Ne.symm exo_tbl)) (offD z)).trans z).trans (by simp)⟩
  refine wish dx _ fr ne (I.un (t' := tk2) U fun b o z => ?_)
  by_cases c : b = a
  · subst c
    rw [upd_same] at z
    cases z
    exact exo_ok at2
  rw [upd_ne c] at z
  by_cases c2 : b = dx
  · subst c2
    rw [upd_same] at z
    cases z
    exact exd_ok ns2 (relO_put (fs := []) ry fun _ => True.intro)
  rw [upd_ne c2] at z
  refine (I.hok b o z).stay (fun c' v h1 h3 => kept c' v ?_ h3) (fun c' h1 => ?_) (fun c' xs h1 => ?_)
  · rcases h1 with rfl | h1
    · exact c
    · exact isA h1 (Ne.symm exo_own)
  · exact (same (isA h1 (Ne.symm exo_own)) (offD h1)).trans h1
  · exact (same (isA h1 (Ne.symm exo_tup)) (offD h1)).trans h1
/-- self.f = e, the first one -/
def tSetF (K : W.Frag) (nw : String) (tl : List Value) (f : Str) (to te : TE) : TS := fun D σ H => te σ H fun y H1 => to σ H1 fun x H2 => ∃ a C : Addr, x = .ref a ∧ OexF K nw tl C ∧ W.findIn K (.ref C) f = some none ∧
  H2 a = some (exo a C none) ∧ ∀ dx, H2 dx = none → dx ≠ a → D.nx σ (upd (upd H2 dx (exd dx [(f, y)])) a (exo a C (some dx)))
theorem ps_setF {o e : Expr} {to te : TE} {p' pos : Pos} (fam : Fam B nw it tl) (ho : PE X o to) (he : PE X e te) (hs : swapsWith e (some (.Attribute o f p')) pos.line X.env = pure false := by rfl) : PS X (.Assign [.Attribute o f p'] e pos) (tSetF X.K nw tl f to te) := by
  constructor
  intro pins s σ H D I h
  refine plainObj_wpAny_Assign_Attribute (thn (he.run pins s σ H _ I h) ?_) hs
  rintro v s1 ⟨y, H1, I1, ry, h1⟩
  refine thn (ho.run pins s1 σ H1 _ I1 h1) ?_
  rintro v2 s2 ⟨x, H2, I2, rx, a, C, rfl, T, no, at_, k⟩
  cases rx
  exact set_first fam T I2 at_ no ry fun dx s' n ne J => ⟨σ, _, J, k dx n ne⟩
/-- C(e, ..) of such a class -/
theorem pmkF {CX : CXT} {x : Str} {C fI : Addr} {k : Nat} {fd : FuncData} {ps : List Str} {sp : Sp} {e : Expr} {es : List Expr} {ta : TA} {p pos : Pos} (fam : Fam B nw it tl) (T : OexF X.K nw tl C) (hi : W.findIn X.K (.ref C) "__init__" = some (some (.ref fI))) (ti : W.typeIn X.K (.ref fI) = some (.type "function"))
    (F1 : FnOk X.prog X.w X.K X.mg X.base CX k fI fd ps sp) (hr : Room (k + 1) X.A) (bi : Binds X.K fd ps []) (hx : Passes CX X (fun _ _ _ => False)) (hg : Gl X x) (hm : X.mg x = some (.ref C)) (ha : PA X (e :: es) ta)
    (hdb : (x == ("__debug__" : Str)) = false := by decide) (he : starEach (e :: es) X.env = (false, eval e X.env) :: starEach es X.env := by rfl) (hpl : (backTo pos (starEach es X.env)).any (·.1) = false := by rfl) :
    PMk X (.Call (.Name x p) (e :: es) [] pos) (tMkO C sp [] ta) := by
  intro pins s σ H Q I h
  obtain ⟨nm, qn, N, bs, sn, sub, ab, col, dd, k0, k1, k2, k3, k5, hC⟩ := T.cls
  refine wpAny_Call_Name_kw (ld_glob I hg hm (W.callWith_K (h₀ := X.base) I.ok.mod.kin T.kp (thn (ha.run pos pins s σ H _ I h) ?_) he hpl) hdb)
  rintro us ⟨hp, g, dr, tk, os⟩ ⟨vs, H1, I1, rv, short, q1⟩
  refine ⟨I1.kIn, ?_⟩
  generalize hn : hp.objs.size + 1 = n
  have big : hp.objs.size ≤ n := by omega
  have wish := q1 n (I1.hok.fresh big)
  generalize hh : (hp.push (W.kdv_tup us)).push (excO C hp.objs.size) = h2
  have kept : ∀ b o, hp.get? b = some o → h2.get? b = some o := fun b o z => by
    rw [← hh]
    exact Heap.get?_push_of_some _ (Heap.get?_push_of_some _ z)
  have atn : h2.get? n = some (excO C hp.objs.size) := by
    rw [← hh, ← hn]
    heap_get
  have J : L2.Inv X pins σ (upd H1 n (exo n C none)) ⟨h2, g, dr, tk, os⟩ := I1.laid (t' := tk) kept big (exo_ok atn)
  have rv2 : Vals (V.ref n :: (vs ++ [])) (Value.ref n :: us) := by
    rw [List.append_nil]
    exact .cons rfl rv
  have len : (Value.ref n :: us).length = ps.length := rv2.length.symm.trans (F1.len _ _ _ _ wish)
  have lus : us.length ≤ sizeLine := by
    have := rv.length
    have := sizeLine_eq
    omega
  have b0 := bi ⟨h2, g, dr, tk, os⟩ (Value.ref n :: us) J.kIn (by rw [List.append_nil]; exact len)
  rw [List.append_nil] at b0
  show wpAny _ _ (call (.ref C) us) (MkP X pins σ Q) X.xe ⟨hp, g, dr, tk, os⟩
  refine wpAny_call (call_own fam.base (fun _ => rfl) (I1.kIn _ _ hC) (W.looks_findIn I1.kIn hi) (fun self => W.bind_fn I1.kIn self ti) lus ?_)
  rw [hh, hn]
  refine codeAny_mono (F1.run _ X.stack _ _ ⟨Value.ref n :: us, []⟩ (Value.ref n :: us) _ _ (fun _ _ _ => False) (hr.make C us []) (J.env0.make C us []) b0 rv2 wish) ?_
  rintro (er | fl) s' z
  · exact hx pins σ _ _ er s' J z
  · cases fl with
    | next => exact z.elim
    | brk => exact z.elim
    | cont => exact z.elim
    | ret w1 =>
      obtain ⟨v, H2, os2, bare2, un2, ok2, r2, rfl, d, fs, ea, ed, d1, q2⟩ := z
      obtain ⟨h3, g3, d3, t3, os3⟩ := s'
      refine ⟨r2, ?_⟩
      exact mk_end (raises_own T.ex T.ty) I1 big kept un2 ok2 os2 bare2 ea ed d1 q2
end
end OxF


set_option Elab.async false
set_option linter.all false
set_option maxRecDepth 100000
set_option maxHeartbeats 400000
namespace Rs
open PySem L2 Bs Fq LamX
/-! ### errors with a field of any name -/
structure ErrW (K : PySem.W.Frag) (mg : Str → Option Value) (x qual fld : Str) (st : Stmt) (C : Addr) : Prop where
  gC : mg x = some (.ref C)
  oex : OexC K C
  xf : XfC K C
  no : PySem.W.findIn K (.ref C) fld = some none
  ini : ∃ (fI : Addr) (fd : FuncData), PySem.W.findIn K (.ref C) "__init__" = some (some (.ref fI)) ∧ PySem.W.typeIn K (.ref fI) = some (.type "function") ∧ Fun K "__init__" qual st fI fd ∧ Binds K fd ["self", fld] []
/-- the family of TooMany -/
abbrev ovT : List Value := [.type "OverflowError", .type "ArithmeticError", .type "Exception", .type "BaseException", .type "object"]
abbrev OexO (K : PySem.W.Frag) (C : Addr) : Prop := OxF.OexF K "OverflowError.__new__" ovT C
structure ErrO (K : PySem.W.Frag) (mg : Str → Option Value) (x qual fld : Str) (st : Stmt) (C : Addr) : Prop where
  gC : mg x = some (.ref C)
  oex : OexO K C
  xf : XfC K C
  no : PySem.W.findIn K (.ref C) fld = some none
  ini : ∃ (fI : Addr) (fd : FuncData), PySem.W.findIn K (.ref C) "__init__" = some (some (.ref fI)) ∧ PySem.W.typeIn K (.ref fI) = some (.type "function") ∧ Fun K "__init__" qual st fI fd ∧ Binds K fd ["self", fld] []
def spInitW (K : PySem.W.Frag) (C : Addr) (fld : Str) : Sp := fun vs H Q _ => ∃ (a : Addr) (y : V), vs = [.ref a, y] ∧ H a = some (exo a C none) ∧
  ∀ dx, H dx = none → dx ≠ a → Q .non (upd (upd H dx (exd dx [(fld, y)])) a (exo a C (some dx)))
structure ErrOkW (P : Program) (w : World) (K : PySem.W.Frag) (mg : Str → Option Value) (base : Heap) (x fld : Str) (C : Addr) : Prop where
  gC : mg x = some (.ref C)
  oex : OexC K C
  ini : ∃ (fI : Addr) (fd : FuncData), PySem.W.findIn K (.ref C) "__init__" = some (some (.ref fI)) ∧ PySem.W.typeIn K (.ref fI) = some (.type "function") ∧ FnOk P w K mg base CX0 1 fI fd ["self", fld] (spInitW K C fld) ∧ Binds K fd ["self", fld] []
structure ErrOkO (P : Program) (w : World) (K : PySem.W.Frag) (mg : Str → Option Value) (base : Heap) (x fld : Str) (C : Addr) : Prop where
  gC : mg x = some (.ref C)
  oex : OexO K C
  ini : ∃ (fI : Addr) (fd : FuncData), PySem.W.findIn K (.ref C) "__init__" = some (some (.ref fI)) ∧ PySem.W.typeIn K (.ref fI) = some (.type "function") ∧ FnOk P w K mg base CX0 1 fI fd ["self", fld] (spInitW K C fld) ∧ Binds K fd ["self", fld] []
/-- the way out with an error of the class at C that carries v -/
def OutW (E : XK) (C : Addr) (fld : Str) (v : V) (H : Hp) : Prop := ∀ d : Addr, H d = none → E (.ref C) (some d) (upd H d (.xd [(fld, v)]))
def tRzW (C : Addr) (fld : Str) (W : WX) (te : TE) : TS := fun _ σ H => te σ H fun v H1 => ∀ d : Addr, H1 d = none → W (.ref C) (some d) σ (upd H1 d (.xd [(fld, v)]))
theorem ps_rzW {X : Cx} {x fld : Str} {C : Addr} {j : Nat} {e : Expr} {te : TE} {W : WX} {p pos pos2 : Pos} (hc : X.calm = true) (T : ErrOkW X.prog X.w X.K X.mg X.base x fld C) (hr : Room j X.A) (hj : 2 ≤ j) (tk : Takes X W) (he : PE X e te) (hg : Gl X x)
    (hdb : (x == ("__debug__" : Str)) = false := by decide) (hs : starEach (e :: []) X.env = (false, eval e X.env) :: starEach [] X.env := by rfl) (hpl : (backTo pos (starEach [] X.env)).any (·.1) = false := by rfl) :
    PS X (.Raise (some (.Call (.Name x p) [e] [] pos)) none pos2) (tRzW C fld W te) := by
  obtain ⟨fI, fd, iC, tI, F1, b⟩ := T.ini
  have h := ps_raise (pos := pos2) hc tk (pmk_oex (x := x) (p := p) (pos := pos) T.oex iC tI F1 (hr.mono hj) b .nil pass0 hg T.gC (pa_cons (pe_weak he) pa_nil hs) hdb hs hpl)
  constructor
  intro pins s σ H D I q
  refine h.run pins s σ H D I ?_
  refine ⟨_, q, fun v H1 z => ?_⟩
  refine ⟨(by show 1 ≤ 1000; decide), fun a ha => ⟨a, v, rfl, upd_same, fun dx n1 n2 => ⟨rfl, dx, [(fld, v)], upd_same, ?_, ?_, ?_⟩⟩⟩
  · rw [upd_ne n2]
    exact upd_same
  · rw [upd_ne n2] at n1
    exact n1
  · rw [upd_ne n2] at n1
    show W _ _ _ (upd (del _ a) dx _)
    rw [heap_end ha n2]
    exact z dx n1
theorem ps_rzO {X : Cx} {x fld : Str} {C : Addr} {j : Nat} {e : Expr} {te : TE} {W : WX} {p pos pos2 : Pos} (hc : X.calm = true) (T : ErrOkO X.prog X.w X.K X.mg X.base x fld C) (hr : Room j X.A) (hj : 2 ≤ j) (tk : Takes X W) (he : PE X e te) (hg : Gl X x)
    (hdb : (x == ("__debug__" : Str)) = false := by decide) (hs : starEach (e :: []) X.env = (false, eval e X.env) :: starEach [] X.env := by rfl) (hpl : (backTo pos (starEach [] X.env)).any (·.1) = false := by rfl) :
    PS X (.Raise (some (.Call (.Name x p) [e] [] pos)) none pos2) (tRzW C fld W te) := by
  obtain ⟨fI, fd, iC, tI, F1, b⟩ := T.ini
  have h := ps_raise (pos := pos2) hc tk (OxF.pmkF (x := x) (p := p) (pos := pos) OxF.famO T.oex iC tI F1 (hr.mono hj) b pass0 hg T.gC (pa_cons (pe_weak he) pa_nil hs) hdb hs hpl)
  constructor
  intro pins s σ H D I q
  refine h.run pins s σ H D I ?_
  refine ⟨_, q, fun v H1 z => ?_⟩
  refine ⟨(by show 1 ≤ 1000; decide), fun a ha => ⟨a, v, rfl, upd_same, fun dx n1 n2 => ⟨rfl, dx, [(fld, v)], upd_same, ?_, ?_, ?_⟩⟩⟩
  · rw [upd_ne n2]
    exact upd_same
  · rw [upd_ne n2] at n1
    exact n1
  · rw [upd_ne n2] at n1
    show W _ _ _ (upd (del _ a) dx _)
    rw [heap_end ha n2]
    exact z dx n1
end Rs


set_option Elab.async false
set_option linter.all false
set_option maxRecDepth 100000
set_option maxHeartbeats 400000
namespace Sh
open PySem
/-- data whose text may be made -/
structure Ok (d : PyData) : Prop where
  s : d.showable = true
  n : d.hasDict = false
  dep : d.depth ≤ 60
  l : d.shown.length ≤ sizeLine
theorem of {d : PyData} (h1 : d.showable = true) (h2 : d.hasDict = false) (h3 : d.depth ≤ 60) (h4 : d.leavesShort 2600 = true) (h5 : d.weight ≤ 6000) : Ok d := by
  refine ⟨h1, h2, h3, ?_⟩
  have := PyData.shown_le 2600 (by decide) d h4
  have e : sizeLine = 16777216 := sizeLine_eq
  have : (2600 + 2) * d.weight ≤ 2602 * 6000 := Nat.mul_le_mul (Nat.le_refl _) h5
  omega
theorem int_short {i : Int} (h : i.natAbs < 2 ^ 2500) : (PyData.shown (.int i)).length ≤ 2600 := by
  have l : i.natAbs.log2 < 2500 := PySem.Flt.log2_lt_of (by decide) h
  have := int_text_length_le (a := i) (k := 2500) (by decide) l
  have e : (PyData.shown (.int i)).length = (toString i).length := by
    show (Str.ofString (toString i)).length = _
    exact ofString_length _
  omega
end Sh


set_option Elab.async false
set_option linter.all false
set_option maxRecDepth 100000
set_option maxHeartbeats 400000
namespace Rs
open PySem L2 Bs Fq LamX
theorem can_dFs : ∀ qs : List F, PyData.canLayAll0 (qs.map dF) = true
  | [] => by simp [PyData.canLayAll0]
  | q :: qs => by
    have := can_dFs qs
    simp [PyData.canLayAll0, PyData.canLay0, dF, this]
theorem dep_dFs : ∀ qs : List F, PyData.depthAll (qs.map dF) ≤ 2
  | [] => by simp [PyData.depthAll]
  | q :: qs => by
    have := dep_dFs qs
    simp only [List.map_cons, PyData.depthAll, PyData.depth, dF]
    omega
theorem shaped_dFs (qs : List F) : SeqAt.shaped (.list (qs.map dF)) = true := by
  unfold SeqAt.shaped
  rw [Bool.and_eq_true_iff]
  refine ⟨?_, decide_eq_true ?_⟩
  · simpa [PyData.canLay0] using can_dFs qs
  · have := dep_dFs qs
    simp only [PyData.depth]
    omega
theorem eqv_nil (qs : List F) : PyData.eqv (.list (qs.map dF)) (.list []) = qs.isEmpty := by
  cases qs <;> rfl
abbrev sLProd : Stmt := top 71
/-- a list of fractions -/
def Ls (K : PySem.W.Frag) (H : Hp) (v : V) (qs : List F) : Prop := ∃ a xs, v = .ref a ∧ SqL K H a xs ∧ FrAll K H xs qs
theorem Ls.mono {K : PySem.W.Frag} {H H' : Hp} {v : V} {qs : List F} (e : Same H H') (h : Ls K H v qs) : Ls K H' v qs := by
  obtain ⟨a, xs, rfl, s, f⟩ := h
  exact ⟨a, xs, rfl, e.seq s, f.mono e⟩
def spLProd (K : PySem.W.Frag) : Sp := fun vs H Q _ => ∃ (x y : V) (qs rs : List F) (D1 D2 : Int) (n m : Nat), vs = [x, y] ∧ Ls K H x qs ∧ Ls K H y rs ∧ Ca D1 n qs ∧ Ca D2 m rs ∧ Bd D1 n ∧ Bd D2 m ∧ Bd (D1 * D2) (n + m + 170) ∧ qs.length ≤ 12 ∧ rs.length ≤ 12 ∧
  ∀ H' v, Same H H' → Ls K H' v (prodL qs rs) → Q v H'
end Rs


set_option Elab.async false
set_option linter.all false
set_option maxRecDepth 100000
set_option maxHeartbeats 400000
namespace Rs
open PySem L2 Bs Fq LamX
section
variable {P : Program} {w : World} {K : PySem.W.Frag} {mg : Str → Option Value} {base : Heap} {f : Addr} {fd : FuncData}
theorem scLProd : FnScope ["one", "far", "found_so", "k", "top", "j", "late"] ["one", "far"] (defScope sLProd) := ⟨rfl, rfl, rfl, by decide +kernel, rfl, by decide +kernel, by decide +kernel⟩
theorem ok_lprod (F : Fun K "_law_product" "_law_product" sLProd f fd) (T : Blt mg) (en : mg "enumerate" = none) (Ad : Cal P w K mg base 2 "_law_plus" (spOp K add domL)) (Ti : Cal P w K mg base 2 "_law_times" (spOp K mul domL)) :
    FnOk P w K mg base CX0 3 f fd ["one", "far"] (spLProd K) := by
  refine F.ok scLProd (fun vs H Q E h => ?_) (fun cdv A outer s H vs Q E hr h => ?_)
  · obtain ⟨x, y, qs, rs, _, _, _, _, rfl, _⟩ := h
    rfl
  · obtain ⟨x, y, qs, rs, D1, D2, za, zb, rfl, ⟨a, xs, rfl, sx, fx⟩, ⟨b, ys, rfl, sy, fy⟩, hq, hrs, bd1, bd2, hab, lq, lr, kk⟩ := h
    refine ⟨_, pss_cons (ps_if (PW.pt (pw_or (pt_cmpR (op_eqD hr.units) (pv 0) (pe_lst pa_nil) (nomark _)) (pw_or1 (pt_cmpR (op_eqD hr.units) (pv 1) (pe_lst pa_nil) (nomark _))))) (pss_one (ps_ret (pe_lst pa_nil))) pss_nil)
      (pss_cons (ps_set (i := 2) scLProd.nd rfl (Or.inl rfl) (pe_op op_rep (pe_lst (pa_cons (pe_tup (pa_cons pe_int (pa_cons pe_int pa_nil))) pa_nil)) (pe_op op_sub (pe_op op_add (pe_callB call_len_seq (by rfl) T.len (by decide +kernel) (pa_cons (pv 0) pa_nil)) (pe_callB call_len_seq (by rfl) T.len (by decide +kernel) (pa_cons (pv 1) pa_nil))) pe_int)))
      (pss_cons (ps_for PassesOwn.never rfl (pi_enum (by rfl) en (pa_cons (pv 0) pa_nil)) (pg_tup rfl (pgs_cons (pg_name (i := 3) scLProd.nd rfl (.inl rfl)) (pgs_cons (pg_name (i := 4) scLProd.nd rfl (.inl rfl)) pgs_nil)))
        (pss_one (ps_for PassesOwn.never rfl (pi_enum (by rfl) en (pa_cons (pv 1) pa_nil)) (pg_tup rfl (pgs_cons (pg_name (i := 5) scLProd.nd rfl (.inl rfl)) (pgs_cons (pg_name (i := 6) scLProd.nd rfl (.inl rfl)) pgs_nil)))
          (pss_one (ps_asg (pe_n Ad hr (by decide) (by rfl) (pa_cons (pe_ix ix_list (pv 2) (pe_op op_add (pv 3) (pv 5)) (fun _ _ => rfl)) (pa_cons (pe_n Ti hr (by decide) (by rfl) (pa_cons (pv 4) (pa_cons (pv 6) pa_nil))) pa_nil))) (pg_sub (pv 2) (pe_op op_add (pv 3) (pv 5)) set_list))))))
      (pss_one (ps_ret (pv 2))))), ?_⟩
    have lx := fx.len
    have ly := fy.len
    refine ⟨_, rfl, (by show 0 ≤ sizeLine; decide), fun n0 hn0 => ?_⟩
    have t0 := same_new (o := .lst []) hn0
    refine ⟨.list (qs.map dF), .list [], .lst (t0.seq sx) (fx.mono t0).dp, .lst (SqL.of upd_same) .nil, shaped_dFs _, rfl, _, rfl, ?_⟩
    rw [eqv_nil]
    cases eq1 : qs.isEmpty with
    | true =>
      refine iteT ⟨(by show 0 ≤ sizeLine; decide), fun L hL => kk _ _ (t0.trans (same_new hL)) ?_⟩
      rw [show prodL qs rs = [] from if_pos (.inl (List.isEmpty_iff.mp eq1))]
      exact ⟨L, [], rfl, SqL.of upd_same, .nil⟩
    | false =>
      refine iteF ?_
      refine ⟨_, rfl, (by show 0 ≤ sizeLine; decide), fun n1 hn1 => ?_⟩
      have t1 := same_new (o := .lst []) hn1
      have t01 := t0.trans t1
      refine ⟨.list (rs.map dF), .list [], .lst (t01.seq sy) (fy.mono t01).dp, .lst (SqL.of upd_same) .nil, shaped_dFs _, rfl, _, rfl, ?_⟩
      rw [eqv_nil]
      cases eq2 : rs.isEmpty with
      | true =>
        refine iteT ⟨(by show 0 ≤ sizeLine; decide), fun L hL => kk _ _ (t01.trans (same_new hL)) ?_⟩
        rw [show prodL qs rs = [] from if_pos (.inr (List.isEmpty_iff.mp eq2))]
        exact ⟨L, [], rfl, SqL.of upd_same, .nil⟩
      | false =>
        refine iteF ?_
        have n1' : qs ≠ [] := fun z => by rw [z] at eq1; cases eq1
        have n2' : rs ≠ [] := fun z => by rw [z] at eq2; cases eq2
        rw [show prodL qs rs = prodN (qs.length + rs.length - 1) qs rs from if_neg (fun z => z.elim n1' n2')] at kk
        have p1' := List.length_pos_iff.mpr n1'
        have p2' := List.length_pos_iff.mpr n2'
        generalize upd (upd H n0 (.lst [])) n1 (.lst []) = H0 at t01
        clear t1 hn1 hn0 t0
        refine ⟨(by show 2 ≤ sizeLine; decide), fun z hz => ⟨(by show 1 ≤ sizeLine; decide), fun p0 hp0 => ?_⟩⟩
        have sz := same_new (o := .tup [.int 0, .int 1]) hz
        have s0' := same_new (o := .lst [V.ref z]) hp0
        have s0 : Same H _ := (t01.trans sz).trans s0'
        have fz : Fr K (upd (upd H0 z (.tup [.int 0, .int 1])) p0 (.lst [V.ref z])) (.ref z) (0, 1) := (Fr.of upd_same).mono s0'
        have up0 : upd (upd H0 z (.tup [.int 0, .int 1])) p0 (.lst [V.ref z]) p0 = some (.lst [V.ref z]) := upd_same
        generalize upd (upd H0 z (.tup [.int 0, .int 1])) p0 (.lst [V.ref z]) = H00 at s0 fz up0 ⊢
        have hn : ((([V.ref z] : List V).length) * ((xs.length : Int) + (ys.length : Int) - 1).toNat) ≤ sizeLine := by
          rw [List.length_singleton, Nat.one_mul]
          exact Nat.le_of_lt (small1000 (by omega))
        refine ⟨_, rfl, a, xs, rfl, Or.inl (s0.seq sx), _, rfl, b, ys, rfl, Or.inl (s0.seq sy), _, _, rfl, rfl, _, _, rfl, rfl, ?_⟩
        refine ⟨p0, _, _, rfl, rfl, up0, by omega, by omega, hn, fun W hW => ?_⟩
        have eW : (List.replicate ((xs.length : Int) + (ys.length : Int) - 1).toNat [V.ref z]).flatten = List.replicate (qs.length + rs.length - 1) (V.ref z) := by
          rw [List.flatten_replicate_singleton]
          congr 1
          omega
        rw [eW]
        have s1 : Same H (upd H00 W (.lst (List.replicate (qs.length + rs.length - 1) (V.ref z)))) := s0.trans (same_new hW)
        have fz1 := fz.mono (same_new (o := .lst (List.replicate (qs.length + rs.length - 1) (V.ref z))) hW)
        have wn : H W = none := s0.free hW
        have hW1 : upd H00 W (.lst (List.replicate (qs.length + rs.length - 1) (V.ref z))) W = some (.lst (List.replicate (qs.length + rs.length - 1) (V.ref z))) := upd_same
        generalize upd H00 W (.lst (List.replicate (qs.length + rs.length - 1) (V.ref z))) = H1 at s1 hW1 fz1
        clear hn hW eW
        let St : List Fq.F → Hp → Prop := fun ws H2 => Same H H2 ∧ ∃ vs, H2 W = some (.lst vs) ∧ FrAll K H2 vs ws
        refine ⟨_, rfl, a, xs, rfl, s1.seq sx, ?_⟩
        refine for_it walk_enum (fun i σ H2 => St (stepI (List.replicate (qs.length + rs.length - 1) (0, 1)) qs rs i) H2 ∧ ∃ v3 v4 v5 v6, σ = [some (V.ref a), some (V.ref b), some (V.ref W), v3, v4, v5, v6])
          ⟨⟨s1, _, hW1, FrAll.rep fz1 _⟩, none, none, none, none, rfl⟩ (fun i σ H2 _ p => p.1.1.seq sx) ?_ ?_
        · rintro i x σ H2 H3 hi ⟨⟨s2, vs, hv, fv⟩, v3, v4, v5, v6, rfl⟩ ⟨T, x', y', rfl, hT, rfl, h1, h2⟩
          cases h1
          have s3 := same_new (o := .tup [.int (i : Nat), y']) hT
          obtain ⟨y'', q, g1, g2, g3⟩ := fx.get (i := i) (by omega)
          have h2' : xs[i]? = some y' := h2
          rw [g1] at h2'
          cases h2'
          have eq_ : co qs i = q := co_get g2
          refine ⟨T, _, rfl, SqT.of upd_same, rfl, _, _, rfl, _, _, rfl, rfl, ?_⟩
          refine ⟨_, rfl, b, ys, rfl, (s2.trans s3).seq sy, ?_⟩
          refine for_it walk_enum (fun j σ H2 => St (stepJ (stepI (List.replicate (qs.length + rs.length - 1) (0, 1)) qs rs i) i (co qs i) rs j) H2 ∧ ∃ v5 v6, σ = [some (V.ref a), some (V.ref b), some (V.ref W), some (V.int i), some y', v5, v6])
            ⟨⟨s2.trans s3, vs, s3 _ _ hv, fv.mono s3⟩, v5, v6, rfl⟩ (fun i σ H2 _ p => p.1.1.seq sy) ?_ ?_
          · rintro j x σ H4 H5 hj ⟨⟨s4, us, hu, fu⟩, v5, v6, rfl⟩ ⟨T2, x2, y2, rfl, hT2, rfl, h3, h4⟩
            cases h3
            have s5 := same_new (o := .tup [.int (j : Nat), y2]) hT2
            obtain ⟨y3, r, g4, g5, g6⟩ := fy.get (i := j) (by omega)
            have h4' : ys[j]? = some y2 := h4
            rw [g4] at h4'
            cases h4'
            have er_ : co rs j = r := co_get g5
            refine ⟨T2, _, rfl, SqT.of upd_same, rfl, _, _, rfl, _, _, rfl, rfl, ?_⟩
            have lw : (stepJ (stepI (List.replicate (qs.length + rs.length - 1) (0, 1)) qs rs i) i (co qs i) rs j).length = qs.length + rs.length - 1 := by
              rw [stepJ_len, stepI_len, List.length_replicate]
            have zr : Ca (D1 * D2) (za + zb) (List.replicate (qs.length + rs.length - 1) ((0, 1) : Fq.F)) := fun q hq => by
              rw [(List.mem_replicate.mp hq).2]
              exact Cb.zero
            have pb := (stepJ_wtC (i := i) (stepI_wtC zr hq hrs (Nat.le_refl _) (fun _ => 0) i (by rw [List.length_replicate]; omega)).1 (hq.co i) hrs (by omega) (fun _ => 0) j (by rw [stepI_len, List.length_replicate]; omega)).1
            have hk : za + zb + i * rs.length + j ≤ za + zb + 170 := by
              have : i * rs.length ≤ 11 * 12 := Nat.mul_le_mul (by omega) lr
              omega
            have ss := s4.trans s5
            have eij : (i : Int) + (j : Int) = ((i + j : Nat) : Int) := by omega
            obtain ⟨u, p, k1, k2, k3⟩ := fu.get (i := i + j) (by rw [lw]; omega)
            have eu := co_get k2
            have pm : Cb (D1 * D2) (za + zb + i * rs.length + j) p := pb p (List.mem_of_getElem? k2)
            have hus : us.length = qs.length + rs.length - 1 := by rw [fu.len, lw]
            have ha : atI us ((i : Int) + (j : Int)) = some u := by
              rw [eij]
              exact atI_nat k1
            have hix : ixN us.length ((i : Int) + (j : Int)) = some (i + j) := by
              rw [eij]
              unfold ixN
              rw [if_pos (by omega), if_pos (by omega), Int.toNat_natCast]
            have sq : Cb D1 za q := by rw [← eq_]; exact hq.co i
            have sr : Cb D2 zb r := by rw [← er_]; exact hrs.co j
            refine ⟨_, rfl, _, rfl, _, rfl, _, _, rfl, rfl, W, us, _, u, rfl, rfl, SqL.of (s5 _ _ hu), ha, _, rfl, _, rfl, y', y2, q, r, rfl, g3.mono ss, g6.mono ss, ⟨cb_dl sq bd1, cb_dl sr bd2⟩, fun c1 hc1 => ?_⟩
            have s6 := same_new (o := fr (mul q r)) hc1
            refine ⟨u, .ref c1, p, mul q r, rfl, (k3.mono s5).mono s6, Fr.of upd_same, ⟨cb_dl (pm.mono hk) hab, cb_dl (sq.mul sr) (hab.mono (by omega))⟩, fun c2 hc2 => ?_⟩
            have s7 := same_new (o := fr (add p (mul q r))) hc2
            have hu7 := s7 _ _ (s6 _ _ (s5 _ _ hu))
            refine ⟨_, rfl, _, rfl, _, rfl, _, _, rfl, rfl, W, us, _, i + j, rfl, rfl, hu7, hix, ?_⟩
            refine ⟨⟨fun c o e => (upd_ne (ne_of_none e wn)).trans (s7 c o (s6 c o (s5 c o (s4 c o e)))), _, upd_same, ?_⟩, _, _, rfl⟩
            show FrAll K _ _ (List.set _ _ _)
            rw [eu, er_, eq_]
            rw [eq_] at fu
            exact FrAll.set _ (FrAll.off hu7 (((fu.mono s5).mono s6).mono s7)) ((Fr.of upd_same).off hu7)
          · rintro σ H4 ⟨w4, v5, v6, rfl⟩
            rw [ly] at w4
            exact ⟨w4, _, _, _, _, rfl⟩
        · rintro σ H2 ⟨⟨s2, vs, hv, fv⟩, v3, v4, v5, v6, rfl⟩
          rw [lx] at fv
          exact ⟨_, rfl, kk H2 _ s2 ⟨W, vs, rfl, SqL.of hv, fv⟩⟩
end
end Rs


set_option Elab.async false
set_option linter.all false
set_option maxRecDepth 100000
set_option maxHeartbeats 400000
namespace Rs
open PySem L2 Bs Fq LamX
/-- the list at D alone was changed -/
theorem Sta.off {H : Hp} {p c l D : Addr} {n : Nat} {t : Int} {xs : List V} {o : HO} (S : Sta H p c l n t) (h : H D = some (.lst xs)) (n1 : c ≠ D) (n2 : l ≠ D) : Sta (upd H D o) p c l n t := by
  obtain ⟨cs, a1, a2⟩ := S.cs
  obtain ⟨ls, b1, b2⟩ := S.ls
  have n3 : p ≠ D := ne_of S.d h (by intro z; cases z)
  exact ⟨(upd_ne n3).trans S.d, ⟨cs, (upd_ne n1).trans a1, a2⟩, ⟨ls, (upd_ne n2).trans b1, b2⟩, S.ne, S.n1, S.n2, S.t0⟩
theorem FrAll.kp {K : PySem.W.Frag} {H H' : Hp} {p c l : Addr} {n : Nat} {t : Int} (k : Kp p l H H') (S : Sta H p c l n t) : ∀ {vs : List V} {qs : List F}, FrAll K H vs qs → FrAll K H' vs qs
  | _, _, .nil => .nil
  | _, _, .cons a b => .cons (k.fr S a) (FrAll.kp k S b)
theorem Po.kp {K : PySem.W.Frag} {H H' : Hp} {p c l : Addr} {n : Nat} {t : Int} {v : V} {qs : List F} (k : Kp p l H H') (S : Sta H p c l n t) (h : Po K H v qs) : Po K H' v qs := by
  obtain ⟨a, xs, rfl, s, f⟩ := h
  obtain ⟨ls, b1, _⟩ := S.ls
  refine ⟨a, xs, rfl, ?_, f.kp k S⟩
  rcases s with (s | ⟨o, s⟩) | s
  · exact .inl (.inl (k a _ s (ne_of s S.d (by intro z; cases z)) (ne_of s b1 (by intro z; cases z))))
  · exact .inl (.inr ⟨o, k a _ s (ne_of s S.d (by intro z; cases z)) (ne_of s b1 (by intro z; cases z))⟩)
  · exact .inr s
end Rs


set_option Elab.async false
set_option linter.all false
set_option maxRecDepth 100000
set_option maxHeartbeats 1000000
/-! zip of a list and a tuple -/
namespace MxZ
open PySem PySem.Spec PyProof.Rows L2
/-- each turn: the next of the list at a, the next of the tuple at b, in a new pair -/
def ItzM (K : PySem.W.Frag) (a b : Addr) : It :=
  ⟨fun i H => ∃ (l t : List V) (x y : V), SqL K H a l ∧ SqT K H b t ∧ l[i]? = some x ∧ t[i]? = some y,
    fun i H v H' => ∃ T x y, v = .ref T ∧ H T = none ∧ H' = upd H T (.tup [x, y]) ∧ (∀ l, SqL K H a l → l[i]? = some x) ∧ ∀ t, SqT K H b t → t[i]? = some y,
    fun i H => ∃ l t : List V, SqL K H a l ∧ SqT K H b t ∧ i ≤ l.length ∧ i ≤ t.length ∧ (i = l.length ∨ i = t.length)⟩
theorem five {z TI TO j k c : Addr} (h : c ∈ [z, TI, TO, j, k]) : c = z ∨ c = TI ∨ c = TO ∨ c = j ∨ c = k := by simpa using h
theorem turn_mix {P : Program} {w : World} {K : PySem.W.Frag} {elts : List Expr} {kk : Nat} {tpos : Pos} {a b z TI TO j k : Addr} (S : ZipSep2 z TI TO j k [j, a] [k, b]) (na : a ≠ j) (nb : b ≠ k) :
    Turn P w K (.Tuple elts kk tpos) (ItzM K a b) [z, TI, TO, j, k] z (fun i h => IsZip h z TI TO .none ∧ IsTupOf2 h TI (.ref j) (.ref k) ∧ (∃ x y, IsTupOf2 h TO x y) ∧ h.IsListIter j a i ∧ h.IsTupleIter k b i) where
  mem := List.mem_cons_self
  obj := fun i h st c hc => by
    obtain ⟨hz, hI, ⟨x, y, hO⟩, ⟨oj, ej, _, dj⟩, ⟨ok, ek, _, dk⟩⟩ := st
    rcases five hc with rfl | rfl | rfl | rfl | rfl
    · exact ⟨_, hz, fun v n => nomatch n⟩
    · exact ⟨_, hI, fun v n => nomatch n⟩
    · exact ⟨_, hO, fun v n => nomatch n⟩
    · exact ⟨oj, ej, fun v n => by rw [dj] at n; cases n⟩
    · exact ⟨ok, ek, fun v n => by rw [dk] at n; cases n⟩
  keep := fun i h h' st g => by
    obtain ⟨hz, hI, ⟨x, y, hO⟩, hj, hk⟩ := st
    exact ⟨g z (by simp) _ hz, g TI (by simp) _ hI, ⟨x, y, g TO (by simp) _ hO⟩, hj.at fun o n => g j (by simp) o n, hk.at fun o n => g k (by simp) o n⟩
  item := by
    intro X hP hw hK hc i pins s σ H E I hf st hg
    subst hP hw hK
    obtain ⟨hz, hI, ⟨x0, y0, hO⟩, hj, hk⟩ := st
    obtain ⟨l, t, x, y, ql, qt, gx, gy⟩ := hg
    obtain ⟨il, rl, pl, _⟩ := I.list ql
    obtain ⟨it, rt, pt, _⟩ := I.tuple qt
    obtain ⟨u, hu, ru⟩ := rl.get gx
    obtain ⟨v, hv, rv⟩ := rt.get gy
    have zl : z < s.heap.objs.size := Heap.lt_size hz
    have lt1 : i < il.toArray.size := by
      obtain ⟨q, _⟩ := List.getElem?_eq_some_iff.mp hu
      simpa using q
    have lt2 : i < it.toArray.size := by
      obtain ⟨q, _⟩ := List.getElem?_eq_some_iff.mp hv
      simpa using q
    refine wpAny_pyNext_zipD2_item S (Draws.list (A := X.A.in1) (I.ok.hd hc) j a na il.toArray) (Draws.tuple (A := X.A.in1) (I.ok.hd hc) k b nb it.toArray) hz hI hO ⟨hj, pl.isList⟩ ⟨hk, pt⟩ lt1 lt2 fun u' v' h' tk eu ev z' O' sj sk hT hs keep => ?_
    have eu' : u' = u := by
      have : il[i]? = some u' := by simpa using eu
      rw [hu] at this
      exact (Option.some.inj this).symm
    have ev' : v' = v := by
      have : it[i]? = some v' := by simpa using ev
      rw [hv] at this
      exact (Option.some.inj this).symm
    subst eu' ev'
    refine ⟨_, rfl, wpAny_letOwnedTupleGo_zip (s := { s with heap := h', toks := tk }) z' fun h2 z2 sb => ?_⟩
    have hT2 : IsTupOf2 h2 s.heap.objs.size u' v' := (sb.2 _ (Nat.ne_of_gt zl)).trans hT
    have fresh : ObjOk X.prog X.w (upd H s.heap.objs.size (.tup [x, y])) h2 s.heap.objs.size (.tup [x, y]) :=
      ⟨by show 2 ≤ sizeLine; decide, [u', v'], .cons ru (.cons rv .nil), ⟨_, hT2, rfl, _, rfl⟩⟩
    have J : Inv X pins σ (upd H s.heap.objs.size (.tup [x, y])) { s with heap := h2, toks := tk } := by
      refine I.turnedNew (ch := [z, TI, TO, j, k]) (fun c o out e => ?_) hf (Nat.le_refl _) fresh
      have n : c ≠ z ∧ c ≠ TO ∧ c ≠ j ∧ c ≠ k := ⟨fun q => out (by simp [q]), fun q => out (by simp [q]), fun q => out (by simp [q]), fun q => out (by simp [q])⟩
      exact (sb.2 c n.1).trans (keep c o n.1 n.2.1 n.2.2.1 n.2.2.2 e)
    refine ⟨.ref s.heap.objs.size, _, J, rfl, ⟨_, x, y, rfl, I.hok.fresh (Nat.le_refl _), rfl, fun m hm => by rw [I.list_inj hm ql]; exact gx, fun m hm => by rw [I.tuple_inj hm qt]; exact gy⟩, ⟨z2, ?_, ⟨u', v', ?_⟩, ?_, ?_⟩, fun c hcm => ?_⟩
    · refine (sb.2 _ S.TIz).trans (keep _ _ S.TIz S.TITO S.TIi1 S.TIi2 hI)
    · exact (sb.2 _ S.TOz).trans O'
    · exact sj.1.at fun o q => (sb.2 _ (Ne.symm S.zi1)).trans q
    · exact sk.1.at fun o q => (sb.2 _ (Ne.symm S.zi2)).trans q
    · have lt : c < s.heap.objs.size := by
        rcases five hcm with rfl | rfl | rfl | rfl | rfl
        · exact zl
        · exact Heap.lt_size hI
        · exact Heap.lt_size hO
        · exact hj.elim fun _ q => Heap.lt_size q.1
        · exact hk.elim fun _ q => Heap.lt_size q.1
      rw [upd_ne (Nat.ne_of_lt lt)]
      exact (hf c hcm).1
  done := by
    intro X hP hw hK hc i pins s σ H E I hf st hg
    subst hP hw hK
    obtain ⟨hz, hI, ⟨x0, y0, hO⟩, hj, hk⟩ := st
    obtain ⟨l, t, ql, qt, b1, b2, fin⟩ := hg
    obtain ⟨il, rl, pl, _⟩ := I.list ql
    obtain ⟨it, rt, pt, _⟩ := I.tuple qt
    have n1 : il.toArray.size = l.length := by rw [List.size_toArray, rl.length]
    have n2 : it.toArray.size = t.length := by rw [List.size_toArray, rt.length]
    refine wpAny_pyNext_zipD2_end (i := i) S (Draws.list (A := X.A.in1) (I.ok.hd hc) j a na il.toArray) (Draws.tuple (A := X.A.in1) (I.ok.hd hc) k b nb it.toArray) hz hI hO ⟨hj, pl.isList⟩ ⟨hk, pt⟩ (by omega) (by omega) (by omega) fun h' tk keep => ⟨rfl, ?_⟩
    refine I.turnedL (ch := [z, TI, TO, j, k]) (fun c o out e => ?_) hf
    exact keep c o (fun q => out (by simp [q])) (fun q => out (by simp [q])) (fun q => out (by simp [q])) (fun q => out (by simp [q])) e
  self := fun A i s Q E st h => wpAny_pyIter_zip st.1 h
theorem out2 {x u v : Nat} (h1 : x ≠ u) (h2 : x ≠ v) : ¬ ((x : Addr) ∈ ([u, v] : List Addr)) := fun h => by
  rcases List.mem_cons.mp h with q | q
  · exact h1 q
  · exact h2 (List.mem_singleton.mp q)
theorem apart (n a b : Nat) (la : a < n) (lb : b < n) : ZipSep2 (n + 4 : Nat) (n + 2 : Nat) (n + 3 : Nat) n (n + 1 : Nat) [n, a] [(n + 1 : Nat), b] where
  TIz := by show (n + 2 : Nat) ≠ n + 4; omega
  TOz := by show (n + 3 : Nat) ≠ n + 4; omega
  TITO := by show (n + 2 : Nat) ≠ n + 3; omega
  TIi1 := by show (n + 2 : Nat) ≠ n; omega
  mem1 := List.mem_cons_self
  zf1 := out2 (by omega) (by omega)
  Tf1 := out2 (by omega) (by omega)
  TIi2 := by show (n + 2 : Nat) ≠ n + 1; omega
  mem2 := List.mem_cons_self
  zf2 := out2 (by omega) (by omega)
  Tf2 := out2 (by omega) (by omega)
  sep1_2 := out2 (by omega) (by omega)
  sep2_1 := out2 (by omega) (by omega)
def iMix (K : PySem.W.Frag) (ta : TA) : TI := fun σ H R => ta σ H fun vs H1 => ∃ a b l t, vs = [.ref a, .ref b] ∧ SqL K H1 a l ∧ SqT K H1 b t ∧ R (ItzM K a b) H1
theorem pi_mix {X : Cx} {e e2 : Expr} {ta : TA} {p pos tpos : Pos} {elts : List Expr} {kk : Nat} (hg : Gl X "zip") (hm : X.mg "zip" = none) (ha : PA X [e, e2] ta)
    (st : starEach [e, e2] X.env = (false, eval e X.env) :: starEach [e2] X.env := by rfl) (pl : (backTo pos (starEach [e2] X.env)).any (·.1) = false := by rfl) :
    PI X (.Tuple elts kk tpos) (.Call (.Name "zip" p) [e, e2] [] pos) (iMix X.K ta) := by
  constructor
  intro pins s σ H R I h
  refine Call_ (ld_blt I hg hm PyProof.Rows.boot_zip (PyProof.Rows.callWith_type1 (thn (ha.run pos pins s σ H _ I h) ?_) st pl))
  rintro us s1 ⟨vs, H1, I1, r1, a, b, l, t, rfl, ql, qt, q⟩
  cases r1 with
  | cons ra rr =>
    cases rr with
    | cons rb rr =>
      cases rr
      cases ra
      cases rb
      obtain ⟨il, rl, pl', _⟩ := I1.list ql
      obtain ⟨it, rt, pt, _⟩ := I1.tuple qt
      have la : a < s1.heap.objs.size := pl'.lt
      have lb : b < s1.heap.objs.size := by
        obtain ⟨o, z, _⟩ := id pt
        exact Heap.lt_size z
      refine zip_begins2 (begins_list a il.toArray) (begins_tuple b it.toArray) pl'.isList pt fun h' hz hI hO gj gk hs keep => wpAny_pyIter_zip hz ?_
      have J : Inv X pins σ H1 { s1 with heap := h' } := I1.kept (t' := s1.toks) keep
      refine ⟨s1.heap.objs.size + 4, [s1.heap.objs.size + 4, s1.heap.objs.size + 2, s1.heap.objs.size + 3, s1.heap.objs.size, s1.heap.objs.size + 1], _, _, H1, rfl, J, turn_mix (apart s1.heap.objs.size a b la lb) (Nat.ne_of_lt la) (Nat.ne_of_lt (Nat.lt_succ_of_lt lb)), ⟨hz, hI, ⟨_, _, hO⟩, ⟨_, gj, rfl, rfl⟩, ⟨_, gk, rfl, rfl⟩⟩, fun c hcm => ?_, q⟩
      have up : s1.heap.objs.size ≤ c := by
        rcases five hcm with rfl | rfl | rfl | rfl | rfl
        · exact Nat.le_add_right _ 4
        · exact Nat.le_add_right _ 2
        · exact Nat.le_add_right _ 3
        · exact Nat.le_refl _
        · exact Nat.le_add_right _ 1
      exact I1.fpOk up (I1.hok.fresh up)
end MxZ


set_option Elab.async false
set_option linter.all false
set_option maxRecDepth 100000
set_option maxHeartbeats 1000000
namespace Rs
open PySem PySem.Spec PyProof.Rows L2 Bs Fq LamX RZ
abbrev sPTimed : Stmt := top 15
def spPTimed (K : PySem.W.Frag) : Sp := fun vs H Q _ => ∃ (x y : V) (qs rs : List F) (D1 D2 : Int) (n m : Nat), vs = [x, y] ∧ Po K H x qs ∧ Po K H y rs ∧ Ca D1 n qs ∧ Ca D2 m rs ∧ Bd D1 n ∧ Bd D2 m ∧ Bd (D1 * D2) (n + m + 170) ∧ qs.length ≤ 12 ∧ rs.length ≤ 12 ∧
  ∀ H' p, Same H H' → Po K H' (.ref p) (trim (prodN (qs.length + rs.length) qs rs)) → Q (.ref p) H'
abbrev sPaired : Stmt := top 9
abbrev sRowSum : Stmt := top 17
abbrev sSquare : Stmt := top 18
def spPaired (K : PySem.W.Frag) : Sp := fun vs H Q _ => ∃ (x y : V) (qs rs : List F) (D1 D2 : Int) (n m : Nat), vs = [x, y] ∧ Po K H x qs ∧ Po K H y rs ∧ Ca D1 n qs ∧ Ca D2 m rs ∧ Bd D1 n ∧ Bd D2 m ∧ Bd (D1 * D2) (n + m + 30) ∧ qs.length ≤ 24 ∧ ∀ H' u, Same H H' → Fr K H' u (sumBy qs rs) → Q u H'
def spRowSum (K : PySem.W.Frag) : Sp := fun vs H Q _ => ∃ (x y : V) (qs rs : List F) (s : Nat) (D1 D2 : Int) (n m : Nat), vs = [x, y, .int s] ∧ Po K H x rs ∧ Po K H y qs ∧ Ca D1 n qs ∧ Ca D2 m rs ∧ Bd D1 n ∧ Bd D2 m ∧ Bd (D1 * D2) (n + m + 30) ∧ qs.length ≤ 24 ∧ ∀ H' u, Same H H' → Fr K H' u (sumBy qs (rs.drop s)) → Q u H'
def spSquare (K : PySem.W.Frag) : Sp := fun vs H Q _ => ∃ (x y : V) (qs rs : List F) (s : Nat) (D1 D2 : Int) (n m : Nat), vs = [x, y, .int s] ∧ Po K H x rs ∧ Po K H y qs ∧ Ca D1 n qs ∧ Ca D2 m rs ∧ Bd D1 n ∧ Bd D2 m ∧ Bd (D1 * D1) (n + n + 170) ∧ Bd (D1 * D1 * D2) (n + n + 150 + m + 30) ∧ qs.length ≤ 12 ∧
  ∀ H' u, Same H H' → Fr K H' u (sumBy (trim (prodN (qs.length + qs.length) qs qs)) (rs.drop s)) → Q u H'
theorem walk_zipT {K : PySem.W.Frag} {a b : Addr} {xs ys : List V} {n : Nat} (hn : n = min xs.length ys.length) : Walk (ItzT K a b) n (fun H => SqT K H a xs ∧ SqT K H b ys) (YPair (fun i => xs[i]?) (fun i => ys[i]?)) := by
  rw [hn]
  refine ⟨fun i _ hi q => ?_, fun _ q => ⟨xs, ys, q.1, q.2, by omega⟩, fun i H v H' _ q y => ?_⟩
  · have h1 : i < xs.length := by omega
    have h2 : i < ys.length := by omega
    exact ⟨xs, ys, xs[i], ys[i], q.1, q.2, List.getElem?_eq_getElem h1, List.getElem?_eq_getElem h2⟩
  · obtain ⟨T, x, z, e1, e2, e3, e4, e5⟩ := y
    exact ⟨T, x, z, e1, e2, e3, e4 xs q.1, e5 ys q.2⟩
/-! ### ladders in memory -/
theorem zw_get {qs rs : List F} {i : Nat} {q r : F} (h1 : qs[i]? = some q) (h2 : rs[i]? = some r) : (List.zipWith mul qs rs)[i]? = some (mul q r) := by
  rw [List.getElem?_zipWith, h1, h2]
theorem part_sum {D1 D2 : Int} {n m : Nat} {qs rs : List F} (hq : Ca D1 n qs) (hr : Ca D2 m rs) (i : Nat) : Cb (D1 * D2) (n + m + i) (sumF (0, 1) ((List.zipWith mul qs rs).take i)) := by
  have h := (sumBy_valC (a := qs.take i) (b := rs.take i) (fun q h => hq q (List.mem_of_mem_take h)) (fun q h => hr q (List.mem_of_mem_take h))).1
  rw [List.take_zipWith]
  refine h.mono ?_
  rw [List.length_take, List.length_take]
  omega
theorem ca_trim {D : Int} {n : Nat} {l : List F} (h : Ca D n l) : Ca D n (trim l) := fun q hq => h q (trim_mem hq)
theorem FrAll.drop {K : PySem.W.Frag} {H : Hp} : ∀ {vs : List V} {qs : List F} (n : Nat), FrAll K H vs qs → FrAll K H (vs.drop n) (qs.drop n)
  | _, _, 0, h => h
  | _, _, n + 1, .nil => .nil
  | _, _, n + 1, .cons _ b => FrAll.drop n b
section
variable {P : Program} {w : World} {K : PySem.W.Frag} {mg : Str → Option Value} {base : Heap} {f : Addr} {fd : FuncData}
theorem scPTimed : FnScope ["one", "other", "whole", "i", "part", "j", "piece"] ["one", "other"] (defScope sPTimed) := ⟨rfl, rfl, rfl, by decide +kernel, rfl, by decide +kernel, by decide +kernel⟩
theorem ok_ptimed (F : Fun K "poly_timed" "poly_timed" sPTimed f fd) (T : Blt mg) (en : mg "enumerate" = none) (Z : Nou K mg) (Ad : Cal P w K mg base 2 "added" (spOp K add dom2)) (Ti : Cal P w K mg base 2 "timed" (spOp K mul dom2)) (Tr : Cal P w K mg base 1 "trimmed" (spTrim K)) :
    FnOk P w K mg base CX0 3 f fd ["one", "other"] (spPTimed K) := by
  refine F.ok scPTimed (fun vs H Q E h => ?_) (fun cdv A outer s H vs Q E hr h => ?_)
  · obtain ⟨x, y, qs, rs, _, _, _, _, rfl, _⟩ := h
    rfl
  · obtain ⟨x, y, qs, rs, D1, D2, za, zb, rfl, ⟨a, xs, rfl, sx, fx⟩, ⟨b, ys, rfl, sy, fy⟩, hq, hrs, bd1, bd2, hab, lq, lr, kk⟩ := h
    obtain ⟨z, mz, sz⟩ := Z.ex
    refine ⟨_, pss_cons (ps_set (i := 2) scPTimed.nd rfl (Or.inl rfl) (pe_op op_rep (pe_lst (pa_cons (pe_glob (v := .ref z) (by rfl) mz rfl) pa_nil)) (pe_op op_add (pe_callB call_len_seq (by rfl) T.len (by decide +kernel) (pa_cons (pv 0) pa_nil)) (pe_callB call_len_seq (by rfl) T.len (by decide +kernel) (pa_cons (pv 1) pa_nil)))))
      (pss_cons (ps_for PassesOwn.never rfl (EnT.pi_enumT (by rfl) en (pa_cons (pv 0) pa_nil)) (pg_tup rfl (pgs_cons (pg_name (i := 3) scPTimed.nd rfl (.inl rfl)) (pgs_cons (pg_name (i := 4) scPTimed.nd rfl (.inl rfl)) pgs_nil)))
        (pss_one (ps_for PassesOwn.never rfl (EnT.pi_enumT (by rfl) en (pa_cons (pv 1) pa_nil)) (pg_tup rfl (pgs_cons (pg_name (i := 5) scPTimed.nd rfl (.inl rfl)) (pgs_cons (pg_name (i := 6) scPTimed.nd rfl (.inl rfl)) pgs_nil)))
          (pss_one (ps_asg (pe_n Ad hr (by decide) (by rfl) (pa_cons (pe_ix ix_list (pv 2) (pe_op op_add (pv 3) (pv 5)) (fun _ _ => rfl)) (pa_cons (pe_n Ti hr (by decide) (by rfl) (pa_cons (pv 4) (pa_cons (pv 6) pa_nil))) pa_nil))) (pg_sub (pv 2) (pe_op op_add (pv 3) (pv 5)) set_list))))))
      (pss_one (ps_ret (pe_n Tr hr (by decide) (by rfl) (pa_cons (pv 2) pa_nil))))), ?_⟩
    have lx := fx.len
    have ly := fy.len
    refine ⟨(by show 1 ≤ sizeLine; decide), fun p0 hp0 => ?_⟩
    have s0 : Same H (upd H p0 (.lst [V.ref z])) := same_new hp0
    refine ⟨_, rfl, a, xs, rfl, Or.inr (Bs.Same.t s0 sx), _, rfl, b, ys, rfl, Or.inr (Bs.Same.t s0 sy), _, _, rfl, rfl, ?_⟩
    have hn : ((([V.ref z] : List V).length) * ((xs.length : Int) + (ys.length : Int)).toNat) ≤ sizeLine := by
      rw [List.length_singleton, Nat.one_mul]
      exact Nat.le_of_lt (small1000 (by omega))
    refine ⟨p0, _, _, rfl, rfl, upd_same, by omega, by omega, hn, fun W hW => ?_⟩
    have eW : (List.replicate ((xs.length : Int) + (ys.length : Int)).toNat [V.ref z]).flatten = List.replicate (qs.length + rs.length) (V.ref z) := by
      rw [List.flatten_replicate_singleton]
      congr 1
      omega
    rw [eW]
    have s1 : Same H (upd (upd H p0 (.lst [V.ref z])) W (.lst (List.replicate (qs.length + rs.length) (V.ref z)))) := s0.trans (same_new hW)
    have wn : H W = none := s0.free hW
    generalize eH : upd (upd H p0 (.lst [V.ref z])) W (.lst (List.replicate (qs.length + rs.length) (V.ref z))) = H1 at s1
    have hW1 : H1 W = some (.lst (List.replicate (qs.length + rs.length) (V.ref z))) := by rw [← eH]; exact upd_same
    clear hn hW eW eH
    -- what holds of the list
    let St : List Fq.F → Hp → Prop := fun ws H2 => Same H H2 ∧ ∃ vs, H2 W = some (.lst vs) ∧ FrAll K H2 vs ws
    refine ⟨_, rfl, a, xs, rfl, Bs.Same.t s1 sx, ?_⟩
    refine for_it walk_enumT (fun i σ H2 => St (stepI (List.replicate (qs.length + rs.length) (0, 1)) qs rs i) H2 ∧ ∃ v3 v4 v5 v6, σ = [some (V.ref a), some (V.ref b), some (V.ref W), v3, v4, v5, v6])
      ⟨⟨s1, _, hW1, FrAll.rep ⟨z, rfl, sz _⟩ _⟩, none, none, none, none, rfl⟩ (fun i σ H2 _ p => Bs.Same.t p.1.1 sx) ?_ ?_
    · rintro i x σ H2 H3 hi ⟨⟨s2, vs, hv, fv⟩, v3, v4, v5, v6, rfl⟩ ⟨T, x', y', rfl, hT, rfl, h1, h2⟩
      cases h1
      have s3 := same_new (o := .tup [.int (i : Nat), y']) hT
      obtain ⟨y'', q, g1, g2, g3⟩ := fx.get (i := i) (by omega)
      have h2' : xs[i]? = some y' := h2
      rw [g1] at h2'
      cases h2'
      have eq_ : co qs i = q := co_get g2
      refine ⟨T, _, rfl, SqT.of upd_same, rfl, _, _, rfl, _, _, rfl, rfl, ?_⟩
      refine ⟨_, rfl, b, ys, rfl, Bs.Same.t (s2.trans s3) sy, ?_⟩
      refine for_it walk_enumT (fun j σ H2 => St (stepJ (stepI (List.replicate (qs.length + rs.length) (0, 1)) qs rs i) i (co qs i) rs j) H2 ∧ ∃ v5 v6, σ = [some (V.ref a), some (V.ref b), some (V.ref W), some (V.int i), some y', v5, v6])
        ⟨⟨s2.trans s3, vs, s3 _ _ hv, fv.mono s3⟩, v5, v6, rfl⟩ (fun i σ H2 _ p => Bs.Same.t p.1.1 sy) ?_ ?_
      · rintro j x σ H4 H5 hj ⟨⟨s4, us, hu, fu⟩, v5, v6, rfl⟩ ⟨T2, x2, y2, rfl, hT2, rfl, h3, h4⟩
        cases h3
        have s5 := same_new (o := .tup [.int (j : Nat), y2]) hT2
        obtain ⟨y3, r, g4, g5, g6⟩ := fy.get (i := j) (by omega)
        have h4' : ys[j]? = some y2 := h4
        rw [g4] at h4'
        cases h4'
        have er_ : co rs j = r := co_get g5
        refine ⟨T2, _, rfl, SqT.of upd_same, rfl, _, _, rfl, _, _, rfl, rfl, ?_⟩
        have lw : (stepJ (stepI (List.replicate (qs.length + rs.length) (0, 1)) qs rs i) i (co qs i) rs j).length = qs.length + rs.length := by
          rw [stepJ_len, stepI_len, List.length_replicate]
        have zr : Ca (D1 * D2) (za + zb) (List.replicate (qs.length + rs.length) ((0, 1) : Fq.F)) := fun q hq => by
          rw [(List.mem_replicate.mp hq).2]
          exact Cb.zero
        have pb := (stepJ_wtC (i := i) (stepI_wtC zr hq hrs (Nat.le_refl _) (fun _ => 0) i (by rw [List.length_replicate]; omega)).1 (hq.co i) hrs (by omega) (fun _ => 0) j (by rw [stepI_len, List.length_replicate]; omega)).1
        have hk : za + zb + i * rs.length + j ≤ za + zb + 170 := by
          have : i * rs.length ≤ 11 * 12 := Nat.mul_le_mul (by omega) lr
          omega
        have ss := s4.trans s5
        have eij : (i : Int) + (j : Int) = ((i + j : Nat) : Int) := by omega
        obtain ⟨u, p, k1, k2, k3⟩ := fu.get (i := i + j) (by rw [lw]; omega)
        have eu := co_get k2
        have pm : Cb (D1 * D2) (za + zb + i * rs.length + j) p := pb p (List.mem_of_getElem? k2)
        have hus : us.length = qs.length + rs.length := by rw [fu.len, lw]
        have ha : atI us ((i : Int) + (j : Int)) = some u := by
          rw [eij]
          exact atI_nat k1
        have hix : ixN us.length ((i : Int) + (j : Int)) = some (i + j) := by
          rw [eij]
          unfold ixN
          rw [if_pos (by omega), if_pos (by omega), Int.toNat_natCast]
        have sq : Cb D1 za q := by rw [← eq_]; exact hq.co i
        have sr : Cb D2 zb r := by rw [← er_]; exact hrs.co j
        refine ⟨_, rfl, _, rfl, _, rfl, _, _, rfl, rfl, W, us, _, u, rfl, rfl, SqL.of (s5 _ _ hu), ha, _, rfl, _, rfl, y', y2, q, r, rfl, g3.mono ss, g6.mono ss, ⟨cb_dm sq bd1, cb_dm sr bd2⟩, fun c1 hc1 => ?_⟩
        have s6 := same_new (o := fr (mul q r)) hc1
        refine ⟨u, .ref c1, p, mul q r, rfl, (k3.mono s5).mono s6, Fr.of upd_same, ⟨cb_dm (pm.mono hk) hab, cb_dm (sq.mul sr) (hab.mono (by omega))⟩, fun c2 hc2 => ?_⟩
        have s7 := same_new (o := fr (add p (mul q r))) hc2
        have hu7 := s7 _ _ (s6 _ _ (s5 _ _ hu))
        refine ⟨_, rfl, _, rfl, _, rfl, _, _, rfl, rfl, W, us, _, i + j, rfl, rfl, hu7, hix, ?_⟩
        refine ⟨⟨fun c o e => (upd_ne (ne_of_none e wn)).trans (s7 c o (s6 c o (s5 c o (s4 c o e)))), _, upd_same, ?_⟩, _, _, rfl⟩
        show FrAll K _ _ (List.set _ _ _)
        rw [eu, er_, eq_]
        rw [eq_] at fu
        exact FrAll.set _ (FrAll.off hu7 (((fu.mono s5).mono s6).mono s7)) ((Fr.of upd_same).off hu7)
      · rintro σ H4 ⟨w4, v5, v6, rfl⟩
        rw [ly] at w4
        exact ⟨w4, _, _, _, _, rfl⟩
    · rintro σ H2 ⟨⟨s2, vs, hv, fv⟩, v3, v4, v5, v6, rfl⟩
      have l : vs.length ≤ 1000 := by
        rw [fv.len, stepI_len, List.length_replicate]
        omega
      refine ⟨_, rfl, W, vs, _, rfl, Or.inl (SqL.of hv), fv, l, fun H' p zs s3 st ft => kk H' p (s2.trans s3) ⟨p, zs, rfl, st, ?_⟩⟩
      rw [lx] at ft
      exact ft
theorem scPaired : FnScope ["some", "others", "whole", "one", "other"] ["some", "others"] (defScope sPaired) := ⟨rfl, rfl, rfl, by decide +kernel, rfl, by decide +kernel, by decide +kernel⟩
theorem ok_paired (F : Fun K "paired_sum" "paired_sum" sPaired f fd) (Z : Nou K mg) (zp : mg "zip" = none) (Ad : Cal P w K mg base 2 "added" (spOp K add dom2)) (Ti : Cal P w K mg base 2 "timed" (spOp K mul dom2)) : FnOk P w K mg base CX0 3 f fd ["some", "others"] (spPaired K) := by
  refine F.ok scPaired (fun vs H Q E h => ?_) (fun cdv A outer s H vs Q E hr h => ?_)
  · obtain ⟨x, y, qs, rs, _, _, _, _, rfl, _⟩ := h
    rfl
  · obtain ⟨x, y, qs, rs, D1, D2, na, nb, rfl, ⟨a, xs, rfl, sx, fx⟩, ⟨b, ys, rfl, sy, fy⟩, hq, hrs, bd1, bd2, bd3, lq, kk⟩ := h
    obtain ⟨z, mz, sz⟩ := Z.ex
    have lx := fx.len
    have ly := fy.len
    refine ⟨_, pss_cons (ps_set (i := 2) scPaired.nd rfl (Or.inl rfl) (pe_glob (v := .ref z) (by rfl) mz rfl))
      (pss_cons (ps_for PassesOwn.never rfl (pi_zipA (by rfl) zp (pa_cons (pv 0) (pa_cons (pv 1) pa_nil))) (pg_tup rfl (pgs_cons (pg_name (i := 3) scPaired.nd rfl (.inl rfl)) (pgs_cons (pg_name (i := 4) scPaired.nd rfl (.inl rfl)) pgs_nil)))
        (pss_one (ps_set (i := 2) scPaired.nd rfl (Or.inl rfl) (pe_n Ad hr (by decide) (by rfl) (pa_cons (pv 2) (pa_cons (pe_n Ti hr (by decide) (by rfl) (pa_cons (pv 3) (pa_cons (pv 4) pa_nil))) pa_nil))))))
      (pss_one (ps_ret (pv 2)))), ?_⟩
    refine ⟨_, rfl, _, rfl, a, b, xs, ys, rfl, Or.inr ⟨sx, sy, ?_⟩⟩
    refine for_it (walk_zipT (xs := xs) (ys := ys) (n := min xs.length ys.length) rfl) (fun i σ H1 => Same H H1 ∧ ∃ u v3 v4, Fr K H1 u (sumF (0, 1) ((List.zipWith mul qs rs).take i)) ∧ σ = [some (V.ref a), some (V.ref b), some u, v3, v4])
      ⟨fun _ _ z => z, .ref z, none, none, ⟨z, rfl, sz H⟩, rfl⟩ (fun i σ H1 _ p => ⟨Bs.Same.t p.1 sx, Bs.Same.t p.1 sy⟩) ?_ ?_
    · rintro i x σ H1 H2 hi ⟨s1, u, v3, v4, fu, rfl⟩ ⟨T, x', y', rfl, hT, rfl, h1, h2⟩
      have h1' : xs[i]? = some x' := h1
      have h2' : ys[i]? = some y' := h2
      have s2 := same_new (o := .tup [x', y']) hT
      have s12 := s1.trans s2
      obtain ⟨x1, q, e1, e2, fq⟩ := fx.get (i := i) (by omega)
      obtain ⟨y1, r, e3, e4, fr_⟩ := fy.get (i := i) (by omega)
      rw [h1'] at e1
      cases e1
      rw [h2'] at e3
      cases e3
      have et := zw_get e2 e4
      have sdb := part_sum hq hrs i
      have c1 := hq q (List.mem_of_getElem? e2)
      have c2 := hrs r (List.mem_of_getElem? e4)
      refine ⟨T, _, rfl, SqT.of upd_same, rfl, _, _, rfl, _, _, rfl, rfl, ?_⟩
      refine ⟨_, rfl, _, rfl, _, rfl, x', y', q, r, rfl, fq.mono s12, fr_.mono s12, ⟨cb_dm c1 bd1, cb_dm c2 bd2⟩, fun p1 hp1 => ?_⟩
      have s3 := same_new (o := fr (mul q r)) hp1
      refine ⟨u, .ref p1, _, mul q r, rfl, (fu.mono s2).mono s3, Fr.of upd_same, ⟨cb_dm (sdb.mono (m := na + nb + 30) (by omega)) bd3, cb_dm (c1.mul c2) (bd3.mono (by omega))⟩, fun p2 hp2 => ?_⟩
      have s4 := same_new (o := fr (add (sumF (0, 1) ((List.zipWith mul qs rs).take i)) (mul q r))) hp2
      refine ⟨(s12.trans s3).trans s4, .ref p2, some x', some y', ?_, rfl⟩
      rw [take_one et, sumF_snoc]
      exact Fr.of upd_same
    · rintro σ H1 ⟨s1, u, v3, v4, fu, rfl⟩
      rw [List.take_of_length_le (by rw [List.length_zipWith, lx, ly]; exact Nat.le_refl _)] at fu
      exact ⟨_, rfl, kk H1 u s1 fu⟩
theorem scRowSum : FnScope ["row", "poly", "shift"] ["row", "poly", "shift"] (defScope sRowSum) := ⟨rfl, rfl, rfl, by decide +kernel, rfl, by decide +kernel, by decide +kernel⟩
theorem ok_rowsum (F : FunD K "row_sum" "row_sum" (defArgs sRowSum) (defBody sRowSum) (defScope sRowSum) [.int 0] [] f fd) (PS_ : Cal P w K mg base 3 "paired_sum" (spPaired K)) : FnOk P w K mg base CX0 4 f fd ["row", "poly", "shift"] (spRowSum K) := by
  refine F.ok scRowSum (fun vs H Q E h => ?_) (fun cdv A outer s H vs Q E hr h => ?_)
  · obtain ⟨x, y, qs, rs, _, _, _, _, _, rfl, _⟩ := h
    rfl
  · obtain ⟨x, y, qs, rs, sh, D1, D2, na, nb, rfl, px, py, hq, hrs, bd1, bd2, bd3, lq, kk⟩ := h
    obtain ⟨a, xs, rfl, sx, fx⟩ := id px
    have lx := fx.len
    refine ⟨_, pss_one (ps_ret (pe_n PS_ hr (by decide) (by rfl) (pa_cons (pv 1) (pa_cons (pe_slice sl_tupA (pv 0) (po_some (pv 2)) po_none) pa_nil)))), ?_⟩
    refine ⟨_, rfl, _, rfl, _, rfl, (sh : Int), rfl, a, xs, rfl, sx, fun z => ?_, fun z p hp => ?_⟩
    · have e : rs.drop sh = rs := by
        have z1 := z.1
        rw [HT.sIx_nat] at z1
        by_cases c : sh = 0
        · rw [c]
          rfl
        · have : rs = [] := List.eq_nil_of_length_eq_zero (by omega)
          rw [this, List.drop_nil]
      rw [e] at kk
      exact ⟨y, .ref a, qs, rs, D1, D2, na, nb, rfl, py, px, hq, hrs, bd1, bd2, bd3, lq, kk⟩
    · have ec : cutV xs (some (sh : Int)) none = xs.drop sh := by
        simp only [cutV, HT.sIx_nat]
        have : HT.sIx xs.length xs.length none = xs.length := rfl
        rw [this]
        by_cases c : sh ≤ xs.length
        · rw [Nat.min_eq_left c, List.take_of_length_le (by rw [List.length_drop]; omega)]
        · rw [Nat.min_eq_right (by omega), List.drop_of_length_le (Nat.le_refl _), List.drop_of_length_le (by omega), List.take_nil]
      rw [ec]
      have s1 := same_new (o := .tup (xs.drop sh)) hp
      exact ⟨y, .ref p, qs, rs.drop sh, D1, D2, na, nb, rfl, py.mono s1, ⟨p, _, rfl, SqT.of upd_same, (FrAll.drop sh fx).mono s1⟩, hq, fun q h => hrs q (List.mem_of_mem_drop h), bd1, bd2, bd3, lq, fun H' u s2 fu => kk H' u (s1.trans s2) fu⟩
theorem scSquare : FnScope ["row", "poly", "shift"] ["row", "poly", "shift"] (defScope sSquare) := ⟨rfl, rfl, rfl, by decide +kernel, rfl, by decide +kernel, by decide +kernel⟩
theorem ok_square (F : FunD K "square_sum" "square_sum" (defArgs sSquare) (defBody sSquare) (defScope sSquare) [.int 0] [] f fd) (RS : Cal P w K mg base 4 "row_sum" (spRowSum K)) (PT : Cal P w K mg base 3 "poly_timed" (spPTimed K)) : FnOk P w K mg base CX0 5 f fd ["row", "poly", "shift"] (spSquare K) := by
  refine F.ok scSquare (fun vs H Q E h => ?_) (fun cdv A outer s H vs Q E hr h => ?_)
  · obtain ⟨x, y, qs, rs, _, _, _, _, _, rfl, _⟩ := h
    rfl
  · obtain ⟨x, y, qs, rs, sh, D1, D2, na, nb, rfl, px, py, hq, hrs, bd1, bd2, bd3, bd4, lq, kk⟩ := h
    refine ⟨_, pss_one (ps_ret (pe_n RS hr (by decide) (by rfl) (pa_cons (pv 0) (pa_cons (pe_n PT hr (by decide) (by rfl) (pa_cons (pv 1) (pa_cons (pv 1) pa_nil))) (pa_cons (pv 2) pa_nil))))), ?_⟩
    refine ⟨_, rfl, _, rfl, _, rfl, y, y, qs, qs, D1, D1, na, na, rfl, py, py, hq, hq, bd1, bd1, bd3, lq, lq, fun H1 p s1 pp => ?_⟩
    have cp := ca_trim (prodN_wtC (N := qs.length + qs.length) hq hq (by omega) (fun _ => 0)).1
    have l2 : qs.length * qs.length ≤ 12 * 12 := Nat.mul_le_mul lq lq
    have lt := trim_len (prodN (qs.length + qs.length) qs qs)
    rw [prodN_len] at lt
    refine ⟨_, rfl, x, .ref p, _, rs, sh, D1 * D1, D2, na + na + 150, nb, rfl, px.mono s1, pp, cp.mono (by omega), hrs, bd3.mono (by omega), bd2, bd4, by omega, fun H' u s2 fu => kk H' u (s1.trans s2) fu⟩
structure DefD (K : PySem.W.Frag) (mg : Str → Option Value) (x : Str) (st : Stmt) : Prop where
  ex : ∃ (f : Addr) (fd : FuncData), FunD K x x (defArgs st) (defBody st) (defScope st) [.int 0] [] f fd ∧ mg x = some (.ref f)
theorem DefD.both {x : Str} {st : Stmt} {k : Nat} {sp : Sp} (D : DefD K mg x st) (h : ∀ f fd, FunD K x x (defArgs st) (defBody st) (defScope st) [.int 0] [] f fd → FnOk P w K mg base CX0 k f fd ["row", "poly", "shift"] sp)
    (b2 : ∀ (T : Addr) (kV doc pm : Value) (an : Option Addr) (cdv ct : Value) (us its : List Value), us.length = 2 → its.length = ([.int 0] : List V).length → ∃ k, bindArgs (PySem.W.fnOf x x (defArgs st) (defBody st) (defScope st) (.ref T) kV doc pm an cdv ct) ⟨us, []⟩ = seqItems? (.ref T) >>= k ∧ k (some its.toArray) = pure ((["row", "poly", "shift"] : List Str).zip (us ++ its.drop 0)))
    (b3 : ∀ (T : Addr) (kV doc pm : Value) (an : Option Addr) (cdv ct : Value) (us its : List Value), us.length = 3 → its.length = ([.int 0] : List V).length → ∃ k, bindArgs (PySem.W.fnOf x x (defArgs st) (defBody st) (defScope st) (.ref T) kV doc pm an cdv ct) ⟨us, []⟩ = seqItems? (.ref T) >>= k ∧ k (some its.toArray) = pure ((["row", "poly", "shift"] : List Str).zip (us ++ its.drop 1))) :
    C8.Cal P w K mg base k x sp [.int 0] ∧ Cal P w K mg base k x sp := by
  obtain ⟨f, fd, F, m⟩ := D.ex
  obtain ⟨ds, v, b⟩ := F.binds1 (ps := ["row", "poly", "shift"]) 2 0 (by simp) rfl b2
  obtain ⟨ds', v', b'⟩ := F.binds1 (ps := ["row", "poly", "shift"]) 3 1 (by simp) rfl b3
  cases v'
  exact ⟨⟨f, fd, _, ds, h f fd F, m, F.kp, b, v⟩, ⟨f, fd, _, h f fd F, m, F.kp, b'⟩⟩
theorem DefD.rows (D : DefD K mg "row_sum" sRowSum) (PS_ : Cal P w K mg base 3 "paired_sum" (spPaired K)) : C8.Cal P w K mg base 4 "row_sum" (spRowSum K) [.int 0] ∧ Cal P w K mg base 4 "row_sum" (spRowSum K) :=
  D.both (fun f fd F => ok_rowsum F PS_) (fun T kV doc pm an cdv ct us its h1 h2 => match us, its, h1, h2 with | [_, _], [_], _, _ => ⟨_, rfl, rfl⟩) (fun T kV doc pm an cdv ct us its h1 h2 => match us, its, h1, h2 with | [_, _, _], [_], _, _ => ⟨_, rfl, rfl⟩)
theorem DefD.squares (D : DefD K mg "square_sum" sSquare) (RS : Cal P w K mg base 4 "row_sum" (spRowSum K)) (PT : Cal P w K mg base 3 "poly_timed" (spPTimed K)) : C8.Cal P w K mg base 5 "square_sum" (spSquare K) [.int 0] ∧ Cal P w K mg base 5 "square_sum" (spSquare K) :=
  D.both (fun f fd F => ok_square F RS PT) (fun T kV doc pm an cdv ct us its h1 h2 => match us, its, h1, h2 with | [_, _], [_], _, _ => ⟨_, rfl, rfl⟩) (fun T kV doc pm an cdv ct us its h1 h2 => match us, its, h1, h2 with | [_, _, _], [_], _, _ => ⟨_, rfl, rfl⟩)
end
end Rs


set_option Elab.async false
set_option linter.all false
set_option maxRecDepth 100000
set_option maxHeartbeats 4000000
/-! t * 1, t a tuple that is not empty: t itself -/
namespace RpO
open PySem PySem.Spec PyProof.Rows L2
theorem once (t : Addr) (vs : Array Value) (n : Nat) (dct : Option Addr) (sls : Array (Option Value)) (tk : Tok) :
    Meets (Builtin.«tuple.__mul__» ⟨[.ref t, .int 1 tk], []⟩) (fun _ R s => s.heap.get? t = some { cls := .type "tuple", dict := dct, data := .seq vs n, slots := sls } ∧ R (.ok (.ret (Value.ref t))) s) :=
  .of_wp fun pr wd Ar Re st hh => by
    obtain ⟨q1, q2, q3, q4, q5⟩ := st
    obtain ⟨hl, hr⟩ := hh
    (wp_walk using wpAny_loadPart' hl)
    repeat (first
      | (refine wpAny_ite_false (by decide) ?_; wp_walk using wpAny_loadPart' hl)
      | (refine wpAny_ite_true (by simp) ?_; wp_walk using wpAny_loadPart' hl))
    all_goals first | exact ⟨_, rfl, hr⟩ | skip
def rOnce (K : PySem.W.Frag) : R2 := fun x y H Q => ∃ t xs, x = .ref t ∧ y = .int 1 ∧ SqT K H t xs ∧ Q (.ref t) H
theorem op_once {X : Cx} : OpR X (binaryOp .Mult) (rOnce X.K) := by
  intro pins s σ H x y v u Q I rx ry h
  obtain ⟨t, xs, rfl, rfl, hT, q⟩ := h
  cases rx
  obtain ⟨tk, rfl⟩ := ry
  obtain ⟨its, r, ⟨⟨cls, dct, data, sls⟩, ho, hc, n, hd⟩, hs⟩ := I.tuple hT
  simp only at hc hd
  subst hc hd
  exact wpAny_binaryOp_repeat_ref (T := "tuple") (U := "int") (by decide) ⟨_, ho, rfl⟩ (fun s' => typeIs_int s' 1 tk) noFill_tuple_mul F.fills_int_mul F.slot_int_rmul repeat_tuple F.slot_int_index.lookup
    (call_meets F.slot_int_rmul (typeIs_int s 1 tk) F.entry_int_rmul (F.args_int_rmul_2 _ _) (int_rmul_tuple 1 tk t its.toArray n dct sls)
      ⟨ho, rfl, ⟨_, ho, rfl⟩, call_meets F.slot_tuple_mul ⟨_, ho, rfl⟩ F.entry_tuple_mul (F.args_tuple_mul_2 _ _) (once t its.toArray n dct sls tk) ⟨ho, .ref t, H, I, rfl, q⟩⟩)
end RpO


set_option Elab.async false
set_option linter.all false
set_option maxRecDepth 100000
set_option maxHeartbeats 400000
namespace Rs
open PySem L2 Bs Fq LamX
theorem cat_any {K : PySem.W.Frag} {H : Hp} {Q : VK} {a b : Addr} {xs ys : List V} (ha : SqT K H a xs) (hb : SqT K H b ys) (sz : xs.length + ys.length ≤ sizeLine) (k : ∀ c H', Same H H' → SqT K H' c (xs ++ ys) → Q (.ref c) H') : rCatA K (.ref a) (.ref b) H Q := by
  refine ⟨a, b, xs, ys, rfl, rfl, ha, hb, sz, fun e => ?_, fun _ e => ?_, fun _ _ p hp => k p _ (same_new hp) (SqT.of upd_same)⟩
  · subst e
    exact k b H (fun _ _ z => z) hb
  · subst e
    refine k a H (fun _ _ z => z) ?_
    rw [List.append_nil]
    exact ha
abbrev sScaled : Stmt := top 13
abbrev sShifted : Stmt := top 14
abbrev sNext : Stmt := top 16
def spScaled (K : PySem.W.Frag) : Sp := fun vs H Q _ => ∃ (x y : V) (qs : List F) (r : F), vs = [x, y] ∧ Po K H x qs ∧ Fr K H y r ∧ (∀ q ∈ qs, Dm q) ∧ Dm r ∧ qs.length ≤ 500 ∧
  ∀ H' p, Same H H' → Po K H' (.ref p) (scP qs r) → Q (.ref p) H'
def spShifted (K : PySem.W.Frag) : Sp := fun vs H Q _ => ∃ (x : V) (qs : List F), vs = [x, .int 1] ∧ Po K H x qs ∧ qs ≠ [] ∧ qs.length ≤ 500 ∧
  ∀ H' p, Same H H' → Po K H' (.ref p) ((0, 1) :: qs) → Q (.ref p) H'
/-- what the reckoning of a next rung bears -/
structure NxOk (bs hs : List F) (l s : F) : Prop where
  b : ∀ q ∈ bs, Dm q
  h : ∀ q ∈ hs, Dm q
  dl : Dm l
  ds : Dm s
  c : ∀ q ∈ scP hs l, Dm q
  m : ∀ q ∈ plL ((0, 1) :: hs) (scP hs l), Dm q
  e : ∀ q ∈ scP bs s, Dm q
def spNext (K : PySem.W.Frag) : Sp := fun vs H Q _ => ∃ (x y u v : V) (bs hs : List F) (l s : F), vs = [x, y, u, v] ∧ Po K H x bs ∧ Po K H y hs ∧ Fr K H u l ∧ Fr K H v s ∧ NxOk bs hs l s ∧ hs ≠ [] ∧ bs.length ≤ 100 ∧ hs.length ≤ 100 ∧
  ∀ H' p, Same H H' → Po K H' (.ref p) (nxt bs hs l s) → Q (.ref p) H'
theorem dm01 : Dm (0, 1) := ⟨Lt2.mono (m := 1) (by show (0 : Int).natAbs < 2; decide) (by decide), by decide, Lt2.mono (m := 1) (by show (1 : Int).natAbs < 2; decide) (by decide)⟩
theorem plL_len (a b : List F) : (plL a b).length ≤ max a.length b.length := by
  have := trim_len (byPower sub a b (max a.length b.length))
  rw [byPower_len] at this
  exact this
section
variable {P : Program} {w : World} {K : PySem.W.Frag} {mg : Str → Option Value} {base : Heap} {f : Addr} {fd : FuncData}
theorem scScaled : FnScope ["poly", "factor", "part"] ["poly", "factor"] (defScope sScaled) := ⟨rfl, rfl, rfl, by decide +kernel, rfl, by decide +kernel, by decide +kernel⟩
theorem ok_scaled (F : Fun K "poly_scaled" "poly_scaled" sScaled f fd) (T : Blt mg) (C : Cal P w K mg base 2 "timed" (spOp K mul dom2)) (Tr : Cal P w K mg base 1 "trimmed" (spTrim K)) :
    FnOk P w K mg base CX0 3 f fd ["poly", "factor"] (spScaled K) := by
  refine F.ok scScaled (fun vs H Q E h => ?_) (fun cdv A outer s H vs Q E hr h => ?_)
  · obtain ⟨x, y, qs, r, rfl, _⟩ := h
    rfl
  · obtain ⟨x, y, qs, r, rfl, ⟨a, xs, rfl, sx, fx⟩, hy, dq, dr, lq, kk⟩ := h
    refine ⟨_, pss_one (ps_ret (pe_n Tr hr (by decide) (by rfl) (pa_cons (pe_lc (own := [("part", 2)]) (g := gName 2) (tt := tYes) rfl scScaled.nd (pi_tup (pv 0)) (blkOk_by (N := ["poly", "factor", "part"]) (sc := defScope sScaled) (by decide +kernel))
          (fun _ _ _ _ _ => pg_name (i := 2) scScaled.nd rfl (Or.inl rfl)) (fun _ _ _ _ _ => pts_nil)
          (fun _ _ _ _ _ => pe_n C hr (by decide) (by rfl) (pa_cons (pv 2) (pa_cons (pv 1) pa_nil)))) pa_nil))), ?_⟩
    have lx := fx.len
    refine ⟨_, rfl, a, rfl, ⟨_, sx⟩, fun D hD => lc_tup (K := K) (a := a) (xs := xs) (fun i H2 => ∃ acc, H2 D = some (.lst acc) ∧ FrAll K H2 acc ((qs.map fun q => mul q r).take i) ∧ Same H H2) ⟨[], upd_same, .nil, same_new hD⟩ (fun i H2 _ z => Bs.Same.t z.choose_spec.2.2 sx) ?_ ?_⟩
    · rintro i v H2 hx ⟨acc, hD2, fa, s2⟩
      have hi : i < qs.length := by
        have := (List.getElem?_eq_some_iff.mp hx).1
        omega
      obtain ⟨v', q, g1, g2, g3⟩ := fx.get hi
      rw [hx] at g1
      cases g1
      refine ⟨rfl, ?_⟩
      refine iteT (B := ∃ acc, H2 D = some (.lst acc) ∧ FrAll K H2 acc ((qs.map fun q => mul q r).take (i + 1)) ∧ Same H H2) ?_
      refine ⟨_, rfl, _, rfl, v, y, q, r, rfl, g3.mono s2, hy.mono s2, ⟨dq q (List.mem_of_getElem? g2), dr⟩, fun p hp => ?_⟩
      have s3 := same_new (o := fr (mul q r)) hp
      refine ⟨acc, s3 _ _ hD2, small1000 (by rw [fa.len, List.length_take, List.length_map]; omega), acc ++ [.ref p], upd_same, ?_, fun c o e => (upd_ne (ne_of_none e hD)).trans (s3 c o (s2 c o e))⟩
      have e : (qs.map fun q => mul q r)[i]? = some (mul q r) := by rw [List.getElem?_map, g2]; rfl
      rw [take_one e]
      exact (FrAll.off (s3 _ _ hD2) (fa.mono s3)).snoc ((Fr.of upd_same).off (s3 _ _ hD2))
    · rintro H2 ⟨acc, hD2, fa, s2⟩
      rw [lx, List.take_of_length_le (by rw [List.length_map]; exact Nat.le_refl _)] at fa
      have la := fa.len
      rw [List.length_map] at la
      exact ⟨D, acc, _, rfl, Or.inl (SqL.of hD2), fa, by omega, fun H' p zs s3 st ft => kk H' p (s2.trans s3) ⟨p, zs, rfl, st, ft⟩⟩
theorem scShifted : FnScope ["poly", "number"] ["poly", "number"] (defScope sShifted) := ⟨rfl, rfl, rfl, by decide +kernel, rfl, by decide +kernel, by decide +kernel⟩
theorem ok_shifted (F : Fun K "poly_shifted" "poly_shifted" sShifted f fd) (Z : Nou K mg) : FnOk P w K mg base CX0 1 f fd ["poly", "number"] (spShifted K) := by
  refine F.ok scShifted (fun vs H Q E h => ?_) (fun cdv A outer s H vs Q E hr h => ?_)
  · obtain ⟨x, qs, rfl, _⟩ := h
    rfl
  · obtain ⟨x, qs, rfl, ⟨a, xs, rfl, sx, fx⟩, nq, lq, kk⟩ := h
    obtain ⟨z, mz, sz⟩ := Z.ex
    have lx := fx.len
    refine ⟨_, pss_one (ps_ret (pe_ifExp (pt_truth (pv 0) (by intro _; rfl)) (pe_op op_catA (pe_op RpO.op_once (pe_tup (pa_cons (pe_glob (v := .ref z) (by rfl) mz rfl) pa_nil)) (pv 1)) (pv 0)) (pe_tup pa_nil))), ?_⟩
    refine ⟨_, rfl, ?_⟩
    have lp : xs ≠ [] := fun z => nq (List.eq_nil_of_length_eq_zero (by rw [← lx, z]; rfl))
    refine ⟨true, ?_, iteT ?_⟩
    · refine .inr (.inl ⟨xs, sx, ?_⟩)
      cases xs with
      | nil => exact absurd rfl lp
      | cons _ _ => rfl
    · refine ⟨(by show 1 ≤ sizeLine; decide), fun p hp => ?_⟩
      have s1 := same_new (o := .tup [V.ref z]) hp
      refine ⟨_, rfl, p, [.ref z], rfl, rfl, SqT.of upd_same, _, rfl, ?_⟩
      refine cat_any (SqT.of upd_same) (Bs.Same.t s1 sx) (by rw [List.length_singleton]; exact Nat.le_of_lt (small1000 (by omega))) fun c H' s2 st => ?_
      exact kk H' c (s1.trans s2) ⟨c, _, rfl, st, .cons ⟨z, rfl, sz H'⟩ (fx.mono (s1.trans s2))⟩
theorem scNext : FnScope ["before", "here", "level", "step", "more"] ["before", "here", "level", "step"] (defScope sNext) := ⟨rfl, rfl, rfl, by decide +kernel, rfl, by decide +kernel, by decide +kernel⟩
theorem ok_next (F : Fun K "next_rung" "next_rung" sNext f fd) (L : Cal P w K mg base 3 "poly_lessened" (spPoly2 K sub)) (C : Cal P w K mg base 3 "poly_scaled" (spScaled K)) (S : Cal P w K mg base 1 "poly_shifted" (spShifted K)) :
    FnOk P w K mg base CX0 4 f fd ["before", "here", "level", "step"] (spNext K) := by
  refine F.ok scNext (fun vs H Q E h => ?_) (fun cdv A outer s H vs Q E hr h => ?_)
  · obtain ⟨x, y, u, v, bs, hs, l, s, rfl, _⟩ := h
    rfl
  · obtain ⟨x, y, u, v, bs, hs, l, sp, rfl, px, py, pu, pw, N, nh, lb, lh, kk⟩ := h
    refine ⟨_, pss_cons (ps_set (i := 4) scNext.nd rfl (Or.inl rfl) (pe_n L hr (by decide) (by rfl) (pa_cons (pe_n S hr (by decide) (by rfl) (pa_cons (pv 1) (pa_cons pe_int pa_nil))) (pa_cons (pe_n C hr (by decide) (by rfl) (pa_cons (pv 1) (pa_cons (pv 2) pa_nil))) pa_nil))))
      (pss_one (ps_ret (pe_n L hr (by decide) (by rfl) (pa_cons (pv 4) (pa_cons (pe_n C hr (by decide) (by rfl) (pa_cons (pv 0) (pa_cons (pv 3) pa_nil))) pa_nil))))), ?_⟩
    refine ⟨_, rfl, y, hs, rfl, py, nh, by omega, fun H1 p1 s1 k1 => ?_⟩
    refine ⟨_, rfl, _, rfl, y, u, hs, l, rfl, py.mono s1, pu.mono s1, N.h, N.dl, by omega, fun H2 p2 s2 k2 => ?_⟩
    have c3 : (scP hs l).length ≤ hs.length := by
      have := trim_len (hs.map fun q => mul q l)
      rw [List.length_map] at this
      exact this
    have l1 := plL_len ((0, 1) :: hs) (scP hs l)
    rw [List.length_cons] at l1
    refine ⟨_, _, _, _, rfl, k1.mono s2, k2, (fun q hq => by
      rcases List.mem_cons.mp hq with rfl | hq
      · exact dm01
      · exact N.h q hq), N.c, by rw [List.length_cons]; omega, by omega, fun H3 p3 s3 k3 => ?_⟩
    have s13 := (s1.trans s2).trans s3
    refine ⟨_, rfl, _, rfl, _, rfl, x, v, bs, sp, rfl, px.mono s13, pw.mono s13, N.b, N.ds, by omega, fun H4 p4 s4 k4 => ?_⟩
    have d3 : (scP bs sp).length ≤ bs.length := by
      have := trim_len (bs.map fun q => mul q sp)
      rw [List.length_map] at this
      exact this
    have k3' : Po K H3 (.ref p3) (plL ((0, 1) :: hs) (scP hs l)) := k3
    refine ⟨_, _, _, _, rfl, k3'.mono s4, k4, N.m, N.e, by omega, by omega, fun H5 p5 s5 k5 => ?_⟩
    exact kk H5 p5 ((s13.trans s4).trans s5) k5
end
end Rs


set_option Elab.async false
set_option linter.all false
set_option maxRecDepth 100000
set_option maxHeartbeats 1000000
namespace Rs
open PySem L2 Bs Fq LamX
/-! ### ladders as data -/
def top0 : PyData → Bool
  | .tuple (.int a :: _) => decide (0 < a)
  | _ => false
def posD (d : PyData) : Bool := fracD d && top0 d
def shapeD : PyData → PyData → Bool
  | .tuple ls, .tuple ss => if lastNz ss then (decide (ls.length ≤ 4) && ((decide (ls.length = ss.length) || decide (ls.length = ss.length + 1)) && ss.all top0)) else (decide (ls.length = ss.length) && ss.dropLast.all top0)
  | _, _ => false
def ladderD : PyData → Bool
  | .tuple [t, ls, ss] => posD t && (fracsD 5 ls && (fracsD 5 ss && shapeD ls ss))
  | _ => false
def above (qs : List F) : Bool := qs.all fun q => decide (0 < q.1)
theorem above_map : ∀ qs : List F, (qs.map dF).all top0 = above qs
  | [] => rfl
  | q :: qs => by
    show (top0 (dF q) && (qs.map dF).all top0) = (decide (0 < q.1) && above qs)
    rw [above_map qs]
    rfl
theorem ladderD_len {ds : List PyData} (h : ds.length ≠ 3) : ladderD (.tuple ds) = false := by
  unfold ladderD
  split
  · rename_i e
    cases e
    exact absurd rfl h
  · rfl
theorem three_of {K : PySem.W.Frag} {H : Hp} {xs : List V} {ds : List PyData} (h : DpAll K H xs ds) (l : xs.length = 3) : ∃ v1 v2 v3 d1 d2 d3, xs = [v1, v2, v3] ∧ ds = [d1, d2, d3] ∧ Dp K H v1 d1 ∧ Dp K H v2 d2 ∧ Dp K H v3 d3 := by
  cases h with
  | nil => cases l
  | cons h1 t1 =>
    cases t1 with
    | nil => cases l
    | cons h2 t2 =>
      cases t2 with
      | nil => cases l
      | cons h3 t3 =>
        cases t3 with
        | nil => exact ⟨_, _, _, _, _, _, rfl, rfl, h1, h2, h3⟩
        | cons _ _ => simp at l
theorem shape_end {qs rs : List F} (n : rs ≠ []) (e : co rs (rs.length - 1) = (0, 1)) : shapeD (dP qs) (dP rs) = (decide (qs.length = rs.length) && above (rs.take (rs.length - 1))) := by
  simp only [shapeD, dP]
  rw [lastNz_map, if_neg (by
    rw [decide_eq_true_eq]
    rintro (z | z)
    · exact n z
    · exact z e), List.length_map, List.length_map, ← List.map_dropLast, above_map, List.dropLast_eq_take]
theorem shape_open {qs rs : List F} (p : Pn rs) : shapeD (dP qs) (dP rs) = (decide (qs.length ≤ 4) && ((decide (qs.length = rs.length) || decide (qs.length = rs.length + 1)) && above rs)) := by
  simp only [shapeD, dP]
  rw [lastNz_map, if_pos (decide_eq_true p), List.length_map, List.length_map, above_map]
theorem if_in {b c : Bool} (h : b = c) {A B : Prop} (ha : c = true → A) (hb : c = false → B) : if b = true then A else B := by
  subst h
  cases b with
  | true => exact ha rfl
  | false => exact hb rfl
theorem atI_neg1 {xs : List V} {u : V} (n : xs ≠ []) (h : xs[xs.length - 1]? = some u) : atI xs (-1) = some u := by
  have hl := List.length_pos_iff.mpr n
  have e : ixN xs.length (-1) = some (xs.length - 1) := by
    unfold ixN
    rw [if_neg (by decide), if_pos (by omega)]
    congr 1
    omega
  unfold atI
  rw [e]
  exact h
theorem cut_init {xs : List V} (n : xs ≠ []) : cutV xs none (some (-1)) = xs.take (xs.length - 1) ∧ ¬ (HT.sIx xs.length 0 none = 0 ∧ HT.sIx xs.length xs.length (some (-1)) = xs.length) := by
  have hl := List.length_pos_iff.mpr n
  have e : HT.sIx xs.length xs.length (some (-1)) = xs.length - 1 := by
    show (if (-1 : Int) < 0 then ((-1 : Int) + (xs.length : Int)).toNat else min (-1 : Int).toNat xs.length) = xs.length - 1
    rw [if_pos (by decide)]
    omega
  refine ⟨?_, fun z => ?_⟩
  · unfold cutV
    rw [e, HT.sIx_none, List.drop_zero, Nat.sub_zero]
  · rw [e] at z
    omega
abbrev sPosi : Stmt := top 27
abbrev sIsLad : Stmt := top 32
abbrev sAbove : Stmt := top 33
structure Mosts (mg : Str → Option Value) : Prop where
  m4 : ∃ t, mg "MOST_OPEN" = some (.int 4 t)
  m5 : ∃ t, mg "MOST_ENDED" = some (.int 5 t)
def spPosi (K : PySem.W.Frag) : Sp := fun vs H Q _ => ∃ (v : V) (d : PyData), vs = [v] ∧ Dp K H v d ∧ Q (.bl (posD d)) H
def spAbove (K : PySem.W.Frag) : Sp := fun vs H Q _ => ∃ (v : V) (qs : List F), vs = [v] ∧ Po K H v qs ∧ qs.length ≤ 500 ∧ ∀ H', Same H H' → Q (.bl (above qs)) H'
def spIsLad (K : PySem.W.Frag) : Sp := fun vs H Q _ => ∃ (v : V) (d : PyData), vs = [v] ∧ Dp K H v d ∧ ∀ H', Same H H' → Q (.bl (ladderD d)) H'
def spNeedLad (K : PySem.W.Frag) (C : Addr) : Sp := fun vs H Q E => ∃ (v : V) (d : PyData), vs = [v] ∧ Dp K H v d ∧ (ladderD d = true → ∀ H', Same H H' → Q v H') ∧ (ladderD d = false → ∀ H', Same H H' → OutW E C "given" v H')
section
variable {P : Program} {w : World} {K : PySem.W.Frag} {mg : Str → Option Value} {base : Heap} {f : Addr} {fd : FuncData} {CL : Addr}
theorem scPosi : FnScope ["thing"] ["thing"] (defScope sPosi) := ⟨rfl, rfl, rfl, by decide +kernel, rfl, by decide +kernel, by decide +kernel⟩
theorem ok_posi (F : Fun K "is_positive" "is_positive" sPosi f fd) (W : Cal P w K mg base 2 "is_fraction" (spFraction K)) : FnOk P w K mg base CX0 3 f fd ["thing"] (spPosi K) := by
  refine F.ok scPosi (fun vs H Q E h => ?_) (fun cdv A outer s H vs Q E hr h => ?_)
  · obtain ⟨v, d, rfl, _⟩ := h
    rfl
  · obtain ⟨v, d, rfl, hd, kk⟩ := h
    refine ⟨_, pss_one (ps_ret (pe_and (pe_n W hr (by decide) (by rfl) (pa_cons (pv 0) pa_nil)) (pe_one (pe_cmpR op_gt (pe_ix ix_tup (pv 0) pe_int (fun _ _ => rfl)) pe_int (nomark _))))), ?_⟩
    refine ⟨v, rfl, v, d, rfl, hd, _, rfl, ?_⟩
    unfold posD at kk
    cases e : fracD d with
    | false =>
      rw [e] at kk
      exact iteF kk
    | true =>
      rw [e] at kk
      obtain ⟨q, rfl, o⟩ := fracD_true e
      obtain ⟨a, rfl, sq⟩ := dp_fr hd
      exact iteT ⟨_, rfl, a, _, 0, _, rfl, rfl, sq, rfl, _, _, rfl, rfl, kk⟩
theorem scAbove : FnScope ["some", "part"] ["some"] (defScope sAbove) := ⟨rfl, rfl, rfl, by decide +kernel, rfl, by decide +kernel, by decide +kernel⟩
theorem ok_above (F : Fun K "are_above" "are_above" sAbove f fd) (al : mg "all" = none) : FnOk P w K mg base CX0 1 f fd ["some"] (spAbove K) := by
  refine F.ok scAbove (fun vs H Q E h => ?_) (fun cdv A outer s H vs Q E hr h => ?_)
  · obtain ⟨v, qs, rfl, _⟩ := h
    rfl
  · obtain ⟨v, qs, rfl, ⟨a, xs, rfl, sx, fx⟩, lq, kk⟩ := h
    have lx := fx.len
    refine ⟨_, pss_one (ps_ret (pe_callB (cr_all rfl) (by rfl) al (by decide +kernel) (pa_cons (pe_lc (own := [("part", 1)]) (g := gName 1) (tt := tYes) rfl scAbove.nd (pi_tup (pv 0)) (blkOk_by (N := ["some", "part"]) (sc := defScope sAbove) (by decide +kernel))
          (fun _ _ _ _ _ => pg_name (i := 1) scAbove.nd rfl (Or.inl rfl)) (fun _ _ _ _ _ => pts_nil)
          (fun _ _ _ _ _ => pe_cmpR op_gt (pe_ix (r := rIxT K) ix_tup (pv 1) pe_int (fun _ _ => rfl)) pe_int (nomark _))) pa_nil))), ?_⟩
    refine ⟨_, rfl, a, rfl, ⟨_, sx⟩, fun D hD => lc_tup (K := K) (a := a) (xs := xs) (fun i H2 => Same H H2 ∧ H2 D = some (.lst (((qs.take i).map fun q => decide (0 < q.1)).map V.bl))) ⟨same_new hD, upd_same⟩ (fun i H2 _ z => Bs.Same.t z.1 sx) ?_ ?_⟩
    · rintro i x H2 hx ⟨s2, hD2⟩
      have hi : i < qs.length := by
        have := (List.getElem?_eq_some_iff.mp hx).1
        omega
      obtain ⟨v', q, g1, g2, b, rfl, sb⟩ := fx.get hi
      rw [hx] at g1
      cases g1
      refine ⟨rfl, ?_⟩
      refine iteT (B := Same H H2 ∧ H2 D = some (.lst (((qs.take (i + 1)).map fun q => decide (0 < q.1)).map V.bl))) ?_
      refine ⟨_, rfl, b, _, 0, _, rfl, rfl, Bs.Same.t s2 sb, rfl, _, _, rfl, rfl, ?_⟩
      refine ⟨_, hD2, ?_, fun b o e => (upd_ne (ne_of_none e hD)).trans (s2 b o e), ?_⟩
      · rw [List.length_map, List.length_map, List.length_take]
        exact small1000 (by omega)
      · rw [upd_same, take_one g2, List.map_append, List.map_append]
        rfl
    · rintro H2 ⟨s2, hD2⟩
      rw [lx, List.take_length] at hD2
      refine ⟨D, _, rfl, SqL.of hD2, ?_⟩
      have := kk H2 s2
      rw [List.all_map]
      exact this
theorem scIsLad : FnScope ["thing", "levels", "steps"] ["thing"] (defScope sIsLad) := ⟨rfl, rfl, rfl, by decide +kernel, rfl, by decide +kernel, by decide +kernel⟩
theorem ok_isLad (F : Fun K "is_ladder" "is_ladder" sIsLad f fd) (T : Blt mg) (M : Mosts mg) (Z : Nou K mg) (PO : Cal P w K mg base 3 "is_positive" (spPosi K)) (AF : Cal P w K mg base 3 "are_fractions" (spAreF K)) (AB : Cal P w K mg base 1 "are_above" (spAbove K)) :
    FnOk P w K mg base CX0 4 f fd ["thing"] (spIsLad K) := by
  refine F.ok scIsLad (fun vs H Q E h => ?_) (fun cdv A outer s H vs Q E hr h => ?_)
  · obtain ⟨v, d, rfl, _⟩ := h
    rfl
  · obtain ⟨v, d, rfl, hd, kk⟩ := h
    obtain ⟨t4, m4⟩ := M.m4
    obtain ⟨t5, m5⟩ := M.m5
    obtain ⟨z, mz, sz⟩ := Z.ex
    refine ⟨_, pss_cons (ps_if (PW.pt (pw_or (pt_not (pt_val (pe_callB call_isi (by rfl) T.isinstance (by decide +kernel) (pa_cons (pv 0) (pa_cons (pe_bltn (v := .ty "tuple") (by rfl) T.tuple (by decide +kernel) rfl) pa_nil)))))
        (pw_or (pt_cmpR op_ne (pe_callB call_len_seq (by rfl) T.len (by decide +kernel) (pa_cons (pv 0) pa_nil)) pe_int (nomark _))
          (pw_or1 (pt_not (pt_val (pe_n PO hr (by decide) (by rfl) (pa_cons (pe_ix ix_tup (pv 0) pe_int (fun _ _ => rfl)) pa_nil)))))))) (pss_one (ps_ret pe_bl)) pss_nil)
      (pss_cons (ps_if (PW.pt (pw_or (pt_not (pt_val (pe_n AF hr (by decide) (by rfl) (pa_cons (pe_ix ix_tup (pv 0) pe_int (fun _ _ => rfl)) (pa_cons (pe_glob (v := .int 5) (by rfl) m5 ⟨t5, rfl⟩) pa_nil)))))
          (pw_or1 (pt_not (pt_val (pe_n AF hr (by decide) (by rfl) (pa_cons (pe_ix ix_tup (pv 0) pe_int (fun _ _ => rfl)) (pa_cons (pe_glob (v := .int 5) (by rfl) m5 ⟨t5, rfl⟩) pa_nil)))))))) (pss_one (ps_ret pe_bl)) pss_nil)
      (pss_cons (ps_asg (pe_slice sl_tupA (pv 0) (po_some pe_int) po_none) (pg_tup rfl (pgs_cons (pg_name (i := 1) scIsLad.nd rfl (.inl rfl)) (pgs_cons (pg_name (i := 2) scIsLad.nd rfl (.inl rfl)) pgs_nil))))
      (C8.pss_cut (ps_if (PW.pt (pw_and (pt_truth (pv 2) (by intro _; rfl)) (pw_and1 (pt_cmpR (op_eqD hr.units) (pe_ix ix_tup (pv 2) (pe_un un_neg pe_int) (fun _ _ => rfl)) (pe_glob (v := .ref z) (by rfl) mz rfl) (nomark _)))))
          (pss_one (ps_ret (pe_and (pe_cmpR op_eq (pe_callB call_len_seq (by rfl) T.len (by decide +kernel) (pa_cons (pv 1) pa_nil)) (pe_callB call_len_seq (by rfl) T.len (by decide +kernel) (pa_cons (pv 2) pa_nil)) (nomark _))
            (pe_one (pe_n AB hr (by decide) (by rfl) (pa_cons (pe_slice sl_tupA (pv 2) po_none (po_some (pe_un un_neg pe_int))) pa_nil)))))) pss_nil)
      (pss_one (ps_ret (pe_and (pe_cmpR op_le (pe_callB call_len_seq (by rfl) T.len (by decide +kernel) (pa_cons (pv 1) pa_nil)) (pe_glob (v := .int 4) (by rfl) m4 ⟨t4, rfl⟩) (nomark _))
        (pe_and (pe_cmpR op_in_seq (pe_op op_sub (pe_callB call_len_seq (by rfl) T.len (by decide +kernel) (pa_cons (pv 1) pa_nil)) (pe_callB call_len_seq (by rfl) T.len (by decide +kernel) (pa_cons (pv 2) pa_nil))) (pe_tup (pa_cons pe_int (pa_cons pe_int pa_nil))) (by rfl))
          (pe_one (pe_n AB hr (by decide) (by rfl) (pa_cons (pv 2) pa_nil)))))))))), ?_⟩
    have ks := fun (e : ladderD d = false) => by
      have := kk
      rw [e] at this
      exact this
    refine ⟨v, rfl, v, _, _, _, _, rfl, .ty _, hd.ty, kitT K d, _, rfl, ?_⟩
    cases ht : isTup d with
    | false =>
      have e : ladderD d = false := by cases d <;> first | rfl | cases ht
      exact iteT (iteT (ks e H (fun _ _ z => z)))
    | true =>
      refine iteF ?_
      cases hd with
      | tup hS hA =>
        rename_i a xs ds
        have l := dpAll_len hA
        refine ⟨_, rfl, a, _, rfl, .inr hS, rfl, _, rfl, ?_⟩
        refine ite2 (fun c => ?_) (fun c => ?_)
        · refine iteT (ks (ladderD_len fun z => ?_) H (fun _ _ z => z))
          rw [← l] at z
          simp [z] at c
        · have l3 : xs.length = 3 := by
            have c2 : ((xs.length : Nat) : Int) = 3 := by simpa using c
            omega
          obtain ⟨v1, v2, v3, d1, d2, d3, rfl, rfl, h1, h2, h3⟩ := three_of hA l3
          refine ⟨_, rfl, a, _, 0, _, rfl, rfl, hS, rfl, v1, d1, rfl, h1, _, rfl, ?_⟩
          have kk' : ∀ H', Same H H' → Q (.bl (posD d1 && (fracsD 5 d2 && (fracsD 5 d3 && shapeD d2 d3)))) H' := kk
          cases e1 : posD d1 with
          | false =>
            rw [e1] at kk'
            exact iteT (kk' H (fun _ _ z => z))
          | true =>
            rw [e1] at kk'
            refine iteF ?_
            refine ⟨_, rfl, a, _, 1, _, rfl, rfl, hS, rfl, v2, d2, 5, rfl, h2, by decide, fun H1 s1 => ⟨_, rfl, ?_⟩⟩
            cases e2 : fracsD 5 d2 with
            | false =>
              rw [e2] at kk'
              exact iteT (iteT (kk' H1 s1))
            | true =>
              rw [e2] at kk'
              refine iteF ?_
              refine ⟨_, rfl, a, _, 2, _, rfl, rfl, Bs.Same.t s1 hS, rfl, v3, d3, 5, rfl, dps s1 h3, by decide, fun H2 s2 => ⟨_, rfl, ?_⟩⟩
              have s12 := s1.trans s2
              cases e3 : fracsD 5 d3 with
              | false =>
                rw [e3] at kk'
                exact iteT (kk' H2 s12)
              | true =>
                rw [e3] at kk'
                refine iteF ?_
                obtain ⟨qs, rfl, oq, lq⟩ := fracsD_true e2
                obtain ⟨rs, rfl, or_, lr⟩ := fracsD_true e3
                have kk2 : ∀ H', Same H H' → Q (.bl (shapeD (dP qs) (dP rs))) H' := kk'
                refine ⟨_, rfl, 1, rfl, a, _, rfl, Bs.Same.t s12 hS, (fun z => absurd z.1 (show ¬ (1 : Nat) = 0 by decide)), fun _ p hp => ?_⟩
                have s3 := same_new (o := .tup (cutV [v1, v2, v3] (some 1) none)) hp
                have s13 := s12.trans s3
                refine ⟨p, [v2, v3], rfl, SqT.of upd_same, rfl, v2, [v3], rfl, v3, [], rfl, rfl, ?_⟩
                obtain ⟨b2, xs, rfl, sx, fx⟩ := (dp_po h2).mono s13
                obtain ⟨b3, ys, rfl, sy, fy⟩ := (dp_po h3).mono s13
                have lx := fx.len
                have ly := fy.len
                generalize upd H2 p (.tup (cutV [v1, V.ref b2, V.ref b3] (some 1) none)) = H3 at *
                have kk3 : ∀ H', Same H3 H' → Q (.bl (shapeD (dP qs) (dP rs))) H' := fun H' s => kk2 H' (s13.trans s)
                clear kk kk' kk2 ks
                refine ⟨fun σ H' => Pn rs ∧ H' = H3 ∧ σ = [some (V.ref a), some (V.ref b2), some (V.ref b3)], ?_, ?_⟩
                · refine ⟨_, rfl, !ys.isEmpty, .inr (.inl ⟨ys, sy, rfl⟩), ?_⟩
                  by_cases ne : rs = []
                  · subst ne
                    cases fy
                    exact iteF ⟨.inl rfl, rfl, rfl⟩
                  · have yn : ys ≠ [] := fun z => ne (List.eq_nil_of_length_eq_zero (by rw [← ly, z]; rfl))
                    have et : (!ys.isEmpty) = true := by
                      cases ys with
                      | nil => exact absurd rfl yn
                      | cons _ _ => rfl
                    rw [et]
                    refine iteT ?_
                    have rp := List.length_pos_iff.mpr ne
                    obtain ⟨u, q, g1, g2, g3⟩ := fy.get (i := rs.length - 1) (by omega)
                    have eq_ : co rs (rs.length - 1) = q := co_get g2
                    rw [← ly] at g1
                    refine ⟨_, rfl, _, rfl, b3, ys, _, u, rfl, rfl, sy, atI_neg1 yn g1, dF q, dF (0, 1), g3.dp, .tup (sz H3) (.cons (.int 0) (.cons (.int 1) .nil)), rfl, rfl, _, rfl, ?_⟩
                    rw [eqv_nought]
                    refine ite2 (fun c => ?_) (fun c => ?_)
                    · have c1 : q = (0, 1) := of_decide_eq_true c
                      rw [shape_end ne (eq_.trans c1)] at kk3
                      refine ⟨_, rfl, b2, xs, rfl, .inr sx, _, rfl, b3, ys, rfl, .inr sy, rfl, _, rfl, ?_⟩
                      have el : decide (V.int (xs.length : Int) = V.int (ys.length : Int)) = decide (qs.length = rs.length) := by
                        rw [lx, ly]
                        exact decide_eq_decide.mpr ⟨fun h => by have := V.int.inj h; omega, fun h => by rw [h]⟩
                      rw [el]
                      refine ite2 (fun c2 => ?_) (fun c2 => ?_)
                      · obtain ⟨ci1, ci2⟩ := cut_init yn
                        refine ⟨_, rfl, _, rfl, -1, rfl, b3, ys, rfl, sy, (fun z => absurd z ci2), fun _ p2 hp2 => ?_⟩
                        rw [ci1]
                        have s4 := same_new (o := .tup (ys.take (ys.length - 1))) hp2
                        refine ⟨_, rs.take (rs.length - 1), rfl, ⟨p2, _, rfl, SqT.of upd_same, ?_⟩, by rw [List.length_take]; omega, fun H5 s5 => ?_⟩
                        · have := (fy.take (ys.length - 1)).mono s4
                          rw [ly] at this ⊢
                          exact this
                        · have := kk3 H5 (s4.trans s5)
                          rw [c2, Bool.true_and] at this
                          exact this
                      · have := kk3 H3 (fun _ _ z => z)
                        rw [Bool.eq_false_iff.mpr c2, Bool.false_and] at this
                        exact this
                    · have c1 : ¬ q = (0, 1) := fun w => c (decide_eq_true w)
                      exact ⟨.inr (by rw [eq_]; exact c1), rfl, rfl⟩
                · rintro σ H' ⟨pn, rfl, rfl⟩
                  rw [shape_open pn] at kk3
                  refine ⟨_, rfl, b2, xs, rfl, .inr sx, _, _, rfl, rfl, _, rfl, ?_⟩
                  have el : decide ((xs.length : Int) ≤ 4) = decide (qs.length ≤ 4) := by
                    rw [lx]
                    exact decide_eq_decide.mpr (by omega)
                  rw [el]
                  refine ite2 (fun c2 => ?_) (fun c2 => ?_)
                  · rw [c2, Bool.true_and] at kk3
                    refine ⟨_, rfl, b2, xs, rfl, .inr sx, _, rfl, b3, ys, rfl, .inr sy, _, _, rfl, rfl, (by show 2 ≤ sizeLine; decide), fun p2 hp2 => ⟨p2, _, rfl, .inr (SqT.of upd_same), rfl, rfl, _, rfl, ?_⟩⟩
                    have s4 := same_new (o := .tup [V.int 0, V.int 1]) hp2
                    have ei : inV (V.int ((xs.length : Int) - (ys.length : Int))) [V.int 0, V.int 1] = (decide (qs.length = rs.length) || decide (qs.length = rs.length + 1)) := by
                      rw [lx, ly]
                      show ((0 == ((qs.length : Int) - (rs.length : Int))) || ((1 == ((qs.length : Int) - (rs.length : Int))) || false)) = _
                      rw [Bool.or_false]
                      congr 1
                      · rw [Bool.eq_iff_iff, beq_iff_eq, decide_eq_true_eq]
                        omega
                      · rw [Bool.eq_iff_iff, beq_iff_eq, decide_eq_true_eq]
                        omega
                    refine if_in ei (fun c3 => ?_) (fun c3 => ?_)
                    · refine ⟨_, rfl, _, rs, rfl, ⟨b3, ys, rfl, Bs.Same.t s4 sy, fy.mono s4⟩, by omega, fun H5 s5 => ?_⟩
                      have := kk3 H5 (s4.trans s5)
                      rw [c3, Bool.true_and] at this
                      exact this
                    · have := kk3 _ s4
                      rw [c3, Bool.false_and] at this
                      exact this
                  · have := kk3 _ (fun _ _ z => z)
                    rw [Bool.eq_false_iff.mpr c2, Bool.false_and] at this
                    exact this
      | _ => cases ht
end
end Rs


set_option Elab.async false
set_option linter.all false
set_option maxRecDepth 100000
set_option maxHeartbeats 400000
namespace Rs
open Fq
/-! ### a row's rungs: what the reckoning bears -/
def rv (qs : List F) : Nat → Rat := fun i => val (co qs i)
structure RowOk (qs : List F) : Prop where
  c : Ca 256 30 qs
  n : qs ≠ []
  l : qs.length ≤ 8
  p : 0 < (co qs 0).1
theorem RowOk.rv {qs : List F} (h : RowOk qs) : Rv (rv qs) 256 := ⟨by decide, by decide, fun i => (h.c.co i).v⟩
theorem RowOk.pos {qs : List F} (h : RowOk qs) : 1 ≤ qs.length := List.length_pos_iff.mpr h.n
theorem rv_hi {qs : List F} {i : Nat} (h : qs.length ≤ i) : rv qs i = 0 := by
  unfold Rs.rv
  rw [co_ge h, val_zero]
/-- the sum by the moments from s on -/
def ws (qs : List F) (s : Nat) (w : List F) : Rat := wt (fun m => rv qs (m + s)) w
theorem co_drop (qs : List F) (s i : Nat) : co (qs.drop s) i = co qs (i + s) := by
  unfold co
  rw [List.getD_eq_getElem?_getD, List.getD_eq_getElem?_getD, List.getElem?_drop, Nat.add_comm]
theorem sm_cut {f : Nat → Rat} {a b : Nat} (h : ∀ i, a ≤ i → f i = 0) (g : ∀ i, b ≤ i → f i = 0) : sm f a = sm f b := by
  rcases Nat.le_total a b with e | e
  · obtain ⟨d, rfl⟩ := Nat.le.dest e
    exact (sm_more h d).symm
  · obtain ⟨d, rfl⟩ := Nat.le.dest e
    exact sm_more g d
theorem sumBy_ws {D E : Int} {n m : Nat} {w qs : List F} (hw : Ca D n w) (hq : Ca E m qs) (s : Nat) : val (sumBy w (qs.drop s)) = ws qs s w := by
  rw [(sumBy_valC hw (b := qs.drop s) (E := E) (m := m) fun q h => hq q (List.mem_of_mem_drop h)).2]
  unfold ws wt
  have e : ∀ i, val (co w i) * val (co (qs.drop s) i) = val (co w i) * rv qs (i + s) := fun i => by
    rw [co_drop]
    rfl
  rw [sm_congr fun i _ => e i]
  refine sm_cut (fun i h => ?_) (fun i h => ?_)
  · rw [List.length_drop] at h
    by_cases c : w.length ≤ i
    · rw [co_ge c, val_zero]
      grind
    · rw [rv_hi (by omega)]
      grind
  · rw [co_ge h, val_zero]
    grind
theorem ws_trim (qs : List F) (s : Nat) (w : List F) : ws qs s (trim w) = ws qs s w := by
  unfold ws wt
  rw [sm_congr (g := fun i => val (co w i) * rv qs (i + s)) fun i _ => by rw [trim_co]]
  refine sm_cut (fun i h => ?_) (fun i h => ?_)
  · rw [← trim_co, co_ge h, val_zero]
    grind
  · rw [co_ge h, val_zero]
    grind
def sq2 (qs : List F) (s : Nat) (p q : List F) : Rat := sm (fun i => val (co p i) * sm (fun j => val (co q j) * rv qs (i + j + s)) q.length) p.length
theorem prod_ws {D1 D2 : Int} {a b N : Nat} {p q : List F} (hp : Ca D1 a p) (hq : Ca D2 b q) (hN : p.length + q.length ≤ N + 1) (qs : List F) (s : Nat) : ws qs s (prodN N p q) = sq2 qs s p q := (prodN_wtC hp hq hN fun m => rv qs (m + s)).2
theorem sq2_rg (qs : List F) (s k : Nat) : sq2 qs s (rg (rv qs) k) (rg (rv qs) k) = gsq (rv qs) (pol (rv qs) k) (pol (rv qs) k) (k + 1) s := by
  unfold sq2 gsq
  rw [rg_len]
  refine sm_congr fun i _ => ?_
  rw [rg_co]
  congr 1
  refine sm_congr fun j _ => ?_
  rw [rg_co]
/-- sums as fractions -/
theorem sumBy_is {D E : Int} {n m : Nat} {w qs : List F} (hw : Ca D n w) (hq : Ca E m qs) (s : Nat) : sumBy w (qs.drop s) = rf (ws qs s w) :=
  rf_is (sumBy_valC hw (b := qs.drop s) (E := E) (m := m) fun q h => hq q (List.mem_of_mem_drop h)).1.ok (sumBy_ws hw hq s)
theorem square_is {D : Int} {a : Nat} {p qs : List F} (hp : Ca D a p) (hq : RowOk qs) (s : Nat) : sumBy (trim (prodN (p.length + p.length) p p)) (qs.drop s) = rf (sq2 qs s p p) := by
  have cp := prodN_wtC (N := p.length + p.length) hp hp (by omega) (fun _ => 0)
  rw [sumBy_is (ca_trim cp.1) hq.c s, ws_trim, prod_ws hp hp (by omega)]
theorem val_divL {q r : F} (hq : Ok q) (hr : Ok r) (h : 0 < r.1) : val (divL q r) = val q / val r ∧ Ok (divL q r) := by
  have m := Int.mul_pos hq.1 h
  refine ⟨?_, red_ok m⟩
  show val (red _ _) = _
  rw [val_red m, Rat.intCast_mul, Rat.intCast_mul]
  have h1 := ne0 hq.1
  have h2 := ne0 hr.1
  have h3 := ne0 h
  unfold val
  grind
theorem divL_rf {x y : Rat} (h : 0 < y) : divL (rf x) (rf y) = rf (x / y) := by
  have p : 0 < (rf y).1 := by
    rw [← val_pos (rf_ok y), rf_val]
    exact h
  obtain ⟨a, b⟩ := val_divL (rf_ok x) (rf_ok y) p
  refine rf_is b ?_
  rw [a, rf_val, rf_val]
theorem rf_top_pos {y : Rat} : 0 < (rf y).1 ↔ 0 < y := by rw [← val_pos (rf_ok y), rf_val]
theorem rf_top_neg {y : Rat} : (rf y).1 < 0 ↔ y < 0 := by rw [← val_neg (rf_ok y), rf_val]
theorem rf_eq0 {y : Rat} : rf y = (0, 1) ↔ y = 0 := by rw [← val_eq0 (rf_ok y), rf_val]
/-! ### sizes -/
theorem aB_le {j : Nat} (h : j ≤ 3) : aB j ≤ 1306 := by
  rcases (by omega : j = 0 ∨ j = 1 ∨ j = 2 ∨ j = 3) with rfl | rfl | rfl | rfl <;> decide
theorem aB_le2 {j : Nat} (h : j ≤ 2) : aB j ≤ 270 := by
  rcases (by omega : j = 0 ∨ j = 1 ∨ j = 2) with rfl | rfl | rfl <;> decide
section
variable {qs : List F} (R : RowOk qs) {j : Nat}
include R
/-- the turn j -/
theorem turn_at (h : j ≤ 3) (n : ∀ i, i ≤ j → 0 < nor (rv qs) i) : ∃ d u, Tn (rv qs) 256 j d (aB j) u := by
  obtain ⟨d, p⟩ := pd_all R.rv j (by omega) fun i hi => n i (by omega)
  obtain ⟨u, t⟩ := turn R.rv p (by omega) (n j (Nat.le_refl _))
  exact ⟨d, u, t⟩
theorem rg_dm (h : j ≤ 3) (n : ∀ i, i < j → 0 < nor (rv qs) i) : ∃ d, Ca d (aB j) (rg (rv qs) j) ∧ Bd d (aB j) ∧ Bd (d * d) (aB j + aB j + 170) ∧ Bd (d * d * 256) (aB j + aB j + 150 + 30 + 30) ∧ Pd (rv qs) j d (aB j) := by
  obtain ⟨d, p⟩ := pd_all R.rv j (by omega) n
  have a := aB_le h
  have l2 := natAbs_mul_le p.l p.l
  have l3 : (d * d * 256).natAbs ≤ 2 ^ (aB j + aB j + 8) := natAbs_mul_le l2 (by decide)
  exact ⟨d, rg_ca p, Bd.of p.p p.l (by omega) (by omega), Bd.of (Int.mul_pos p.p p.p) l2 (by omega) (by omega), Bd.of (Int.mul_pos (Int.mul_pos p.p p.p) (by decide)) l3 (by omega) (by omega), p⟩
theorem gsq_dm (h : j ≤ 3) (n : ∀ i, i < j → 0 < nor (rv qs) i) (s : Nat) : Dm (rf (gsq (rv qs) (pol (rv qs) j) (pol (rv qs) j) (j + 1) s)) := by
  obtain ⟨d, p⟩ := pd_all R.rv j (by omega) n
  have a := aB_le h
  have o := gsq_ov R.rv p.v (m := j + 1) (by omega) s
  have l : (d * (d * 256)).natAbs ≤ 2 ^ (aB j + (aB j + 8)) := natAbs_mul_le p.l (natAbs_mul_le p.l (by decide))
  exact cb_dm (rf_cb o) (Bd.of (Int.mul_pos p.p (Int.mul_pos p.p (by decide))) l (by omega) (by unfold bS; omega))
theorem lvl_dm (h : j ≤ 3) (n : ∀ i, i ≤ j → 0 < nor (rv qs) i) : Dm (rf (lvl (rv qs) j)) := by
  obtain ⟨d, u, t⟩ := turn_at R h n
  have a := aB_le h
  exact cb_dm (rf_cb t.lv) (Bd.of t.u0 t.ul (by unfold bS; omega) (by unfold bS; omega))
theorem stp_ok (h : j ≤ 3) (n : ∀ i, i ≤ j → 0 < nor (rv qs) i) : ∃ E e, Cb E e (rf (stp (rv qs) j)) ∧ Bd E e ∧ ∃ D a, Ca D a (rgB (rv qs) j) ∧ Bd D a ∧ Bd (D * E) (a + e) := by
  cases j with
  | zero =>
    have one : Bd 1 0 := Bd.of (by decide) (N := 0) (by decide) (by decide) (by decide)
    refine ⟨1, 0, ?_, one, 1, 0, (fun q hq => by cases hq), one, one⟩
    show Cb 1 0 (rf 0)
    rw [rf_zero]
    exact Cb.zero
  | succ k =>
    obtain ⟨d, u, t⟩ := turn_at R h n
    obtain ⟨d', u', t'⟩ := turn_at R (j := k) (by omega) fun i hi => n i (by omega)
    have a := aB_le h
    have a' := aB_le2 (j := k) (by omega)
    have o := step_ov R.rv t t' (n k (by omega))
    have p1 : 0 < d * (d * 256) := Int.mul_pos t.pd.p (Int.mul_pos t.pd.p (by decide))
    have l1 : (d * (d * 256)).natAbs ≤ 2 ^ (aB (k + 1) + (aB (k + 1) + 8)) := natAbs_mul_le t.pd.l (natAbs_mul_le t.pd.l (by decide))
    have l2 := natAbs_mul_le l1 t'.ul
    have l3 := natAbs_mul_le t'.pd.l l2
    refine ⟨_, _, rf_cb o, Bd.of (Int.mul_pos p1 t'.u0) l2 (by unfold bS; omega) (by unfold bS; omega), d', aB k, rg_ca t'.pd, Bd.of t'.pd.p t'.pd.l (by omega) (by omega), Bd.of (Int.mul_pos t'.pd.p (Int.mul_pos p1 t'.u0)) l3 (by unfold bS; omega) (by unfold bS; omega)⟩
theorem nx_ok (h : j ≤ 3) (n : ∀ i, i ≤ j → 0 < nor (rv qs) i) : NxOk (rgB (rv qs) j) (rg (rv qs) j) (rf (lvl (rv qs) j)) (rf (stp (rv qs) j)) := by
  obtain ⟨d, u, t⟩ := turn_at R h n
  have a := aB_le h
  obtain ⟨E, e, c1, c2, D, b, c3, c4, c5⟩ := stp_ok R h n
  have hg := rg_ca t.pd
  have bd : Bd (d * u) (aB j + bS (aB j) + 1) := Bd.of (Int.mul_pos t.pd.p t.u0) (natAbs_mul_le t.pd.l t.ul) (by unfold bS; omega) (by unfold bS; omega)
  have hc : Ca (d * u) (aB j + bS (aB j)) (scP (rg (rv qs) j) (rf (lvl (rv qs) j))) := ca_trim fun q hq => by
    obtain ⟨x, hx, rfl⟩ := List.mem_map.mp hq
    exact (hg x hx).mul (rf_cb t.lv)
  have hs : Ca (d * u) (aB j + bS (aB j)) ((0, 1) :: rg (rv qs) j) := fun q hq => by
    rcases List.mem_cons.mp hq with rfl | hq
    · exact Cb.zero
    · exact ⟨(hg q hq).ok, (hg q hq).v.scale t.ul⟩
  refine ⟨ca_dm c3 c4, ca_dm hg (Bd.of t.pd.p t.pd.l (by omega) (by omega)), lvl_dm R h n, cb_dm c1 c2, ca_dm hc (bd.mono (by omega)), ?_, ?_⟩
  · refine ca_dm (D := d * u) (n := aB j + bS (aB j) + 1) (ca_trim fun q hq => ?_) bd
    obtain ⟨k, rfl⟩ := byPower_mem hq
    exact (hs.co k).sub (hc.co k)
  · refine ca_dm (ca_trim (D := D * E) (n := b + e) fun q hq => ?_) c5
    obtain ⟨x, hx, rfl⟩ := List.mem_map.mp hq
    exact (c3 x hx).mul c1
end
/-! ### how far the climbing goes -/
structure Clm (qs : List F) (J : Nat) : Prop where
  pos : ∀ j, j < J → 0 < nor (rv qs) j
  bnd : ∀ j, j < J → 2 * j + 1 < qs.length
  stop : 2 * J + 1 < qs.length → ¬ 0 < nor (rv qs) J
def cnt (qs : List F) (J : Nat) : Nat := if 2 * J < qs.length then J + 1 else J
theorem Clm.uniq {qs : List F} {I J : Nat} (a : Clm qs I) (b : Clm qs J) : I = J := by
  rcases Nat.lt_trichotomy I J with h | h | h
  · exact absurd (b.pos I h) (a.stop (b.bnd I h))
  · exact h
  · exact absurd (a.pos J h) (b.stop (a.bnd J h))
def nF (qs : List F) (k : Nat) : F := rf (nor (rv qs) k)
def lF (qs : List F) (k : Nat) : F := rf (lvl (rv qs) k)
def sF (qs : List F) (k : Nat) : F := rf (stp (rv qs) k)
/-- sums, levels, steps -/
def sumsC (qs : List F) (J : Nat) : List F := (List.range (cnt qs J)).map (nF qs)
def lvlsC (qs : List F) (J : Nat) : List F := (List.range J).map (lF qs)
def stpsC (qs : List F) (J : Nat) : List F := (List.range (cnt qs J - 1)).map fun k => sF qs (k + 1)
end Rs


set_option Elab.async false
set_option linter.all false
set_option maxRecDepth 100000
set_option maxHeartbeats 1000000
namespace Rs
open PySem L2 Bs Fq LamX RZ
/-- polynomials in memory -/
inductive PoAll (K : PySem.W.Frag) (H : Hp) : List V → List (List F) → Prop
  | nil : PoAll K H [] []
  | cons {v : V} {vs : List V} {q : List F} {qs : List (List F)} : Po K H v q → PoAll K H vs qs → PoAll K H (v :: vs) (q :: qs)
theorem PoAll.mono {K : PySem.W.Frag} {H H' : Hp} (e : Same H H') : ∀ {vs : List V} {qs : List (List F)}, PoAll K H vs qs → PoAll K H' vs qs
  | _, _, .nil => .nil
  | _, _, .cons a b => .cons (a.mono e) (PoAll.mono e b)
theorem PoAll.len {K : PySem.W.Frag} {H : Hp} : ∀ {vs : List V} {qs : List (List F)}, PoAll K H vs qs → vs.length = qs.length
  | _, _, .nil => rfl
  | _, _, .cons _ b => congrArg (· + 1) (PoAll.len b)
theorem PoAll.snoc {K : PySem.W.Frag} {H : Hp} : ∀ {vs : List V} {qs : List (List F)} {v : V} {q : List F}, PoAll K H vs qs → Po K H v q → PoAll K H (vs ++ [v]) (qs ++ [q])
  | _, _, _, _, .nil, h => .cons h .nil
  | _, _, _, _, .cons a b, h => .cons a (PoAll.snoc b h)
theorem PoAll.dp {K : PySem.W.Frag} {H : Hp} : ∀ {vs : List V} {qs : List (List F)}, PoAll K H vs qs → DpAll K H vs (qs.map dP)
  | _, _, .nil => .nil
  | _, _, .cons a b => .cons a.dp (PoAll.dp b)
theorem sqT_off {K : PySem.W.Frag} {H : Hp} {a D : Addr} {xs acc : List V} {o : HO} (hD : H D = some (.lst acc)) (s : SqT K H a xs) : SqT K (upd H D o) a xs := by
  rcases s with (s | ⟨o', s⟩) | s
  · exact .inl (.inl ((upd_ne (ne_of s hD (by intro z; cases z))).trans s))
  · exact .inl (.inr ⟨o', (upd_ne (ne_of s hD (by intro z; cases z))).trans s⟩)
  · exact .inr s
theorem Po.off {K : PySem.W.Frag} {H : Hp} {v : V} {qs : List F} {D : Addr} {acc : List V} {o : HO} (hD : H D = some (.lst acc)) (h : Po K H v qs) : Po K (upd H D o) v qs := by
  obtain ⟨a, xs, rfl, s, f⟩ := h
  exact ⟨a, xs, rfl, sqT_off hD s, f.off hD⟩
theorem PoAll.off {K : PySem.W.Frag} {H : Hp} {D : Addr} {acc : List V} {o : HO} (hD : H D = some (.lst acc)) : ∀ {vs : List V} {qs : List (List F)}, PoAll K H vs qs → PoAll K (upd H D o) vs qs
  | _, _, .nil => .nil
  | _, _, .cons a b => .cons (a.off hD) (PoAll.off hD b)

theorem PoAll.get {K : PySem.W.Frag} {H : Hp} : ∀ {vs : List V} {qs : List (List F)} {i : Nat}, PoAll K H vs qs → i < qs.length → ∃ v q, vs[i]? = some v ∧ qs[i]? = some q ∧ Po K H v q
  | _, _, 0, .cons a _, _ => ⟨_, _, rfl, rfl, a⟩
  | _, _, i + 1, .cons _ b, h => by
    obtain ⟨v, q, h1, h2, h3⟩ := PoAll.get (i := i) b (by simp only [List.length_cons] at h; omega)
    exact ⟨v, q, h1, h2, h3⟩
  | _, _, _, .nil, h => absurd h (by simp)
structure OneG (K : PySem.W.Frag) (mg : Str → Option Value) : Prop where
  ex : ∃ a : Addr, mg "ONE" = some (.ref a) ∧ ∀ H : Hp, SqT K H a [.int 1, .int 1]
abbrev sClimb : Stmt := top 43
theorem rng_get {α : Type} {f : Nat → α} {n k : Nat} (h : k < n) : ((List.range n).map f)[k]? = some (f k) := by
  rw [List.getElem?_map, List.getElem?_range h]
  rfl
theorem rng_snoc {α : Type} (f : Nat → α) (n : Nat) : (List.range (n + 1)).map f = (List.range n).map f ++ [f n] := by
  rw [List.range_succ, List.map_append]
  rfl
/-- what stands in the three lists behind j turns -/
structure Cst (K : PySem.W.Frag) (H0 H : Hp) (qs : List F) (a1 a2 a3 : Addr) (i c j : Nat) : Prop where
  same : Same H0 H
  g1 : ∃ ps, H a1 = some (.lst ps) ∧ PoAll K H ps ((List.range i).map (rg (rv qs)))
  g2 : ∃ ss, H a2 = some (.lst ss) ∧ FrAll K H ss ((List.range c).map (nF qs))
  g3 : ∃ ls, H a3 = some (.lst ls) ∧ FrAll K H ls ((List.range j).map (lF qs))
  n1 : H0 a1 = none
  n2 : H0 a2 = none
  n3 : H0 a3 = none
  d12 : a1 ≠ a2
  d13 : a1 ≠ a3
  d23 : a2 ≠ a3
section
variable {K : PySem.W.Frag} {H0 H H' : Hp} {qs : List F} {a1 a2 a3 : Addr} {i c j : Nat}
theorem Cst.mono (C : Cst K H0 H qs a1 a2 a3 i c j) (e : Same H H') : Cst K H0 H' qs a1 a2 a3 i c j := by
  obtain ⟨ps, x1, x2⟩ := C.g1
  obtain ⟨ss, y1, y2⟩ := C.g2
  obtain ⟨ls, z1, z2⟩ := C.g3
  exact ⟨C.same.trans e, ⟨ps, e _ _ x1, x2.mono e⟩, ⟨ss, e _ _ y1, y2.mono e⟩, ⟨ls, e _ _ z1, z2.mono e⟩, C.n1, C.n2, C.n3, C.d12, C.d13, C.d23⟩
theorem Cst.p1 (C : Cst K H0 H qs a1 a2 a3 i c j) {ps : List V} {v : V} (h : H a1 = some (.lst ps)) (f : Po K H v (rg (rv qs) i)) (hp : PoAll K H ps ((List.range i).map (rg (rv qs)))) : Cst K H0 (upd H a1 (.lst (ps ++ [v]))) qs a1 a2 a3 (i + 1) c j := by
  obtain ⟨ss, y1, y2⟩ := C.g2
  obtain ⟨ls, z1, z2⟩ := C.g3
  refine ⟨fun b o e => (upd_ne (ne_of_none e C.n1)).trans (C.same b o e), ⟨_, upd_same, ?_⟩, ⟨ss, (upd_ne C.d12.symm).trans y1, y2.off h⟩, ⟨ls, (upd_ne C.d13.symm).trans z1, z2.off h⟩, C.n1, C.n2, C.n3, C.d12, C.d13, C.d23⟩
  rw [rng_snoc]
  exact (hp.off h).snoc (f.off h)
theorem Cst.p2 (C : Cst K H0 H qs a1 a2 a3 i c j) {ss : List V} {v : V} (h : H a2 = some (.lst ss)) (f : Fr K H v (nF qs c)) (hs : FrAll K H ss ((List.range c).map (nF qs))) : Cst K H0 (upd H a2 (.lst (ss ++ [v]))) qs a1 a2 a3 i (c + 1) j := by
  obtain ⟨ps, y1, y2⟩ := C.g1
  obtain ⟨ls, z1, z2⟩ := C.g3
  refine ⟨fun b o e => (upd_ne (ne_of_none e C.n2)).trans (C.same b o e), ⟨ps, (upd_ne C.d12).trans y1, y2.off h⟩, ⟨_, upd_same, ?_⟩, ⟨ls, (upd_ne C.d23.symm).trans z1, z2.off h⟩, C.n1, C.n2, C.n3, C.d12, C.d13, C.d23⟩
  rw [rng_snoc]
  exact (hs.off h).snoc (f.off h)
theorem Cst.p3 (C : Cst K H0 H qs a1 a2 a3 i c j) {ls : List V} {v : V} (h : H a3 = some (.lst ls)) (f : Fr K H v (lF qs j)) (hl : FrAll K H ls ((List.range j).map (lF qs))) : Cst K H0 (upd H a3 (.lst (ls ++ [v]))) qs a1 a2 a3 i c (j + 1) := by
  obtain ⟨ps, y1, y2⟩ := C.g1
  obtain ⟨ss, z1, z2⟩ := C.g2
  refine ⟨fun b o e => (upd_ne (ne_of_none e C.n3)).trans (C.same b o e), ⟨ps, (upd_ne C.d13).trans y1, y2.off h⟩, ⟨ss, (upd_ne C.d23).trans z1, z2.off h⟩, ⟨_, upd_same, ?_⟩, C.n1, C.n2, C.n3, C.d12, C.d13, C.d23⟩
  rw [rng_snoc]
  exact (hl.off h).snoc (f.off h)
end
theorem atI_neg2 {xs : List V} {v : V} {n : Nat} (h : xs.length = n + 2) (e : xs[n]? = some v) : atI xs (-2) = some v := by
  have hh : atI xs (-2) = xs[xs.length - 2]? := by
    unfold atI
    have : ixN xs.length (-2) = some (xs.length - 2) := by
      unfold ixN
      rw [if_neg (by omega), if_pos (by omega)]
      congr 1
      omega
    rw [this]
    rfl
  rw [hh, h]
  exact e
/-- what climbing gives -/
def spClimb (K : PySem.W.Frag) : Sp := fun vs H Q _ => ∃ (x : V) (qs : List F), vs = [x] ∧ Po K H x qs ∧ RowOk qs ∧ ∀ (H' : Hp) (a a1 a2 a3 : Addr) (J : Nat), Same H H' → SqT K H' a [.ref a1, .ref a2, .ref a3] → Cst K H H' qs a1 a2 a3 (J + 1) (cnt qs J) J → Clm qs J → Q (.ref a) H'
abbrev NCm : List Str := ["row", "polys", "sums", "levels", "level", "step", "before"]
section
variable {P : Program} {w : World} {K : PySem.W.Frag} {mg : Str → Option Value} {base : Heap} {f : Addr} {fd : FuncData}
theorem scClimb : FnScope NCm ["row"] (defScope sClimb) := ⟨rfl, rfl, rfl, by decide +kernel, rfl, by decide +kernel, by decide +kernel⟩
theorem ok_climb (F : Fun K "climb" "climb" sClimb f fd) (T : Blt mg) (Z : Nou K mg) (O : OneG K mg) (DV : Cal P w K mg base 2 "divided" (spOp K divL domP)) (SQ2 : C8.Cal P w K mg base 5 "square_sum" (spSquare K) [.int 0]) (SQ3 : Cal P w K mg base 5 "square_sum" (spSquare K)) (NX : Cal P w K mg base 4 "next_rung" (spNext K)) :
    FnOk P w K mg base CX0 6 f fd ["row"] (spClimb K) := by
  refine F.ok scClimb (fun vs H Q E h => ?_) (fun cdv A outer s H vs Q E hr h => ?_)
  · obtain ⟨x, qs, rfl, _⟩ := h
    rfl
  · obtain ⟨x, qs, rfl, ⟨b, xs, rfl, sx, fx⟩, R, kk⟩ := h
    obtain ⟨z, mz, sz⟩ := Z.ex
    obtain ⟨o, mo, so⟩ := O.ex
    have lx := fx.len
    have r1 := R.pos
    have r8 := R.l
    refine ⟨_, pss_cons (ps_set (i := 1) scClimb.nd rfl (Or.inl rfl) (pe_lst (pa_cons (pe_tup (pa_cons (pe_glob (v := .ref o) (by rfl) mo rfl) pa_nil)) pa_nil)))
      (pss_cons (ps_set (i := 2) scClimb.nd rfl (Or.inl rfl) (pe_lst (pa_cons (pe_ix ix_tup (pv 0) pe_int (fun _ _ => rfl)) pa_nil)))
      (pss_cons (ps_set (i := 3) scClimb.nd rfl (Or.inl rfl) (pe_lst pa_nil))
      (C8.pss_cut (ps_while PassesOwn.never (PW.pt (pw_and (pt_cmpR op_gt (pe_ix ix_tup (pe_ix ix_list (pv 2) (pe_un un_neg pe_int) (fun _ _ => rfl)) pe_int (fun _ _ => rfl)) pe_int (nomark _)) (pw_and1 (pt_cmpR op_lt (pe_op op_add (pe_op op_mul pe_int (pe_callB call_len_seq (by rfl) T.len (by decide +kernel) (pa_cons (pv 3) pa_nil))) pe_int) (pe_callB call_len_seq (by rfl) T.len (by decide +kernel) (pa_cons (pv 0) pa_nil)) (nomark _)))))
        (C8.pss_cut (ps_set (i := 4) scClimb.nd rfl (Or.inl rfl) (pe_n DV hr (by decide) (by rfl) (pa_cons (pe_n SQ3 hr (by decide) (by rfl) (pa_cons (pv 0) (pa_cons (pe_ix ix_list (pv 1) (pe_un un_neg pe_int) (fun _ _ => rfl)) (pa_cons pe_int pa_nil)))) (pa_cons (pe_ix ix_list (pv 2) (pe_un un_neg pe_int) (fun _ _ => rfl)) pa_nil))))
        (C8.pss_cut (ps_set (i := 5) scClimb.nd rfl (Or.inl rfl) (pe_ifExp (pt_truth (pv 3) (by intro _; rfl)) (pe_n DV hr (by decide) (by rfl) (pa_cons (pe_ix ix_list (pv 2) (pe_un un_neg pe_int) (fun _ _ => rfl)) (pa_cons (pe_ix ix_list (pv 2) (pe_un un_neg pe_int) (fun _ _ => rfl)) pa_nil))) (pe_glob (v := .ref z) (by rfl) mz rfl)))
        (C8.pss_cut (ps_set (i := 6) scClimb.nd rfl (Or.inl rfl) (pe_ifExp (pt_truth (pv 3) (by intro _; rfl)) (pe_ix ix_list (pv 1) (pe_un un_neg pe_int) (fun _ _ => rfl)) (pe_tup pa_nil)))
        (C8.pss_cut (ps_expr (pe_bm PySem.F.plainAttrs_list PySem.F.slot_list_append PySem.F.type_list_append mt_append (pv 1) (pa_cons (pe_n NX hr (by decide) (by rfl) (pa_cons (pv 6) (pa_cons (pe_ix ix_list (pv 1) (pe_un un_neg pe_int) (fun _ _ => rfl)) (pa_cons (pv 4) (pa_cons (pv 5) pa_nil))))) pa_nil)))
        (C8.pss_cut (ps_expr (pe_bm PySem.F.plainAttrs_list PySem.F.slot_list_append PySem.F.type_list_append mt_append (pv 3) (pa_cons (pv 4) pa_nil)))
        (pss_one (ps_if (pt_cmpR op_lt (pe_op op_mul pe_int (pe_callB call_len_seq (by rfl) T.len (by decide +kernel) (pa_cons (pv 3) pa_nil))) (pe_callB call_len_seq (by rfl) T.len (by decide +kernel) (pa_cons (pv 0) pa_nil)) (nomark _))
          (pss_one (ps_expr (pe_bm PySem.F.plainAttrs_list PySem.F.slot_list_append PySem.F.type_list_append mt_append (pv 2) (pa_cons (C8.pe_c SQ2 hr (by decide) (by rfl) (pa_cons (pv 0) (pa_cons (pe_ix ix_list (pv 1) (pe_un un_neg pe_int) (fun _ _ => rfl)) pa_nil))) pa_nil)))) pss_nil))))))))
      (pss_one (ps_ret (pe_tup (pa_cons (pv 1) (pa_cons (pv 2) (pa_cons (pv 3) pa_nil))))))))), ?_⟩
    have po0 : Po K H (.ref b) qs := ⟨b, xs, rfl, sx, fx⟩
    refine ⟨(by show 1 ≤ sizeLine; decide), fun t0 ht0 => ⟨(by show 1 ≤ sizeLine; decide), fun a1 ha1 => ?_⟩⟩
    obtain ⟨w0, e0, f0⟩ : ∃ w, xs[0]? = some w ∧ Fr K H w (co qs 0) := by
      obtain ⟨w, q, e1, e2, e3⟩ := fx.get (i := 0) (by omega)
      exact ⟨w, e1, by rw [co_get e2]; exact e3⟩
    have u1 := same_new (o := .tup [.ref o]) ht0
    have u2 := same_new (o := .lst [.ref t0]) ha1
    refine ⟨_, rfl, b, xs, 0, w0, rfl, rfl, Bs.Same.t (u1.trans u2) sx, atI_nat (j := 0) e0, (by show 1 ≤ sizeLine; decide), fun a2 ha2 => ⟨(by show 0 ≤ sizeLine; decide), fun a3 ha3 => ?_⟩⟩
    have u3 := same_new (o := .lst [w0]) ha2
    have u4 := same_new (o := .lst []) ha3
    have n0 : nF qs 0 = co qs 0 := by
      have e : nor (rv qs) 0 = val (co qs 0) := by
        show sm (fun i => (if i = 0 then 1 else 0) * sm (fun j => (if j = 0 then 1 else 0) * rv qs (i + j + 0)) 1) 1 = _
        show (0 : Rat) + (1 : Rat) * ((0 : Rat) + (1 : Rat) * rv qs 0) = _
        show _ = rv qs 0
        grind
      unfold nF
      rw [e, rf_of (R.c.co 0).ok]
    have C0 : Cst K H (upd (upd (upd (upd H t0 (.tup [.ref o])) a1 (.lst [.ref t0])) a2 (.lst [w0])) a3 (.lst [])) qs a1 a2 a3 1 1 0 := by
      refine ⟨u1.trans (u2.trans (u3.trans u4)), ⟨_, u4 _ _ (u3 _ _ upd_same), ?_⟩, ⟨_, u4 _ _ upd_same, ?_⟩, ⟨_, upd_same, .nil⟩, u1.free ha1, (u1.trans u2).free ha2, (u1.trans (u2.trans u3)).free ha3, ?_, ?_, ?_⟩
      · exact .cons ⟨t0, _, rfl, SqT.of (u4 _ _ (u3 _ _ (u2 _ _ upd_same))), .cons ⟨o, rfl, so _⟩ .nil⟩ .nil
      · show FrAll K _ [w0] [nF qs 0]
        rw [n0]
        exact .cons (f0.mono (u1.trans (u2.trans (u3.trans u4)))) .nil
      · exact ne_of_none (o := .lst [.ref t0]) upd_same ha2
      · exact ne_of_none (o := .lst [.ref t0]) (u3 _ _ upd_same) ha3
      · exact ne_of_none (o := .lst [w0]) upd_same ha3
    generalize upd (upd (upd (upd H t0 (.tup [.ref o])) a1 (.lst [.ref t0])) a2 (.lst [w0])) a3 (.lst []) = H1 at *
    clear ha1 ha2 ha3 u2 u3 u4
    refine ⟨fun σ H2 => ∃ (J : Nat) (v4 v5 v6 : Option V), Cst K H H2 qs a1 a2 a3 (J + 1) (cnt qs J) J ∧ Clm qs J ∧ σ = [some (V.ref b), some (V.ref a1), some (V.ref a2), some (V.ref a3), v4, v5, v6], ?_, ?_⟩
    · refine ⟨fun m σ H2 => ∃ (j : Nat) (v4 v5 v6 : Option V), m = 9 - j ∧ j ≤ 4 ∧ (∀ i, i < j → 0 < nor (rv qs) i ∧ 2 * i + 1 < qs.length) ∧ Cst K H H2 qs a1 a2 a3 (j + 1) (cnt qs j) j ∧ σ = [some (V.ref b), some (V.ref a1), some (V.ref a2), some (V.ref a3), v4, v5, v6], ⟨9, 0, none, none, none, rfl, by omega, fun i hi => absurd hi (by omega), ?_, rfl⟩, ?_⟩
      · rw [show cnt qs 0 = 1 from if_pos (by omega)]
        exact C0
      rintro m σ H2 ⟨j, v4, v5, v6, rfl, j4, hp, C, rfl⟩
      obtain ⟨ss, g2, fs⟩ := C.g2
      obtain ⟨ls, g3, fl⟩ := C.g3
      have ll := fl.len
      rw [List.length_map, List.length_range] at ll
      have lss := fs.len
      rw [List.length_map, List.length_range] at lss
      have cp : 1 ≤ cnt qs j ∧ (cnt qs j = j + 1 ∨ cnt qs j = j) ∧ (cnt qs j = j + 1 ↔ 2 * j < qs.length) := by
        unfold cnt
        split
        · omega
        · refine ⟨?_, .inr rfl, by omega⟩
          rcases Nat.eq_zero_or_pos j with e | e <;> omega
      obtain ⟨c1, c2, c3⟩ := cp
      obtain ⟨w1, q1, e1, e2, f1⟩ := fs.get (i := cnt qs j - 1) (by rw [List.length_map, List.length_range]; omega)
      rw [rng_get (by omega)] at e2
      cases e2
      have sne : ss ≠ [] := fun z => by
        rw [z] at lss
        have : (0 : Nat) = cnt qs j := lss
        omega
      obtain ⟨aw, rfl, sw⟩ := id f1
      refine ⟨_, rfl, _, rfl, a2, ss, _, .ref aw, rfl, rfl, SqL.of g2, atI_neg1 sne (by rw [lss]; exact e1), aw, _, 0, _, rfl, rfl, sw, atI_nat (j := 0) rfl, _, _, rfl, rfl, _, rfl, ?_⟩
      have fin : Clm qs j → ∃ (J : Nat) (v4' v5' v6' : Option V), Cst K H H2 qs a1 a2 a3 (J + 1) (cnt qs J) J ∧ Clm qs J ∧ [some (V.ref b), some (V.ref a1), some (V.ref a2), some (V.ref a3), v4, v5, v6] = [some (V.ref b), some (V.ref a1), some (V.ref a2), some (V.ref a3), v4', v5', v6'] := fun D => ⟨j, v4, v5, v6, C, D, rfl⟩
      refine ite2 (fun cc1 => ?_) (fun cc1 => fin ⟨fun i hi => (hp i hi).1, fun i hi => (hp i hi).2, fun h z => ?_⟩)
      · refine ⟨_, rfl, a3, ls, rfl, .inl (SqL.of g3), _, _, rfl, rfl, .inl ⟨by decide, by decide⟩, _, _, rfl, rfl, _, rfl, b, xs, rfl, .inr (Bs.Same.t C.same sx), _, _, rfl, rfl, _, rfl, ?_⟩
        refine ite2 (fun cc2 => ?_) (fun cc2 => fin ⟨fun i hi => (hp i hi).1, fun i hi => (hp i hi).2, fun h => absurd (decide_eq_true (by omega)) cc2⟩)
        have b2 := of_decide_eq_true cc2
        have bj : 2 * j + 1 < qs.length := by omega
        have j3 : j ≤ 3 := by omega
        have ec : cnt qs j = j + 1 := c3.mpr (by omega)
        have nj : 0 < nor (rv qs) j := by
          have := of_decide_eq_true cc1
          rw [ec, Nat.add_sub_cancel] at this
          exact rf_top_pos.mp this
        have np : ∀ i, i ≤ j → 0 < nor (rv qs) i := fun i hi => by
          rcases Nat.lt_or_ge i j with z | z
          · exact (hp i z).1
          · rw [Nat.le_antisymm hi z]
            exact nj
        rw [ec] at C fs lss
        rw [ec, Nat.add_sub_cancel] at e1 sw f1
        obtain ⟨dd, k1, k2, k3, k4, k5⟩ := rg_dm R j3 fun i hi => (hp i hi).1
        have bdM : Bd 256 30 := Bd.of (by decide) (N := 8) (by decide) (by decide) (by decide)
        clear fin cc1 cc2 c1 c2 c3
        have hp' : ∀ i, i < j + 1 → 0 < nor (rv qs) i ∧ 2 * i + 1 < qs.length := fun i hi => by
          rcases Nat.lt_or_ge i j with z | z
          · exact hp i z
          · rw [show i = j by omega]
            exact ⟨nj, bj⟩
        refine ⟨fun σ' H' => ∃ (v4 v5 v6 : Option V), Cst K H H' qs a1 a2 a3 (j + 1 + 1) (cnt qs (j + 1)) (j + 1) ∧ σ' = [some (V.ref b), some (V.ref a1), some (V.ref a2), some (V.ref a3), v4, v5, v6], fun σ' H' ⟨v4, v5, v6, C', e⟩ => ⟨9 - (j + 1), by omega, j + 1, v4, v5, v6, rfl, by omega, hp', C', e⟩, ?_⟩
        -- level
        refine ⟨fun σ H3 => ∃ lv, Cst K H H3 qs a1 a2 a3 (j + 1) (j + 1) j ∧ Fr K H3 lv (lF qs j) ∧ σ = [some (V.ref b), some (V.ref a1), some (V.ref a2), some (V.ref a3), some lv, v5, v6], ?_, ?_⟩
        · obtain ⟨ps, g1, fp⟩ := C.g1
          have lp := fp.len
          rw [List.length_map, List.length_range] at lp
          obtain ⟨w2, q2, e3, e4, f2⟩ := fp.get (i := j) (by rw [List.length_map, List.length_range]; omega)
          rw [rng_get (by omega)] at e4
          cases e4
          have pne : ps ≠ [] := fun z => by
            rw [z] at lp
            cases lp
          refine ⟨_, rfl, _, rfl, _, rfl, a1, ps, _, w2, rfl, rfl, SqL.of g1, atI_neg1 pne (by rw [lp]; exact e3), .ref b, w2, rg (rv qs) j, qs, 1, dd, 256, aB j, 30, rfl, po0.mono C.same, f2, k1, R.c, k2, bdM, k3, k4, by rw [rg_len]; omega, fun H3 u s3 fu => ?_⟩
          rw [square_is k1 R 1, sq2_rg] at fu
          refine ⟨_, rfl, _, rfl, a2, ss, _, .ref aw, rfl, rfl, SqL.of (s3 _ _ g2), atI_neg1 sne (by rw [lss]; exact e1), u, .ref aw, _, _, rfl, fu, f1.mono s3, ⟨gsq_dm R j3 (fun i hi => (hp i hi).1) 1, gsq_dm R j3 (fun i hi => (hp i hi).1) 0, rf_top_pos.mpr nj⟩, fun p hp => ?_⟩
          have s4 := same_new (o := fr (divL (rf (gsq (rv qs) (pol (rv qs) j) (pol (rv qs) j) (j + 1) 1)) (rf (gsq (rv qs) (pol (rv qs) j) (pol (rv qs) j) (j + 1) 0)))) hp
          refine ⟨.ref p, C.mono (s3.trans s4), ?_, rfl⟩
          have e : lF qs j = divL (rf (gsq (rv qs) (pol (rv qs) j) (pol (rv qs) j) (j + 1) 1)) (rf (gsq (rv qs) (pol (rv qs) j) (pol (rv qs) j) (j + 1) 0)) := (divL_rf nj).symm
          rw [e]
          exact Fr.of upd_same
        clear C fs lss g2 g3 fl ll f1 sw e1 sne
        rintro σ H3 ⟨lv, C, fv, rfl⟩
        -- step
        refine ⟨fun σ H4 => ∃ st, Cst K H H4 qs a1 a2 a3 (j + 1) (j + 1) j ∧ Fr K H4 lv (lF qs j) ∧ Fr K H4 st (sF qs j) ∧ σ = [some (V.ref b), some (V.ref a1), some (V.ref a2), some (V.ref a3), some lv, some st, v6], ?_, ?_⟩
        · obtain ⟨ss, g2, fs⟩ := C.g2
          obtain ⟨ls, g3, fl⟩ := C.g3
          have ll := fl.len
          rw [List.length_map, List.length_range] at ll
          have lss := fs.len
          rw [List.length_map, List.length_range] at lss
          refine ⟨_, rfl, !ls.isEmpty, .inl ⟨ls, SqL.of g3, rfl⟩, ?_⟩
          cases j with
          | zero =>
            have : ls = [] := List.eq_nil_of_length_eq_zero ll
            rw [this]
            refine iteF ⟨_, C, fv, ?_, rfl⟩
            show Fr K H3 (.ref z) (rf (stp (rv qs) 0))
            rw [show stp (rv qs) 0 = 0 from rfl, rf_zero]
            exact ⟨z, rfl, sz H3⟩
          | succ k =>
            have : (!ls.isEmpty) = true := by
              cases ls with
              | nil => cases ll
              | cons _ _ => rfl
            rw [this]
            refine iteT ?_
            obtain ⟨w1, q1, e1, e2, f1⟩ := fs.get (i := k + 1) (by rw [List.length_map, List.length_range]; omega)
            rw [rng_get (by omega)] at e2
            cases e2
            obtain ⟨w2, q2, e3, e4, f2⟩ := fs.get (i := k) (by rw [List.length_map, List.length_range]; omega)
            rw [rng_get (by omega)] at e4
            cases e4
            have sne : ss ≠ [] := fun z => by
              rw [z] at lss
              cases lss
            refine ⟨_, rfl, _, rfl, a2, ss, _, w1, rfl, rfl, SqL.of g2, atI_neg1 sne (by rw [lss]; exact e1), _, rfl, _, rfl, a2, ss, _, w2, rfl, rfl, SqL.of g2, atI_neg2 (n := k) lss e3, w1, w2, _, _, rfl, f1, f2, ⟨gsq_dm R j3 (fun i hi => (hp i hi).1) 0, gsq_dm R (j := k) (by omega) (fun i hi => (hp i (by omega)).1) 0, rf_top_pos.mpr (np k (by omega))⟩, fun p hp => ?_⟩
            have s4 := same_new (o := fr (divL (nF qs (k + 1)) (nF qs k))) hp
            refine ⟨.ref p, C.mono s4, fv.mono s4, ?_, rfl⟩
            have e : sF qs (k + 1) = divL (nF qs (k + 1)) (nF qs k) := (divL_rf (np k (by omega))).symm
            rw [e]
            exact Fr.of upd_same
        clear C fv
        rintro σ H4 ⟨st, C, fv, ft, rfl⟩
        -- before
        refine ⟨fun σ H5 => ∃ bf, Cst K H H5 qs a1 a2 a3 (j + 1) (j + 1) j ∧ Fr K H5 lv (lF qs j) ∧ Fr K H5 st (sF qs j) ∧ Po K H5 bf (rgB (rv qs) j) ∧ σ = [some (V.ref b), some (V.ref a1), some (V.ref a2), some (V.ref a3), some lv, some st, some bf], ?_, ?_⟩
        · obtain ⟨ps, g1, fp⟩ := C.g1
          obtain ⟨ls, g3, fl⟩ := C.g3
          have ll := fl.len
          rw [List.length_map, List.length_range] at ll
          have lp := fp.len
          rw [List.length_map, List.length_range] at lp
          refine ⟨_, rfl, !ls.isEmpty, .inl ⟨ls, SqL.of g3, rfl⟩, ?_⟩
          cases j with
          | zero =>
            have : ls = [] := List.eq_nil_of_length_eq_zero ll
            rw [this]
            refine iteF ⟨(by show 0 ≤ sizeLine; decide), fun p hp => ?_⟩
            have s5 := same_new (o := .tup []) hp
            exact ⟨.ref p, C.mono s5, fv.mono s5, ft.mono s5, ⟨p, [], rfl, SqT.of upd_same, .nil⟩, rfl⟩
          | succ k =>
            have : (!ls.isEmpty) = true := by
              cases ls with
              | nil => cases ll
              | cons _ _ => rfl
            rw [this]
            refine iteT ?_
            obtain ⟨w2, q2, e3, e4, f2⟩ := fp.get (i := k) (by rw [List.length_map, List.length_range]; omega)
            rw [rng_get (by omega)] at e4
            cases e4
            exact ⟨_, rfl, _, rfl, a1, ps, _, w2, rfl, rfl, SqL.of g1, atI_neg2 (n := k) lp e3, w2, C, fv, ft, f2, rfl⟩
        clear C fv ft
        rintro σ H5 ⟨bf, C, fv, ft, fb, rfl⟩
        -- the next rung
        refine ⟨fun σ H6 => Cst K H H6 qs a1 a2 a3 (j + 2) (j + 1) j ∧ Fr K H6 lv (lF qs j) ∧ σ = [some (V.ref b), some (V.ref a1), some (V.ref a2), some (V.ref a3), some lv, some st, some bf], ?_, ?_⟩
        · obtain ⟨ps, g1, fp⟩ := C.g1
          have lp := fp.len
          rw [List.length_map, List.length_range] at lp
          obtain ⟨w2, q2, e3, e4, f2⟩ := fp.get (i := j) (by rw [List.length_map, List.length_range]; omega)
          rw [rng_get (by omega)] at e4
          cases e4
          have pne : ps ≠ [] := fun z => by
            rw [z] at lp
            cases lp
          refine ⟨_, rfl, .inl ⟨rfl, _, SqL.of g1⟩, _, rfl, _, rfl, _, rfl, a1, ps, _, w2, rfl, rfl, SqL.of g1, atI_neg1 pne (by rw [lp]; exact e3), _, rfl, _, rfl, bf, w2, lv, st, _, _, _, _, rfl, fb, f2, fv, ft, nx_ok R j3 np, (fun z => by have := congrArg List.length z; rw [rg_len] at this; cases this), by rw [rgB_len]; omega, by rw [rg_len]; omega, fun H6 p s6 fp6 => ?_⟩
          rw [show nxt (rgB (rv qs) j) (rg (rv qs) j) (lF qs j) (sF qs j) = rg (rv qs) (j + 1) from nxt_rg _ _] at fp6
          have g6 := s6 _ _ g1
          refine ⟨a1, ps, _, rfl, rfl, g6, small1000 (by omega), ?_⟩
          exact ⟨(C.mono s6).p1 g6 fp6 (fp.mono s6), (fv.mono s6).off g6, rfl⟩
        clear C fv ft fb
        rintro σ H6 ⟨C, fv, rfl⟩
        refine ⟨fun σ H7 => Cst K H H7 qs a1 a2 a3 (j + 2) (j + 1) (j + 1) ∧ σ = [some (V.ref b), some (V.ref a1), some (V.ref a2), some (V.ref a3), some lv, some st, some bf], ?_, ?_⟩
        · obtain ⟨ls, g3, fl⟩ := C.g3
          have ll := fl.len
          rw [List.length_map, List.length_range] at ll
          exact ⟨_, rfl, .inl ⟨rfl, _, SqL.of g3⟩, _, rfl, a3, ls, _, rfl, rfl, g3, small1000 (by omega), C.p3 g3 fv fl, rfl⟩
        clear C fv
        rintro σ H7 ⟨C, rfl⟩
        obtain ⟨ls, g3, fl⟩ := C.g3
        have ll := fl.len
        rw [List.length_map, List.length_range] at ll
        refine ⟨_, rfl, a3, ls, rfl, .inl (SqL.of g3), _, _, rfl, rfl, .inl ⟨by decide, by decide⟩, _, rfl, b, xs, rfl, .inr (Bs.Same.t C.same sx), _, _, rfl, rfl, _, rfl, ?_⟩
        refine ite2 (fun cc => ?_) (fun cc => ?_)
        · have b3 := of_decide_eq_true cc
          have bj1 : 2 * (j + 1) < qs.length := by omega
          obtain ⟨dd', k1', k2', k3', k4', k5'⟩ := rg_dm R (j := j + 1) (by omega) fun i hi => (hp' i hi).1
          obtain ⟨ps, g1, fp⟩ := C.g1
          have lp := fp.len
          rw [List.length_map, List.length_range] at lp
          obtain ⟨w2, q2, e3, e4, f2⟩ := fp.get (i := j + 1) (by rw [List.length_map, List.length_range]; omega)
          rw [rng_get (by omega)] at e4
          cases e4
          have pne : ps ≠ [] := fun z => by
            rw [z] at lp
            cases lp
          obtain ⟨ss, g2, fs⟩ := C.g2
          have lss := fs.len
          rw [List.length_map, List.length_range] at lss
          refine ⟨_, rfl, .inl ⟨rfl, _, SqL.of g2⟩, _, rfl, _, rfl, _, rfl, a1, ps, _, w2, rfl, rfl, SqL.of g1, atI_neg1 pne (by rw [lp]; exact e3), .ref b, w2, rg (rv qs) (j + 1), qs, 0, dd', 256, aB (j + 1), 30, rfl, po0.mono C.same, f2, k1', R.c, k2', bdM, k3', k4', by rw [rg_len]; omega, fun H8 u s8 fu => ?_⟩
          rw [square_is k1' R 0, sq2_rg] at fu
          have g8 := s8 _ _ g2
          refine ⟨a2, ss, _, rfl, rfl, g8, small1000 (by omega), ?_⟩
          refine ⟨_, _, _, ?_, rfl⟩
          rw [show cnt qs (j + 1) = j + 1 + 1 from if_pos bj1]
          exact (C.mono s8).p2 g8 fu (fs.mono s8)
        · have b3 : ¬ 2 * (j + 1) < qs.length := fun z => cc (decide_eq_true (by omega))
          refine ⟨_, _, _, ?_, rfl⟩
          rw [show cnt qs (j + 1) = j + 1 from if_neg b3]
          exact C
      · -- the last sum is not above nought
        have ec : cnt qs j = j + 1 := c3.mpr (by omega)
        refine cc1 (decide_eq_true ?_)
        rw [ec, Nat.add_sub_cancel]
        exact rf_top_pos.mpr z
    · rintro σ H2 ⟨J, v4, v5, v6, C, D, rfl⟩
      refine ⟨_, rfl, _, rfl, _, rfl, (by show 3 ≤ sizeLine; decide), fun p hp => ?_⟩
      have s3 := same_new (o := .tup [V.ref a1, V.ref a2, V.ref a3]) hp
      exact kk _ p a1 a2 a3 J (C.same.trans s3) (SqT.of upd_same) (C.mono s3) D
end
end Rs


set_option Elab.async false
set_option linter.all false
set_option maxRecDepth 100000
set_option maxHeartbeats 1000000
namespace Rs
open PySem L2 Bs Fq LamX RZ
theorem walk_zipL {K : PySem.W.Frag} {a b : Addr} {xs ys : List V} {n : Nat} (hn : n = min xs.length ys.length) : Walk (Itz K a b) n (fun H => SqL K H a xs ∧ SqL K H b ys) (YPair (fun i => xs[i]?) (fun i => ys[i]?)) := by
  rw [hn]
  refine ⟨fun i _ hi q => ?_, fun _ q => ⟨xs, ys, q.1, q.2, by omega⟩, fun i H v H' _ q y => ?_⟩
  · have h1 : i < xs.length := by omega
    have h2 : i < ys.length := by omega
    exact ⟨xs, ys, xs[i], ys[i], q.1, q.2, List.getElem?_eq_getElem h1, List.getElem?_eq_getElem h2⟩
  · obtain ⟨T, x, z, e1, e2, e3, e4, e5⟩ := y
    exact ⟨T, x, z, e1, e2, e3, e4 xs q.1, e5 ys q.2⟩
theorem sqL_ne {K : PySem.W.Frag} {H : Hp} {a D : Addr} {xs : List V} {o : HO} (n : a ≠ D) (s : SqL K H a xs) : SqL K (upd H D o) a xs := by
  rcases s with (s | ⟨o', s⟩) | s
  · exact .inl (.inl ((upd_ne n).trans s))
  · exact .inl (.inr ⟨o', (upd_ne n).trans s⟩)
  · exact .inr s
/-! ### the first place that a polynomial misses -/
def miss (qs w : List F) (k : Nat) : Bool := decide (rf (ws qs k w) ≠ (0, 1))
def fRest (qs w : List F) : Option Nat := (List.range (qs.length + 1 - w.length)).find? (miss qs w)
theorem find_first {p : Nat → Bool} : ∀ {n k : Nat}, k < n → (∀ i, i < k → p i = false) → p k = true → (List.range n).find? p = some k := by
  intro n k hk h hp
  have e : List.range n = List.range k ++ (List.range (n - k)).map (k + ·) := by
    rw [← List.range_add]
    congr 1
    omega
  rw [e, List.find?_append, List.find?_eq_none.mpr (fun i hi => by rw [h i (List.mem_range.mp hi)]; decide)]
  have e2 : n - k = (n - k - 1) + 1 := by omega
  rw [e2, List.range_succ_eq_map, List.map_cons, Nat.add_zero, List.find?_cons, hp]
  rfl
theorem find_none {p : Nat → Bool} {n : Nat} (h : ∀ i, i < n → p i = false) : (List.range n).find? p = none :=
  List.find?_eq_none.mpr fun i hi => by rw [h i (List.mem_range.mp hi)]; decide
def optV : Option Nat → V
  | none => .non
  | some k => .int k
abbrev sFirst : Stmt := top 44
abbrev sPaperOf : Stmt := top 45
def spFirst (K : PySem.W.Frag) : Sp := fun vs H Q _ => ∃ (x y : V) (qs w : List F) (D : Int) (a : Nat), vs = [x, y, .int 0] ∧ Po K H x qs ∧ Po K H y w ∧ RowOk qs ∧ Ca D a w ∧ Bd D a ∧ Bd (D * 256) (a + 60) ∧ w.length ≤ qs.length ∧ ∀ H', Same H H' → Q (optV (fRest qs w)) H'
/-! ### papers -/
def last (qs : List F) (J : Nat) : Rat := nor (rv qs) (cnt qs J - 1)
def dLad (qs : List F) (J : Nat) : PyData := .tuple [dF (co qs 0), dP (lvlsC qs J), dP (stpsC qs J)]
def papD (qs : List F) (J : Nat) : PyData :=
  if last qs J < 0 then .tuple [.str "square", dP (rg (rv qs) J)]
  else if last qs J = 0 then match fRest qs (rg (rv qs) J) with
    | some k => .tuple [.str "rest", dP (rg (rv qs) J), .int k]
    | none => .tuple [.str "ladder", dLad qs J]
  else .tuple [.str "ladder", dLad qs J]
def spPaperOf (K : PySem.W.Frag) : Sp := fun vs H Q _ => ∃ (x : V) (qs : List F), vs = [x] ∧ Po K H x qs ∧ RowOk qs ∧ ∀ H' v J, Same H H' → Clm qs J → Dp K H' v (papD qs J) → Q v H'
theorem clm_cnt {qs : List F} {J : Nat} (R : RowOk qs) (C : Clm qs J) : 1 ≤ cnt qs J ∧ J ≤ 4 ∧ (cnt qs J = J + 1 ∨ (cnt qs J = J ∧ 1 ≤ J)) := by
  have r1 := R.pos
  have r8 := R.l
  have j4 : J ≤ 4 := by
    rcases Nat.eq_zero_or_pos J with e | e
    · omega
    · have := C.bnd (J - 1) (by omega)
      omega
  unfold cnt
  split
  · omega
  · have : 1 ≤ J := by
      rcases Nat.eq_zero_or_pos J with e | e <;> omega
    omega
/-- the last sum is not above nought: it is the one of the last rung -/
theorem clm_last {qs : List F} {J : Nat} (R : RowOk qs) (C : Clm qs J) (h : ¬ 0 < last qs J) : cnt qs J = J + 1 ∧ J ≤ 3 ∧ J + 1 ≤ qs.length ∧ last qs J = nor (rv qs) J := by
  obtain ⟨c1, c2, c3⟩ := clm_cnt R C
  have r8 := R.l
  have h' : ¬ 0 < nor (rv qs) (cnt qs J - 1) := h
  rcases c3 with e | ⟨e, e1⟩
  · have : 2 * J < qs.length := by
      unfold cnt at e
      split at e
      · assumption
      · omega
    refine ⟨e, by omega, by omega, ?_⟩
    unfold last
    rw [e, Nat.add_sub_cancel]
  · rw [e] at h'
    exact absurd (C.pos (J - 1) (by omega)) h'
section
variable {P : Program} {w : World} {K : PySem.W.Frag} {mg : Str → Option Value} {base : Heap} {f : Addr} {fd : FuncData}
theorem nox_ex {X : Cx} {body : List Stmt} {D : Ends} {σ : L2.St} {H : Hp} (h : ∃ t, PSs X.nox body t ∧ t D σ H) : ∃ t, PSs X body t ∧ t D σ H := by
  obtain ⟨t, a, b⟩ := h
  exact ⟨t, a.nox, b⟩
theorem scFirst : FnScope ["row", "poly", "shift", "number"] ["row", "poly", "shift"] (defScope sFirst) := ⟨rfl, rfl, rfl, by decide +kernel, rfl, by decide +kernel, by decide +kernel⟩
theorem ok_first (F : FunD K "first_rest" "first_rest" (defArgs sFirst) (defBody sFirst) (defScope sFirst) [.int 0] [] f fd) (T : Blt mg) (Z : Nou K mg) (RS : Cal P w K mg base 4 "row_sum" (spRowSum K)) : FnOk P w K mg base CX0 5 f fd ["row", "poly", "shift"] (spFirst K) := by
  refine F.ok scFirst (fun vs H Q E h => ?_) (fun cdv A outer s H vs Q E hr h => ?_)
  · obtain ⟨x, y, qs, w, _, _, rfl, _⟩ := h
    rfl
  · obtain ⟨x, y, qs, w, D, a, rfl, px, py, R, cw, bd1, bd2, lw, kk⟩ := h
    obtain ⟨b, xs, rfl, sx, fx⟩ := id px
    obtain ⟨c, ys, rfl, sy, fy⟩ := id py
    obtain ⟨z, mz, sz⟩ := Z.ex
    have lx := fx.len
    have ly := fy.len
    have r8 := R.l
    refine nox_ex ⟨_, pss_cons (ps_for PassesOwn.never rfl (pi_range1 rfl T.range (pa_cons (pe_op op_add (pe_op op_sub (pe_op op_sub (pe_callB call_len_seq (by rfl) T.len (by decide +kernel) (pa_cons (pv 0) pa_nil)) (pv 2)) (pe_callB call_len_seq (by rfl) T.len (by decide +kernel) (pa_cons (pv 1) pa_nil))) pe_int) pa_nil)) (pg_name (i := 3) scFirst.nd rfl (.inl rfl))
        (pss_one (ps_if (pt_cmpR (op_neD hr.units) (pe_n RS hr (by decide) (by rfl) (pa_cons (pv 0) (pa_cons (pv 1) (pa_cons (pe_op op_add (pv 2) (pv 3)) pa_nil)))) (pe_glob (v := .ref z) (by rfl) mz rfl) (nomark _)) (pss_one (ps_ret (pv 3))) pss_nil)))
      (pss_one (ps_ret pe_non)), ?_⟩
    refine ⟨_, rfl, b, xs, rfl, .inr sx, _, rfl, _, _, rfl, rfl, _, rfl, c, ys, rfl, .inr sy, _, _, rfl, rfl, _, _, rfl, rfl, _, rfl, ?_⟩
    have en : ((xs.length : Int) - 0 - (ys.length : Int) + 1).toNat = qs.length + 1 - w.length := by omega
    refine ⟨by omega, by omega, for_range (n := ((xs.length : Int) - 0 - (ys.length : Int) + 1).toNat) (fun i σ H1 => Same H H1 ∧ (∀ k, k < i → miss qs w k = false) ∧ ∃ v3, σ = [some (V.ref b), some (V.ref c), some (V.int 0), v3])
      ⟨fun _ _ z => z, fun k hk => absurd hk (by omega), none, rfl⟩ ?_ ?_⟩
    · rintro i σ H1 hi ⟨s1, hm, v3, rfl⟩
      rw [en] at hi
      refine ⟨_, rfl, _, rfl, _, rfl, _, rfl, _, _, rfl, rfl, .ref b, .ref c, w, qs, i, D, 256, a, 30, (by show [V.ref b, V.ref c, V.int (0 + (0 + (i : Int)))] = _; rw [Int.zero_add, Int.zero_add]), px.mono s1, py.mono s1, cw, R.c, bd1, Bd.of (by decide) (N := 8) (by decide) (by decide) (by decide), bd2, by omega, fun H2 u s2 fu => ?_⟩
      rw [sumBy_is cw R.c i] at fu
      refine ⟨dF (rf (ws qs i w)), dF (0, 1), fu.dp, (show Fr K H2 (.ref z) (0, 1) from ⟨z, rfl, sz H2⟩).dp, rfl, rfl, _, rfl, ?_⟩
      rw [eqv_nought]
      by_cases e : rf (ws qs i w) = (0, 1)
      · rw [decide_eq_true e]
        refine iteF ⟨s1.trans s2, fun k hk => ?_, _, rfl⟩
        rcases Nat.lt_or_ge k i with z | z
        · exact hm k z
        · rw [show k = i by omega]
          exact decide_eq_false fun n => n e
      · rw [decide_eq_false e]
        refine iteT ⟨_, rfl, ?_⟩
        have ef : fRest qs w = some i := find_first hi hm (decide_eq_true e)
        have k2 := kk H2 (s1.trans s2)
        rw [ef] at k2
        rw [Int.zero_add]
        exact k2
    · rintro σ H1 ⟨s1, hm, v3, rfl⟩
      rw [en] at hm
      have ef : fRest qs w = none := find_none hm
      have k2 := kk H1 s1
      rw [ef] at k2
      exact k2
theorem scPaperOf : FnScope ["row", "polys", "sums", "levels", "number", "steps", "before", "one"] ["row"] (defScope sPaperOf) := ⟨rfl, rfl, rfl, by decide +kernel, rfl, by decide +kernel, by decide +kernel⟩
theorem ok_paperOf (F : Fun K "paper_of" "paper_of" sPaperOf f fd) (T : Blt mg) (Z : Nou K mg) (zp : mg "zip" = none) (CL : Cal P w K mg base 6 "climb" (spClimb K)) (FR : C8.Cal P w K mg base 5 "first_rest" (spFirst K) [.int 0]) (DV : Cal P w K mg base 2 "divided" (spOp K divL domP)) : FnOk P w K mg base CX0 7 f fd ["row"] (spPaperOf K) := by
  refine F.ok scPaperOf (fun vs H Q E h => ?_) (fun cdv A outer s H vs Q E hr h => ?_)
  · obtain ⟨x, qs, rfl, _⟩ := h
    rfl
  · obtain ⟨x, qs, rfl, px, R, kk⟩ := h
    obtain ⟨b, xs, rfl, sx, fx⟩ := id px
    obtain ⟨z, mz, sz⟩ := Z.ex
    refine ⟨_, C8.pss_cut (ps_asg (pe_n CL hr (by decide) (by rfl) (pa_cons (pv 0) pa_nil)) (pg_tup rfl (pgs_cons (pg_name (i := 1) scPaperOf.nd rfl (.inl rfl)) (pgs_cons (pg_name (i := 2) scPaperOf.nd rfl (.inl rfl)) (pgs_cons (pg_name (i := 3) scPaperOf.nd rfl (.inl rfl)) pgs_nil)))))
      (C8.pss_cut (ps_if (pt_cmpR op_lt (pe_ix ix_tup (pe_ix ix_list (pv 2) (pe_un un_neg pe_int) (fun _ _ => rfl)) pe_int (fun _ _ => rfl)) pe_int (nomark _)) (pss_one (ps_ret (pe_tup (pa_cons pe_str (pa_cons (pe_ix ix_list (pv 1) (pe_un un_neg pe_int) (fun _ _ => rfl)) pa_nil))))) pss_nil)
      (C8.pss_cut (ps_if (pt_cmpR (op_eqD hr.units) (pe_ix ix_list (pv 2) (pe_un un_neg pe_int) (fun _ _ => rfl)) (pe_glob (v := .ref z) (by rfl) mz rfl) (nomark _))
          (pss_cons (ps_set (i := 4) scPaperOf.nd rfl (Or.inl rfl) (C8.pe_c FR hr (by decide) (by rfl) (pa_cons (pv 0) (pa_cons (pe_ix ix_list (pv 1) (pe_un un_neg pe_int) (fun _ _ => rfl)) pa_nil))))
          (pss_one (ps_if (pt_cmpR op_notN (pv 4) pe_non (nomark _)) (pss_one (ps_ret (pe_tup (pa_cons pe_str (pa_cons (pe_ix ix_list (pv 1) (pe_un un_neg pe_int) (fun _ _ => rfl)) (pa_cons (pv 4) pa_nil)))))) pss_nil))) pss_nil)
      (C8.pss_cut (ps_setLc (i := 5) (own := [("before", 6), ("one", 7)]) (g := gTup K 2 (gCons (gName 6) (gCons (gName 7) gNil))) (tt := tYes) (by rfl) scPaperOf.nd rfl rfl (sw_true rfl rfl rfl (by decide +kernel)) (pi_zipA (by rfl) zp (pa_cons (pv 2) (pa_cons (pe_slice sl_list (pv 2) (po_some pe_int) po_none) pa_nil))) (blkOk_by (N := ["row", "polys", "sums", "levels", "number", "steps", "before", "one"]) (sc := defScope sPaperOf) (by decide +kernel))
          (fun _ _ _ _ _ => pg_tup rfl (pgs_cons (pg_name (i := 6) scPaperOf.nd rfl (Or.inl rfl)) (pgs_cons (pg_name (i := 7) scPaperOf.nd rfl (Or.inl rfl)) pgs_nil))) (fun _ _ _ _ _ => pts_nil)
          (fun _ _ _ _ _ => pe_n DV hr (by decide) (by rfl) (pa_cons (pv 7) (pa_cons (pv 6) pa_nil))))
      (pss_one (ps_ret (pe_tup (pa_cons pe_str (pa_cons (pe_tup (pa_cons (pe_ix ix_tup (pv 0) pe_int (fun _ _ => rfl)) (pa_cons (pe_callTy call_tuple_of (by rfl) T.tuple (by decide +kernel) (pa_cons (pv 3) pa_nil)) (pa_cons (pe_callTy call_tuple_of (by rfl) T.tuple (by decide +kernel) (pa_cons (pv 5) pa_nil)) pa_nil)))) pa_nil)))))))), ?_⟩
    refine ⟨fun σ H1 => ∃ (a1 a2 a3 : Addr) (J : Nat), Cst K H H1 qs a1 a2 a3 (J + 1) (cnt qs J) J ∧ Clm qs J ∧ σ = [some (V.ref b), some (V.ref a1), some (V.ref a2), some (V.ref a3), none, none, none, none], ?_, ?_⟩
    · refine ⟨_, rfl, .ref b, qs, rfl, px, R, fun H1 a a1 a2 a3 J s1 st C D => ⟨a, _, rfl, st, rfl, _, _, rfl, _, _, rfl, _, _, rfl, rfl, ?_⟩⟩
      exact ⟨a1, a2, a3, J, C, D, rfl⟩
    rintro σ H1 ⟨a1, a2, a3, J, C, D, rfl⟩
    obtain ⟨c1, c2, c3⟩ := clm_cnt R D
    -- below nought
    refine ⟨fun σ H2 => ¬ last qs J < 0 ∧ Cst K H H2 qs a1 a2 a3 (J + 1) (cnt qs J) J ∧ σ = [some (V.ref b), some (V.ref a1), some (V.ref a2), some (V.ref a3), none, none, none, none], ?_, ?_⟩
    · obtain ⟨ss, g2, fs⟩ := C.g2
      have lss := fs.len
      rw [List.length_map, List.length_range] at lss
      obtain ⟨w1, q1, e1, e2, f1⟩ := fs.get (i := cnt qs J - 1) (by rw [List.length_map, List.length_range]; omega)
      rw [rng_get (by omega)] at e2
      cases e2
      have sne : ss ≠ [] := fun z => by
        rw [z] at lss
        have : (0 : Nat) = cnt qs J := lss
        omega
      obtain ⟨aw, rfl, sw⟩ := id f1
      refine ⟨_, rfl, _, rfl, a2, ss, _, .ref aw, rfl, rfl, SqL.of g2, atI_neg1 sne (by rw [lss]; exact e1), aw, _, 0, _, rfl, rfl, sw, atI_nat (j := 0) rfl, _, _, rfl, rfl, _, rfl, ?_⟩
      refine ite2 (fun cc => ?_) (fun cc => ⟨fun z => cc (decide_eq_true (rf_top_neg.mpr z)), C, rfl⟩)
      have neg : last qs J < 0 := rf_top_neg.mp (of_decide_eq_true cc)
      obtain ⟨ps, g1, fp⟩ := C.g1
      have lp := fp.len
      rw [List.length_map, List.length_range] at lp
      obtain ⟨w2, q2, e3, e4, f2⟩ := fp.get (i := J) (by rw [List.length_map, List.length_range]; omega)
      rw [rng_get (by omega)] at e4
      cases e4
      have pne : ps ≠ [] := fun z => by
        rw [z] at lp
        cases lp
      refine ⟨_, rfl, _, rfl, a1, ps, _, w2, rfl, rfl, SqL.of g1, atI_neg1 pne (by rw [lp]; exact e3), (by show 2 ≤ sizeLine; decide), fun p hp => ?_⟩
      have s3 := same_new (o := .tup [V.str "square", w2]) hp
      refine kk _ _ J (C.same.trans s3) D ?_
      unfold papD
      rw [if_pos neg]
      exact .tup (SqT.of upd_same) (.cons (.str _) (.cons (f2.mono s3).dp .nil))
    clear C
    rintro σ H2 ⟨nneg, C, rfl⟩
    -- nought
    refine ⟨fun σ H3 => papD qs J = .tuple [.str "ladder", dLad qs J] ∧ Cst K H H3 qs a1 a2 a3 (J + 1) (cnt qs J) J ∧ ∃ v4, σ = [some (V.ref b), some (V.ref a1), some (V.ref a2), some (V.ref a3), v4, none, none, none], ?_, ?_⟩
    · obtain ⟨ss, g2, fs⟩ := C.g2
      have lss := fs.len
      rw [List.length_map, List.length_range] at lss
      obtain ⟨w1, q1, e1, e2, f1⟩ := fs.get (i := cnt qs J - 1) (by rw [List.length_map, List.length_range]; omega)
      rw [rng_get (by omega)] at e2
      cases e2
      have sne : ss ≠ [] := fun z => by
        rw [z] at lss
        have : (0 : Nat) = cnt qs J := lss
        omega
      refine ⟨_, rfl, _, rfl, a2, ss, _, w1, rfl, rfl, SqL.of g2, atI_neg1 sne (by rw [lss]; exact e1), dF (nF qs (cnt qs J - 1)), dF (0, 1), f1.dp, (show Fr K H2 (.ref z) (0, 1) from ⟨z, rfl, sz H2⟩).dp, rfl, rfl, _, rfl, ?_⟩
      rw [eqv_nought]
      by_cases e : nF qs (cnt qs J - 1) = (0, 1)
      · rw [decide_eq_true e]
        have e0 : last qs J = 0 := rf_eq0.mp e
        obtain ⟨x1, x2, x3, x4⟩ := clm_last R D (by rw [e0]; decide)
        obtain ⟨dd, k1, k2, k3, k4, k5⟩ := rg_dm R x2 D.pos
        have a0 := aB_le x2
        obtain ⟨ps, g1, fp⟩ := C.g1
        have lp := fp.len
        rw [List.length_map, List.length_range] at lp
        obtain ⟨w2, q2, e3, e4, f2⟩ := fp.get (i := J) (by rw [List.length_map, List.length_range]; omega)
        rw [rng_get (by omega)] at e4
        cases e4
        have pne : ps ≠ [] := fun z => by
          rw [z] at lp
          cases lp
        have bd2 : Bd (dd * 256) (aB J + 60) := Bd.of (Int.mul_pos k5.p (by decide)) (natAbs_mul_le (m := 8) k5.l (by decide)) (by omega) (by omega)
        refine iteT ⟨_, rfl, _, rfl, _, rfl, a1, ps, _, w2, rfl, rfl, SqL.of g1, atI_neg1 pne (by rw [lp]; exact e3), .ref b, w2, qs, rg (rv qs) J, dd, aB J, rfl, px.mono C.same, f2, R, k1, k2, bd2, by rw [rg_len]; omega, fun H3 s3 => ?_⟩
        have C3 := C.mono s3
        cases er : fRest qs (rg (rv qs) J) with
        | none =>
          refine ⟨_, rfl, rfl, _, rfl, ?_⟩
          rw [show (!decide (optV none = V.non)) = false from by rw [show optV none = V.non from rfl, decide_eq_true rfl]; rfl]
          refine iteF ⟨?_, C3, _, rfl⟩
          unfold papD
          rw [if_neg nneg, if_pos e0, er]
        | some k =>
          refine ⟨_, rfl, rfl, _, rfl, ?_⟩
          rw [show (!decide (optV (some k) = V.non)) = true from by rw [decide_eq_false (fun z => by cases z)]; rfl]
          refine iteT ⟨_, rfl, _, rfl, a1, ps, _, w2, rfl, rfl, SqL.of (s3 _ _ g1), atI_neg1 pne (by rw [lp]; exact e3), _, rfl, (by show 3 ≤ sizeLine; decide), fun p hp => ?_⟩
          have s4 := same_new (o := .tup [V.str "rest", w2, V.int k]) hp
          refine kk _ _ J (C3.same.trans s4) D ?_
          unfold papD
          rw [if_neg nneg, if_pos e0, er]
          exact .tup (SqT.of upd_same) (.cons (.str _) (.cons ((f2.mono s3).mono s4).dp (.cons (.int _) .nil)))
      · rw [decide_eq_false e]
        refine iteF ⟨?_, C, _, rfl⟩
        unfold papD
        rw [if_neg nneg, if_neg (c := last qs J = 0) fun z => e (rf_eq0.mpr z)]
    clear C
    rintro σ H3 ⟨ep, C, v4, rfl⟩
    -- steps
    refine ⟨fun σ H4 => Cst K H H4 qs a1 a2 a3 (J + 1) (cnt qs J) J ∧ ∃ (L : Addr) (ts : List V), H4 L = some (.lst ts) ∧ FrAll K H4 ts (stpsC qs J) ∧ σ = [some (V.ref b), some (V.ref a1), some (V.ref a2), some (V.ref a3), v4, some (V.ref L), none, none], ?_, ?_⟩
    · obtain ⟨ss, g2, fs⟩ := C.g2
      have lss := fs.len
      rw [List.length_map, List.length_range] at lss
      refine ⟨_, rfl, _, rfl, 1, rfl, ?_⟩
      unfold tNoPart
      refine ⟨a2, ss, rfl, SqL.of g2, fun p hp => ?_⟩
      have ec : cutV ss (some 1) none = ss.drop 1 := by
        have e1 : HT.sIx ss.length 0 (some 1) = min 1 ss.length := HT.sIx_nat ss.length 0 1
        unfold cutV
        rw [e1, show HT.sIx ss.length ss.length none = ss.length from rfl, Nat.min_eq_left (by omega), List.take_of_length_le (by rw [List.length_drop]; omega)]
      rw [ec]
      have s4 := same_new (o := .lst (ss.drop 1)) hp
      refine ⟨a2, p, ss, ss.drop 1, rfl, .inl ⟨SqL.of (s4 _ _ g2), SqL.of upd_same, fun D2 hD2 => ?_⟩⟩
      refine lc_it (walk_zipL (xs := ss) (ys := ss.drop 1) (n := cnt qs J - 1) (by rw [List.length_drop]; omega)) (fun i H5 => Same H3 H5 ∧ (SqL K H5 a2 ss ∧ SqL K H5 p (ss.drop 1)) ∧ ∃ acc, H5 D2 = some (.lst acc) ∧ FrAll K H5 acc ((List.range i).map fun k => sF qs (k + 1)))
        ⟨s4.trans (same_new hD2), ⟨SqL.of (same_new hD2 _ _ (s4 _ _ g2)), SqL.of (same_new hD2 _ _ upd_same)⟩, [], upd_same, .nil⟩ (fun i H5 _ q => q.2.1) ?_ ?_
      · rintro i x H5 H6 hi ⟨s5, ⟨q1, q2⟩, acc, gD, fa⟩ ⟨T', x1, y1, rfl, hT, rfl, h1, h2⟩
        have h1' : ss[i]? = some x1 := h1
        have h2' : (ss.drop 1)[i]? = some y1 := h2
        rw [List.getElem?_drop] at h2'
        obtain ⟨w1, r1, e1, e2, f1⟩ := fs.get (i := i) (by rw [List.length_map, List.length_range]; omega)
        rw [rng_get (by omega)] at e2
        cases e2
        obtain ⟨w2, r2, e3, e4, f2⟩ := fs.get (i := i + 1) (by rw [List.length_map, List.length_range]; omega)
        rw [rng_get (by omega)] at e4
        cases e4
        rw [h1'] at e1
        cases e1
        rw [show 1 + i = i + 1 by omega, e3] at h2'
        cases h2'
        have s6 := same_new (o := .tup [x1, y1]) hT
        have s36 := s5.trans s6
        have ip : i + 1 ≤ 3 := by
          have r8 := R.l
          rcases c3 with e | ⟨e, e1⟩
          · have : 2 * J < qs.length := by
              unfold cnt at e
              split at e
              · assumption
              · omega
            omega
          · omega
        have np : ∀ k, k ≤ i → 0 < nor (rv qs) k := fun k hk => D.pos k (by omega)
        refine ⟨T', _, rfl, SqT.of upd_same, rfl, _, _, rfl, _, _, rfl, rfl, rfl, ?_⟩
        refine iteT (B := Same H3 (upd H5 T' (.tup [x1, y1])) ∧ (SqL K (upd H5 T' (.tup [x1, y1])) a2 ss ∧ SqL K (upd H5 T' (.tup [x1, y1])) p (ss.drop 1)) ∧ ∃ acc, upd H5 T' (.tup [x1, y1]) D2 = some (.lst acc) ∧ FrAll K (upd H5 T' (.tup [x1, y1])) acc ((List.range (i + 1)).map fun k => sF qs (k + 1))) ?_
        refine ⟨_, rfl, _, rfl, y1, x1, _, _, rfl, f2.mono s36, f1.mono s36, ⟨gsq_dm R ip (fun k hk => np k (by omega)) 0, gsq_dm R (j := i) (by omega) (fun k hk => np k (by omega)) 0, rf_top_pos.mpr (np i (Nat.le_refl _))⟩, fun p1 hp1 => ?_⟩
        have s7 := same_new (o := fr (divL (nF qs (i + 1)) (nF qs i))) hp1
        have s67 := s6.trans s7
        have nD : H3 D2 = none := by
          cases e : H3 D2 with
          | none => rfl
          | some o =>
            have := s4 _ _ e
            rw [hD2] at this
            cases this
        have gD7 := s67 _ _ gD
        have la := fa.len
        rw [List.length_map, List.length_range] at la
        have np2 : p ≠ D2 := ne_of_none (o := .lst (ss.drop 1)) upd_same hD2
        have na2 : a2 ≠ D2 := ne_of_none (s4 _ _ g2) hD2
        refine ⟨acc, gD7, small1000 (by omega), fun c o e => (upd_ne (ne_of_none e nD)).trans (s67 c o (s5 c o e)), ⟨sqL_ne na2 (s67.seq q1), sqL_ne np2 (s67.seq q2)⟩, acc ++ [.ref p1], upd_same, ?_⟩
        rw [rng_snoc (fun k => sF qs (k + 1))]
        refine (FrAll.off gD7 (fa.mono s67)).snoc (Fr.off ?_ gD7)
        have e : sF qs (i + 1) = divL (nF qs (i + 1)) (nF qs i) := (divL_rf (np i (Nat.le_refl _))).symm
        show Fr K _ (.ref p1) (sF qs (i + 1))
        rw [e]
        exact Fr.of upd_same
      · rintro H5 ⟨s5, _, acc, gD, fa⟩
        exact ⟨C.mono s5, D2, acc, gD, fa, rfl⟩
    clear C
    rintro σ H4 ⟨C, L, ts, gL, ft, rfl⟩
    have r1 := R.pos
    have lx := fx.len
    obtain ⟨w0, e0, f0⟩ : ∃ w, xs[0]? = some w ∧ Fr K H w (co qs 0) := by
      obtain ⟨w, q, e1, e2, e3⟩ := fx.get (i := 0) (by omega)
      exact ⟨w, e1, by rw [co_get e2]; exact e3⟩
    obtain ⟨ls, g3, fl⟩ := C.g3
    refine ⟨_, rfl, b, xs, 0, w0, rfl, rfl, Bs.Same.t C.same sx, atI_nat (j := 0) e0, _, rfl, a3, ls, rfl, .inl ⟨SqL.of g3, fun p1 hp1 => ?_⟩⟩
    have s5 := same_new (o := .tup ls) hp1
    refine ⟨_, rfl, L, ts, rfl, .inl ⟨SqL.of (s5 _ _ gL), fun p2 hp2 => ?_⟩⟩
    have s6 := same_new (o := .tup ts) hp2
    refine ⟨(by show 3 ≤ sizeLine; decide), fun p3 hp3 => ⟨(by show 2 ≤ sizeLine; decide), fun p4 hp4 => ?_⟩⟩
    have s7 := same_new (o := .tup [w0, V.ref p1, V.ref p2]) hp3
    have s8 := same_new (o := .tup [V.str "ladder", V.ref p3]) hp4
    have sa := s5.trans (s6.trans (s7.trans s8))
    refine kk _ _ J (C.same.trans sa) D ?_
    rw [ep]
    exact .tup (SqT.of upd_same) (.cons (.str _) (.cons (.tup (SqT.of (s8 _ _ upd_same)) (.cons (f0.mono (C.same.trans sa)).dp (.cons (Po.dp ⟨p1, ls, rfl, SqT.of (s8 _ _ (s7 _ _ (s6 _ _ upd_same))), fl.mono sa⟩) (.cons (Po.dp ⟨p2, ts, rfl, SqT.of (s8 _ _ (s7 _ _ upd_same)), ft.mono sa⟩) .nil)))) .nil))
end
end Rs


set_option Elab.async false
set_option linter.all false
set_option maxRecDepth 100000
set_option maxHeartbeats 1000000
namespace Rs
open PySem L2 Bs Fq LamX RZ
abbrev sIBP : Stmt := inClass (top 21) 0
abbrev sINS : Stmt := inClass (top 22) 0
abbrev sIBR : Stmt := inClass (top 23) 0
def row0 : PyData → Bool
  | .tuple (d :: _) => top0 d
  | _ => false
def rowD (d : PyData) : Bool := fracsD 9 d && row0 d
abbrev sIsPoly : Stmt := top 36
abbrev sIsRow : Stmt := top 39
abbrev sNeedRow : Stmt := top 40
abbrev sShared : Stmt := top 46
abbrev sRowPap : Stmt := top 47
abbrev sIsShare : Stmt := top 48
abbrev sLadOf : Stmt := top 49
abbrev sPivots : Stmt := top 50
structure MostOk (mg : Str → Option Value) : Prop where
  ex : ∃ t, mg "MOST" = some (.int 12 t)
structure Most9 (mg : Str → Option Value) : Prop where
  m9 : ∃ t, mg "MOST_MOMENTS" = some (.int 9 t)
def spIsPoly (K : PySem.W.Frag) : Sp := fun vs H Q _ => ∃ (v : V) (d : PyData), vs = [v] ∧ Dp K H v d ∧ ∀ H', Same H H' → Q (.bl (polyD d)) H'
def spIsRow (K : PySem.W.Frag) : Sp := fun vs H Q _ => ∃ (v : V) (d : PyData), vs = [v] ∧ Dp K H v d ∧ ∀ H', Same H H' → Q (.bl (rowD d)) H'
def spNeedRow (K : PySem.W.Frag) (C : Addr) : Sp := fun vs H Q E => ∃ (v : V) (d : PyData), vs = [v] ∧ Dp K H v d ∧ (rowD d = true → ∀ H', Same H H' → Q v H') ∧ (rowD d = false → ∀ H', Same H H' → OutW E C "given" v H')
/-- a row wanted; R: what is made of it -/
def spRow (K : PySem.W.Frag) (CR : Addr) (R : List F → Hp → VK → XK → Prop) : Sp := fun vs H Q E => ∃ (v : V) (d : PyData), vs = [v] ∧ Dp K H v d ∧ (rowD d = false → ∀ H', Same H H' → OutW E CR "given" v H') ∧ (∀ qs, d = dP qs → rowD d = true → RowOk qs ∧ R qs H Q E)
def isLad (qs : List F) (J : Nat) : Bool := !decide (last qs J < 0) && !(decide (last qs J = 0) && (fRest qs (rg (rv qs) J)).isSome)
def rPap (K : PySem.W.Frag) : List F → Hp → VK → XK → Prop := fun qs H Q _ => ∀ H' u J, Same H H' → Clm qs J → Dp K H' u (papD qs J) → Q u H'
def rShare : List F → Hp → VK → XK → Prop := fun qs H Q _ => ∀ H' J, Same H H' → Clm qs J → Q (.bl (isLad qs J)) H'
def rLadOf (K : PySem.W.Frag) (CS : Addr) : List F → Hp → VK → XK → Prop := fun qs H Q E => (∀ H' u J, Same H H' → Clm qs J → isLad qs J = true → Dp K H' u (dLad qs J) → Q u H') ∧ (∀ H' u J, Same H H' → Clm qs J → isLad qs J = false → Dp K H' u (papD qs J) → OutW E CS "paper" u H')
def rPiv (K : PySem.W.Frag) : List F → Hp → VK → XK → Prop := fun qs H Q _ => ∀ H' u J, Same H H' → Clm qs J → Po K H' u (sumsC qs J) → Q u H'
def spShared (K : PySem.W.Frag) (CS : Addr) : Sp := fun vs H Q E => ∃ (x : V) (qs : List F), vs = [x] ∧ Po K H x qs ∧ RowOk qs ∧ rLadOf K CS qs H Q E
theorem papD_lad {qs : List F} {J : Nat} (h : isLad qs J = true) : papD qs J = .tuple [.str "ladder", dLad qs J] := by
  unfold isLad at h
  rw [Bool.and_eq_true, Bool.not_eq_true', Bool.not_eq_true', decide_eq_false_iff_not] at h
  unfold papD
  rw [if_neg h.1]
  by_cases e : last qs J = 0
  · rw [if_pos e]
    have h2 := h.2
    rw [decide_eq_true e, Bool.true_and] at h2
    cases er : fRest qs (rg (rv qs) J) with
    | none => rfl
    | some k =>
      rw [er] at h2
      cases h2
  · rw [if_neg e]
theorem papD_not {qs : List F} {J : Nat} (h : isLad qs J = false) : (last qs J < 0 ∧ papD qs J = .tuple [.str "square", dP (rg (rv qs) J)]) ∨ (¬ last qs J < 0 ∧ last qs J = 0 ∧ ∃ k, fRest qs (rg (rv qs) J) = some k ∧ papD qs J = .tuple [.str "rest", dP (rg (rv qs) J), .int k]) := by
  unfold isLad at h
  unfold papD
  by_cases n : last qs J < 0
  · exact .inl ⟨n, if_pos n⟩
  · rw [decide_eq_false n, Bool.not_false, Bool.true_and, Bool.not_eq_false', Bool.and_eq_true, decide_eq_true_eq, Option.isSome_iff_exists] at h
    obtain ⟨e, k, ek⟩ := h
    refine .inr ⟨n, e, k, ek, ?_⟩
    rw [if_neg n, if_pos e, ek]
/-- a paper's word -/
theorem dp_word2 {K : PySem.W.Frag} {H : Hp} {v : V} {x : Str} {ds : List PyData} (h : Dp K H v (.tuple (.str x :: ds))) : ∃ a xs, v = .ref a ∧ SqT K H a (V.str x :: xs) ∧ DpAll K H xs ds := by
  cases h with
  | tup s f =>
    cases f with
    | cons h1 h2 =>
      cases h1
      exact ⟨_, _, rfl, s, h2⟩
theorem rowD_dP {d : PyData} (h : rowD d = true) : ∃ qs : List F, d = dP qs := by
  rw [rowD, Bool.and_eq_true] at h
  obtain ⟨qs, rfl, _, _⟩ := fracsD_true h.1
  exact ⟨qs, rfl⟩
theorem rowD_of {qs : List F} (R : RowOk qs) : rowD (dP qs) = true := by
  have l := R.l
  have r1 := R.pos
  have p := R.p
  have e : fracsD 9 (dP qs) = true := by
    show (decide (((qs.map dF).length : Int) ≤ 9) && (qs.map dF).all fracD) = true
    rw [all_frac_of R.c.okA, List.length_map, decide_eq_true (by omega)]
    rfl
  rw [rowD, e, Bool.true_and]
  cases qs with
  | nil => cases r1
  | cons q qs => exact decide_eq_true p
section
variable {P : Program} {w : World} {K : PySem.W.Frag} {mg : Str → Option Value} {base : Heap} {f CR CS : Addr} {fd : FuncData}
theorem scIBP : FnScope ["self", "part"] ["self", "part"] (defScope sIBP) := ⟨rfl, rfl, rfl, by decide +kernel, rfl, by decide +kernel, by decide +kernel⟩
theorem scINS : FnScope ["self", "paper"] ["self", "paper"] (defScope sINS) := ⟨rfl, rfl, rfl, by decide +kernel, rfl, by decide +kernel, by decide +kernel⟩
theorem scIBR : FnScope ["self", "given"] ["self", "given"] (defScope sIBR) := ⟨rfl, rfl, rfl, by decide +kernel, rfl, by decide +kernel, by decide +kernel⟩
theorem ok_iIBP {C : Addr} {q : Str} (F : Fun K "__init__" q sIBP f fd) (T : OexC K C) (no : PySem.W.findIn K (.ref C) "part" = some none) : FnOk P w K mg base CX0 1 f fd ["self", "part"] (spInitW K C "part") := by
  refine F.ok scIBP (fun vs H Q E h => ?_) (fun cdv A outer s H vs Q E hr h => ?_)
  · obtain ⟨a, y, rfl, _⟩ := h
    rfl
  · obtain ⟨a, y, rfl, ha, k⟩ := h
    exact ⟨_, pss_one (ps_ost (pv 0) (pv 1)), _, rfl, _, rfl, a, C, rfl, T, no, .inl ⟨ha, fun dx n1 n2 => k dx n1 n2⟩⟩
theorem ErrW.okIBP {x q : Str} {C : Addr} (T : ErrW K mg x q "part" sIBP C) : ErrOkW P w K mg base x "part" C := by
  obtain ⟨fI, fd, a, b, F, bi⟩ := T.ini
  exact ⟨T.gC, T.oex, fI, fd, a, b, ok_iIBP F T.oex T.no, bi⟩
theorem ok_iINS {C : Addr} {q : Str} (F : Fun K "__init__" q sINS f fd) (T : OexC K C) (no : PySem.W.findIn K (.ref C) "paper" = some none) : FnOk P w K mg base CX0 1 f fd ["self", "paper"] (spInitW K C "paper") := by
  refine F.ok scINS (fun vs H Q E h => ?_) (fun cdv A outer s H vs Q E hr h => ?_)
  · obtain ⟨a, y, rfl, _⟩ := h
    rfl
  · obtain ⟨a, y, rfl, ha, k⟩ := h
    exact ⟨_, pss_one (ps_ost (pv 0) (pv 1)), _, rfl, _, rfl, a, C, rfl, T, no, .inl ⟨ha, fun dx n1 n2 => k dx n1 n2⟩⟩
theorem ErrW.okINS {x q : Str} {C : Addr} (T : ErrW K mg x q "paper" sINS C) : ErrOkW P w K mg base x "paper" C := by
  obtain ⟨fI, fd, a, b, F, bi⟩ := T.ini
  exact ⟨T.gC, T.oex, fI, fd, a, b, ok_iINS F T.oex T.no, bi⟩
theorem ok_iIBR {C : Addr} {q : Str} (F : Fun K "__init__" q sIBR f fd) (T : OexC K C) (no : PySem.W.findIn K (.ref C) "given" = some none) : FnOk P w K mg base CX0 1 f fd ["self", "given"] (spInitW K C "given") := by
  refine F.ok scIBR (fun vs H Q E h => ?_) (fun cdv A outer s H vs Q E hr h => ?_)
  · obtain ⟨a, y, rfl, _⟩ := h
    rfl
  · obtain ⟨a, y, rfl, ha, k⟩ := h
    exact ⟨_, pss_one (ps_ost (pv 0) (pv 1)), _, rfl, _, rfl, a, C, rfl, T, no, .inl ⟨ha, fun dx n1 n2 => k dx n1 n2⟩⟩
theorem ErrW.okIBR {x q : Str} {C : Addr} (T : ErrW K mg x q "given" sIBR C) : ErrOkW P w K mg base x "given" C := by
  obtain ⟨fI, fd, a, b, F, bi⟩ := T.ini
  exact ⟨T.gC, T.oex, fI, fd, a, b, ok_iIBR F T.oex T.no, bi⟩
theorem scIsPoly : FnScope ["thing"] ["thing"] (defScope sIsPoly) := ⟨rfl, rfl, rfl, by decide +kernel, rfl, by decide +kernel, by decide +kernel⟩
theorem ok_isPoly (F : Fun K "is_poly" "is_poly" sIsPoly f fd) (T : Blt mg) (Z : Nou K mg) (M : MostOk mg) (AF : Cal P w K mg base 3 "are_fractions" (spAreF K)) : FnOk P w K mg base CX0 4 f fd ["thing"] (spIsPoly K) := by
  refine F.ok scIsPoly (fun vs H Q E h => ?_) (fun cdv A outer s H vs Q E hr h => ?_)
  · obtain ⟨v, d, rfl, _⟩ := h
    rfl
  · obtain ⟨v, d, rfl, hd, kk⟩ := h
    obtain ⟨z, mz, sz⟩ := Z.ex
    obtain ⟨t, mt⟩ := M.ex
    refine ⟨_, pss_one (ps_ret (pe_and (pe_n AF hr (by decide) (by rfl) (pa_cons (pv 0) (pa_cons (pe_glob (v := .int 12) (by rfl) mt ⟨t, rfl⟩) pa_nil)))
      (pe_one (pe_or (pe_cmpR op_eq (pe_callB call_len_seq (by rfl) T.len (by decide +kernel) (pa_cons (pv 0) pa_nil)) pe_int (nomark _))
        (pe_one (pe_cmpR (op_neD hr.units) (pe_ix ix_tup (pv 0) (pe_un un_neg pe_int) (fun _ _ => rfl)) (pe_glob (v := .ref z) (by rfl) mz rfl) (nomark _))))))), ?_⟩
    refine ⟨v, rfl, v, d, 12, rfl, hd, by decide, fun H1 s1 => ⟨_, rfl, ?_⟩⟩
    have kk' := kk H1 s1
    rw [polyD_eq] at kk'
    cases e : fracsD 12 d with
    | false =>
      rw [e, Bool.false_and] at kk'
      exact iteF kk'
    | true =>
      rw [e, Bool.true_and] at kk'
      obtain ⟨qs, rfl, ok, lq⟩ := fracsD_true e
      obtain ⟨a, xs, rfl, sq, fx⟩ := (dp_po hd).mono s1
      have lx := fx.len
      have kk2 : Q (.bl (decide (Pn qs))) H1 := by
        rw [← lastNz_map]
        exact kk'
      refine iteT ⟨_, rfl, a, xs, rfl, Or.inr sq, rfl, _, rfl, ?_⟩
      refine ite2 (fun c => ?_) (fun c => ?_)
      · have l0 : qs = [] := by
          have : (xs.length : Int) = 0 := by simpa using c
          exact List.eq_nil_of_length_eq_zero (by omega)
        rw [decide_eq_true (show Pn qs from Or.inl l0)] at kk2
        exact kk2
      · have l0 : qs.length ≠ 0 := by
          intro z
          refine c ?_
          rw [lx, z]
          rfl
        obtain ⟨u, q, g1, g2, g3⟩ := fx.get (i := qs.length - 1) (by omega)
        have ha : atI xs (-1) = some u := by
          have e1 : ixN xs.length (-1) = some (qs.length - 1) := by
            unfold ixN
            rw [if_neg (by decide), if_pos (by omega)]
            exact congrArg some (by omega)
          unfold atI
          rw [e1]
          exact g1
        refine ⟨_, rfl, _, rfl, a, xs, _, u, rfl, rfl, sq, ha, dF q, dF (0, 1), g3.dp, .tup (sz H1) (.cons (.int 0) (.cons (.int 1) .nil)), rfl, rfl, ?_⟩
        have e2 : (!(PyData.eqv (dF q) (dF (0, 1)))) = decide (Pn qs) := by
          rw [eqv_nought]
          have ec := co_get g2
          by_cases z : q = (0, 1)
          · rw [decide_eq_true z]
            refine (decide_eq_false ?_).symm
            rintro (y | y)
            · rw [y] at l0
              exact l0 rfl
            · exact y (ec.trans z)
          · rw [decide_eq_false z]
            exact (decide_eq_true (show Pn qs from .inr (fun y => z (ec.symm.trans y)))).symm
        rw [e2]
        exact kk2
theorem scIsRow : FnScope ["thing"] ["thing"] (defScope sIsRow) := ⟨rfl, rfl, rfl, by decide +kernel, rfl, by decide +kernel, by decide +kernel⟩
theorem ok_isRow (F : Fun K "is_row" "is_row" sIsRow f fd) (T : Blt mg) (M : Most9 mg) (AF : Cal P w K mg base 3 "are_fractions" (spAreF K)) : FnOk P w K mg base CX0 4 f fd ["thing"] (spIsRow K) := by
  refine F.ok scIsRow (fun vs H Q E h => ?_) (fun cdv A outer s H vs Q E hr h => ?_)
  · obtain ⟨v, d, rfl, _⟩ := h
    rfl
  · obtain ⟨v, d, rfl, hd, kk⟩ := h
    obtain ⟨t, mt⟩ := M.m9
    refine ⟨_, pss_one (ps_ret (pe_and (pe_n AF hr (by decide) (by rfl) (pa_cons (pv 0) (pa_cons (pe_glob (v := .int 9) (by rfl) mt ⟨t, rfl⟩) pa_nil)))
      (pe_and (pe_cmpR op_gt (pe_callB call_len_seq (by rfl) T.len (by decide +kernel) (pa_cons (pv 0) pa_nil)) pe_int (nomark _))
        (pe_one (pe_cmpR op_gt (pe_ix ix_tup (pe_ix ix_tup (pv 0) pe_int (fun _ _ => rfl)) pe_int (fun _ _ => rfl)) pe_int (nomark _)))))), ?_⟩
    refine ⟨v, rfl, v, d, 9, rfl, hd, by decide, fun H1 s1 => ⟨_, rfl, ?_⟩⟩
    have kk' := kk H1 s1
    unfold rowD at kk'
    cases e : fracsD 9 d with
    | false =>
      rw [e] at kk'
      exact iteF kk'
    | true =>
      rw [e] at kk'
      obtain ⟨qs, rfl, ok, lq⟩ := fracsD_true e
      obtain ⟨a, xs, rfl, sq, fx⟩ := (dp_po hd).mono s1
      refine iteT ⟨_, rfl, a, xs, rfl, Or.inr sq, _, _, rfl, rfl, _, rfl, ?_⟩
      cases fx with
      | nil => exact iteF kk'
      | cons h1 h2 =>
        rename_i v1 vs1 q1 qs1
        obtain ⟨b, rfl, sb⟩ := h1
        refine ite2 (fun c => ?_) (fun c => ?_)
        · exact ⟨_, rfl, a, _, 0, _, rfl, rfl, sq, atI_nat (j := 0) rfl, b, _, 0, _, rfl, rfl, sb, rfl, _, _, rfl, rfl, kk'⟩
        · exact absurd (decide_eq_true (by rw [List.length_cons]; omega)) c
theorem scNeedRow : FnScope ["thing"] ["thing"] (defScope sNeedRow) := ⟨rfl, rfl, rfl, by decide +kernel, rfl, by decide +kernel, by decide +kernel⟩
theorem ok_needRow (F : Fun K "need_row" "need_row" sNeedRow f fd) (T : ErrOkW P w K mg base "BadRow" "given" CR) (W : Cal P w K mg base 4 "is_row" (spIsRow K)) : FnOk P w K mg base (L2.CX P w) 5 f fd ["thing"] (spNeedRow K CR) := by
  refine F.okX scNeedRow (fun vs H Q E h => ?_) (fun cdv A outer s H vs Q E hr h => ?_)
  · obtain ⟨v, d, rfl, _⟩ := h
    rfl
  · obtain ⟨v, d, rfl, hd, k1, k2⟩ := h
    refine ⟨_, pss_cons (ps_if (pt_not (pt_val (pe_n W hr (by decide) (by rfl) (pa_cons (pv 0) pa_nil)))) (pss_one (ps_rzW rfl T hr (by decide) (takes_of rfl rfl rfl rfl) (pv 0) (by rfl))) pss_nil) (pss_one (ps_ret (pv 0))), ?_⟩
    refine ⟨_, rfl, v, d, rfl, hd, fun H' s => ⟨_, rfl, ?_⟩⟩
    cases e : rowD d with
    | true => exact iteF ⟨_, rfl, k1 e H' s⟩
    | false => exact iteT ⟨_, rfl, k2 e H' s⟩
theorem scShared : FnScope ["row", "paper"] ["row"] (defScope sShared) := ⟨rfl, rfl, rfl, by decide +kernel, rfl, by decide +kernel, by decide +kernel⟩
theorem ok_shared (F : Fun K "shared_ladder" "shared_ladder" sShared f fd) (T : ErrOkW P w K mg base "NoShare" "paper" CS) (PO : Cal P w K mg base 7 "paper_of" (spPaperOf K)) : FnOk P w K mg base (L2.CX P w) 8 f fd ["row"] (spShared K CS) := by
  refine F.okX scShared (fun vs H Q E h => ?_) (fun cdv A outer s H vs Q E hr h => ?_)
  · obtain ⟨x, qs, rfl, _⟩ := h
    rfl
  · obtain ⟨x, qs, rfl, px, R, k1, k2⟩ := h
    refine ⟨_, pss_cons (ps_set (i := 1) scShared.nd rfl (Or.inl rfl) (pe_n PO hr (by decide) (by rfl) (pa_cons (pv 0) pa_nil)))
      (pss_cons (ps_if (pt_cmpR op_ne (pe_ix ix_tup (pv 1) pe_int (fun _ _ => rfl)) pe_str (nomark _)) (pss_one (ps_rzW rfl T hr (by decide) (takes_of rfl rfl rfl rfl) (pv 1) (by rfl))) pss_nil)
      (pss_one (ps_ret (pe_ix ix_tup (pv 1) pe_int (fun _ _ => rfl))))), ?_⟩
    refine ⟨_, rfl, x, qs, rfl, px, R, fun H' v J s1 C d => ?_⟩
    cases e : isLad qs J with
    | true =>
      have d' := d
      rw [papD_lad e] at d'
      obtain ⟨a, xs, rfl, sq, da⟩ := dp_word2 d'
      cases da with
      | cons h1 h2 =>
        cases h2
        refine ⟨_, rfl, a, _, 0, _, rfl, rfl, sq, atI_nat (j := 0) rfl, rfl, _, rfl, ?_⟩
        rw [decide_eq_true rfl]
        refine iteF ⟨_, rfl, a, _, 1, _, rfl, rfl, sq, atI_nat (j := 1) rfl, ?_⟩
        exact k1 _ _ J s1 C e h1
    | false =>
      have out := k2 H' v J s1 C e d
      rcases papD_not e with ⟨_, ep⟩ | ⟨_, _, k, _, ep⟩
      · rw [ep] at d
        obtain ⟨a, xs, rfl, sq, da⟩ := dp_word2 d
        refine ⟨_, rfl, a, _, 0, _, rfl, rfl, sq, atI_nat (j := 0) rfl, rfl, _, rfl, ?_⟩
        rw [decide_eq_false (by decide)]
        exact iteT ⟨_, rfl, out⟩
      · rw [ep] at d
        obtain ⟨a, xs, rfl, sq, da⟩ := dp_word2 d
        refine ⟨_, rfl, a, _, 0, _, rfl, rfl, sq, atI_nat (j := 0) rfl, rfl, _, rfl, ?_⟩
        rw [decide_eq_false (by decide)]
        exact iteT ⟨_, rfl, out⟩
theorem scRowPap : FnScope ["row"] ["row"] (defScope sRowPap) := ⟨rfl, rfl, rfl, by decide +kernel, rfl, by decide +kernel, by decide +kernel⟩
theorem ok_rowPap (F : Fun K "row_paper" "row_paper" sRowPap f fd) (NR : CalX P w K mg base 5 "need_row" (spNeedRow K CR)) (PO : Cal P w K mg base 7 "paper_of" (spPaperOf K)) : FnOk P w K mg base (L2.CX P w) 8 f fd ["row"] (spRow K CR (rPap K)) := by
  refine F.okX scRowPap (fun vs H Q E h => ?_) (fun cdv A outer s H vs Q E hr h => ?_)
  · obtain ⟨v, d, rfl, _⟩ := h
    rfl
  · obtain ⟨v, d, rfl, hd, k1, k2⟩ := h
    refine ⟨_, pss_one (ps_ret (pe_n PO hr (by decide) (by rfl) (pa_cons (pe_x NR hr (by decide) (by rfl) (passes_call (takes_of rfl rfl rfl rfl) (fun _ _ _ _ h => h)) (pa_cons (pv 0) pa_nil)) pa_nil))), ?_⟩
    refine ⟨_, rfl, v, d, rfl, hd, fun e H1 s1 => ?_, k1⟩
    obtain ⟨qs, rfl⟩ := rowD_dP e
    obtain ⟨R, k3⟩ := k2 qs rfl e
    exact ⟨v, qs, rfl, (dp_po hd).mono s1, R, fun H' u J s2 C du => k3 H' u J (s1.trans s2) C du⟩
theorem scIsShare : FnScope ["row"] ["row"] (defScope sIsShare) := ⟨rfl, rfl, rfl, by decide +kernel, rfl, by decide +kernel, by decide +kernel⟩
theorem ok_isShare (F : Fun K "is_of_share" "is_of_share" sIsShare f fd) (RP : CalX P w K mg base 8 "row_paper" (spRow K CR (rPap K))) : FnOk P w K mg base (L2.CX P w) 9 f fd ["row"] (spRow K CR rShare) := by
  refine F.okX scIsShare (fun vs H Q E h => ?_) (fun cdv A outer s H vs Q E hr h => ?_)
  · obtain ⟨v, d, rfl, _⟩ := h
    rfl
  · obtain ⟨v, d, rfl, hd, k1, k2⟩ := h
    refine ⟨_, pss_one (ps_ret (pe_cmpR op_eq (pe_ix ix_tup (pe_x RP hr (by decide) (by rfl) (passes_call (takes_of rfl rfl rfl rfl) (fun _ _ _ _ h => h)) (pa_cons (pv 0) pa_nil)) pe_int (fun _ _ => rfl)) pe_str (nomark _))), ?_⟩
    refine ⟨_, rfl, v, d, rfl, hd, k1, fun qs e1 e2 => ?_⟩
    obtain ⟨R, k3⟩ := k2 qs e1 e2
    refine ⟨R, fun H' u J s1 C du => ?_⟩
    have k4 := k3 H' J s1 C
    cases e : isLad qs J with
    | true =>
      rw [papD_lad e] at du
      obtain ⟨a, xs, rfl, sq, da⟩ := dp_word2 du
      refine ⟨a, _, 0, _, rfl, rfl, sq, atI_nat (j := 0) rfl, rfl, ?_⟩
      rw [decide_eq_true rfl, ← e]
      exact k4
    | false =>
      rcases papD_not e with ⟨_, ep⟩ | ⟨_, _, k, _, ep⟩
      · rw [ep] at du
        obtain ⟨a, xs, rfl, sq, da⟩ := dp_word2 du
        refine ⟨a, _, 0, _, rfl, rfl, sq, atI_nat (j := 0) rfl, rfl, ?_⟩
        rw [decide_eq_false (by decide), ← e]
        exact k4
      · rw [ep] at du
        obtain ⟨a, xs, rfl, sq, da⟩ := dp_word2 du
        refine ⟨a, _, 0, _, rfl, rfl, sq, atI_nat (j := 0) rfl, rfl, ?_⟩
        rw [decide_eq_false (by decide), ← e]
        exact k4
theorem scLadOf : FnScope ["row"] ["row"] (defScope sLadOf) := ⟨rfl, rfl, rfl, by decide +kernel, rfl, by decide +kernel, by decide +kernel⟩
theorem ok_ladOf (F : Fun K "ladder_of" "ladder_of" sLadOf f fd) (NR : CalX P w K mg base 5 "need_row" (spNeedRow K CR)) (SL : CalX P w K mg base 8 "shared_ladder" (spShared K CS)) : FnOk P w K mg base (L2.CX P w) 9 f fd ["row"] (spRow K CR (rLadOf K CS)) := by
  refine F.okX scLadOf (fun vs H Q E h => ?_) (fun cdv A outer s H vs Q E hr h => ?_)
  · obtain ⟨v, d, rfl, _⟩ := h
    rfl
  · obtain ⟨v, d, rfl, hd, k1, k2⟩ := h
    refine ⟨_, pss_one (ps_ret (pe_x SL hr (by decide) (by rfl) (passes_call (takes_of rfl rfl rfl rfl) (fun _ _ _ _ h => h)) (pa_cons (pe_x NR hr (by decide) (by rfl) (passes_call (takes_of rfl rfl rfl rfl) (fun _ _ _ _ h => h)) (pa_cons (pv 0) pa_nil)) pa_nil))), ?_⟩
    refine ⟨_, rfl, v, d, rfl, hd, fun e H1 s1 => ?_, k1⟩
    obtain ⟨qs, rfl⟩ := rowD_dP e
    obtain ⟨R, k3, k4⟩ := k2 qs rfl e
    exact ⟨v, qs, rfl, (dp_po hd).mono s1, R, fun H' u J s2 => k3 H' u J (s1.trans s2), fun H' u J s2 => k4 H' u J (s1.trans s2)⟩
theorem scPivots : FnScope ["row"] ["row"] (defScope sPivots) := ⟨rfl, rfl, rfl, by decide +kernel, rfl, by decide +kernel, by decide +kernel⟩
theorem ok_pivots (F : Fun K "pivots" "pivots" sPivots f fd) (T : Blt mg) (NR : CalX P w K mg base 5 "need_row" (spNeedRow K CR)) (CL : Cal P w K mg base 6 "climb" (spClimb K)) : FnOk P w K mg base (L2.CX P w) 7 f fd ["row"] (spRow K CR (rPiv K)) := by
  refine F.okX scPivots (fun vs H Q E h => ?_) (fun cdv A outer s H vs Q E hr h => ?_)
  · obtain ⟨v, d, rfl, _⟩ := h
    rfl
  · obtain ⟨v, d, rfl, hd, k1, k2⟩ := h
    refine ⟨_, pss_one (ps_ret (pe_callTy call_tuple_of (by rfl) T.tuple (by decide +kernel) (pa_cons (pe_ix ix_tup (pe_n CL hr (by decide) (by rfl) (pa_cons (pe_x NR hr (by decide) (by rfl) (passes_call (takes_of rfl rfl rfl rfl) (fun _ _ _ _ h => h)) (pa_cons (pv 0) pa_nil)) pa_nil)) pe_int (fun _ _ => rfl)) pa_nil))), ?_⟩
    refine ⟨_, rfl, v, d, rfl, hd, fun e H1 s1 => ?_, k1⟩
    obtain ⟨qs, rfl⟩ := rowD_dP e
    obtain ⟨R, k3⟩ := k2 qs rfl e
    refine ⟨v, qs, rfl, (dp_po hd).mono s1, R, fun H' a a1 a2 a3 J s2 st C D => ?_⟩
    obtain ⟨ss, g2, fs⟩ := C.g2
    refine ⟨a, _, 1, _, rfl, rfl, st, atI_nat (j := 1) rfl, a2, ss, rfl, .inl ⟨SqL.of g2, fun p hp => ?_⟩⟩
    have s3 := same_new (o := .tup ss) hp
    exact k3 _ _ J (s1.trans (s2.trans s3)) D ⟨p, ss, rfl, SqT.of upd_same, fs.mono s3⟩
end
end Rs


set_option Elab.async false
set_option linter.all false
set_option maxRecDepth 100000
set_option maxHeartbeats 1000000
namespace Rs
open PySem L2 Bs Fq LamX RZ
def isStr : PyData → Bool
  | .str _ => true
  | _ => false
theorem kitS (K : PySem.W.Frag) (d : PyData) : PySem.W.kitOne K (.type (tyD d)) (.type "str") = some (isStr d) := by
  cases d with
  | none => exact kit_ty (a := "NoneType") (b := "str") (r := false) (by decide +kernel)
  | bool _ => exact kit_ty (a := "bool") (b := "str") (r := false) (by decide +kernel)
  | int _ => exact kit_ty (a := "int") (b := "str") (r := false) (by decide +kernel)
  | str _ => exact kit_ty (a := "str") (b := "str") (r := true) (by decide +kernel)
  | list _ => exact kit_ty (a := "list") (b := "str") (r := false) (by decide +kernel)
  | tuple _ => exact kit_ty (a := "tuple") (b := "str") (r := false) (by decide +kernel)
  | dict _ => exact kit_ty (a := "dict") (b := "str") (r := false) (by decide +kernel)
abbrev wL : Str := "ladder"
abbrev wS : Str := "square"
abbrev wR : Str := "rest"
/-! ### a paper's form -/
def fm (x : Str) (n : Nat) (y : Str) (m : Nat) : Bool := decide (x = y) && decide (n = m)
def formD : PyData → Option Str
  | .tuple (.str x :: r) => if fm x (r.length + 1) wL 2 = true then some wL else if fm x (r.length + 1) wS 2 = true then some wS else if fm x (r.length + 1) wR 3 = true then some wR else none
  | _ => none
structure FormsG (K : PySem.W.Frag) (mg : Str → Option Value) : Prop where
  ex : ∃ a f1 f2 f3 : Addr, mg "FORMS" = some (.ref a) ∧ ∀ H : Hp, SqT K H a [.ref f1, .ref f2, .ref f3] ∧ SqT K H f1 [.str wL, .int 2] ∧ SqT K H f2 [.str wS, .int 2] ∧ SqT K H f3 [.str wR, .int 3]
abbrev sNeedForm : Stmt := top 51
abbrev sSqHold : Stmt := top 52
abbrev sRsHold : Stmt := top 53
abbrev sHold : Stmt := top 54
abbrev sCheck : Stmt := top 55
def spNeedForm (K : PySem.W.Frag) (CP : Addr) : Sp := fun vs H Q E => ∃ (v : V) (d : PyData) (a f1 f2 f3 : Addr), vs = [v, .ref a] ∧ Dp K H v d ∧ (∀ H : Hp, SqT K H a [.ref f1, .ref f2, .ref f3] ∧ SqT K H f1 [.str wL, .int 2] ∧ SqT K H f2 [.str wS, .int 2] ∧ SqT K H f3 [.str wR, .int 3]) ∧
  (∀ x, formD d = some x → ∀ H', Same H H' → Q (.str x) H') ∧ (formD d = none → ∀ H', Same H H' → OutW E CP "part" (.str "form") H')
/-! ### what holds -/
def unF : PyData → F
  | .tuple [.int a, .int b] => (a, b)
  | _ => (0, 1)
def unP : PyData → List F
  | .tuple ds => ds.map unF
  | _ => []
theorem unP_dP (w : List F) : unP (dP w) = w := by
  show (w.map dF).map unF = w
  rw [List.map_map]
  refine (List.map_congr_left fun q _ => ?_).trans (List.map_id w)
  obtain ⟨a, b⟩ := q
  rfl
def short (qs w : List F) : Bool := decide (2 * (w.length : Int) - 1 ≤ qs.length)
def sqD (qs : List F) (p : PyData) : Bool := polyD p && (short qs (unP p) && decide (sq2 qs 0 (unP p) (unP p) < 0))
def rsN (qs w : List F) : PyData → Bool
  | .int k => decide (0 ≤ k) && (decide ((w.length : Int) + k ≤ qs.length) && (decide (sq2 qs 0 w w = 0) && miss qs w k.toNat))
  | _ => false
def rsD (qs : List F) (p n : PyData) : Bool := polyD p && (!decide ((unP p).length = 0) && (short qs (unP p) && rsN qs (unP p) n))
def holdD (qs : List F) (J : Nat) : PyData → Bool
  | .tuple [.str x, p] => if x = wS then sqD qs p else ladderD p && PyData.eqv (papD qs J) (.tuple [.str x, p])
  | .tuple [_, p, n] => rsD qs p n
  | _ => false
/-- what the reckoning of squares bears -/
structure SqOk (w : List F) : Prop where
  ex : ∃ (D : Int) (a : Nat), Ca D a w ∧ Bd D a ∧ Bd (D * D) (a + a + 170) ∧ Bd (D * D * 256) (a + a + 150 + 30 + 30) ∧ Bd (D * 256) (a + 30 + 30)
def SqOf (qs : List F) (p : PyData) : Prop := ∀ w, p = dP w → polyD p = true → short qs w = true → SqOk w
def secD : PyData → PyData
  | .tuple (_ :: p :: _) => p
  | _ => .none
def spSqHold (K : PySem.W.Frag) : Sp := fun vs H Q _ => ∃ (x y : V) (qs : List F) (p : PyData), vs = [x, y] ∧ Po K H x qs ∧ RowOk qs ∧ Dp K H y p ∧ SqOf qs p ∧ ∀ H', Same H H' → Q (.bl (sqD qs p)) H'
def spRsHold (K : PySem.W.Frag) : Sp := fun vs H Q _ => ∃ (x y z : V) (qs : List F) (p n : PyData), vs = [x, y, z] ∧ Po K H x qs ∧ RowOk qs ∧ Dp K H y p ∧ Dp K H z n ∧ SqOf qs p ∧ ∀ H', Same H H' → Q (.bl (rsD qs p n)) H'
def spHold (K : PySem.W.Frag) : Sp := fun vs H Q _ => ∃ (x y : V) (qs : List F) (d : PyData) (wd : Str), vs = [x, y] ∧ Po K H x qs ∧ RowOk qs ∧ Dp K H y d ∧ formD d = some wd ∧ SqOf qs (secD d) ∧ SeqAt.shaped d = true ∧ ∀ H' b, Same H H' → (∀ J, Clm qs J → b = holdD qs J d) → Q (.bl b) H'
def spCheck (K : PySem.W.Frag) (CR CP : Addr) : Sp := fun vs H Q E => ∃ (x y : V) (d e : PyData), vs = [x, y] ∧ Dp K H x d ∧ Dp K H y e ∧ (rowD d = false → ∀ H', Same H H' → OutW E CR "given" x H') ∧
  (∀ qs, d = dP qs → rowD d = true → RowOk qs ∧ (formD e = none → ∀ H', Same H H' → OutW E CP "part" (.str "form") H') ∧
    ∀ wd, formD e = some wd → SqOf qs (secD e) ∧ SeqAt.shaped e = true ∧ ∀ b, (∀ J, Clm qs J → b = holdD qs J e) → (b = true → ∀ H', Same H H' → Q (.str wd) H') ∧ (b = false → ∀ H', Same H H' → OutW E CP "part" (.str wd) H'))
theorem polyD_dP {p : PyData} (h : polyD p = true) : ∃ w : List F, p = dP w ∧ (∀ q ∈ w, Fq.Ok q) ∧ w.length ≤ 12 := by
  rw [polyD_eq, Bool.and_eq_true] at h
  obtain ⟨w, rfl, o, l⟩ := fracsD_true h.1
  exact ⟨w, rfl, o, by omega⟩
/-- the forms that there are -/
theorem form_cases {d : PyData} {wd : Str} (h : formD d = some wd) : (∃ p, d = .tuple [.str wL, p] ∧ wd = wL) ∨ (∃ p, d = .tuple [.str wS, p] ∧ wd = wS) ∨ (∃ p n, d = .tuple [.str wR, p, n] ∧ wd = wR) := by
  unfold formD at h
  split at h
  · rename_i x r
    unfold fm at h
    split at h
    · rename_i c
      rw [Bool.and_eq_true, decide_eq_true_eq, decide_eq_true_eq] at c
      obtain ⟨rfl, l⟩ := c
      match r, l with
      | [p], _ =>
        cases h
        exact .inl ⟨p, rfl, rfl⟩
    · split at h
      · rename_i c
        rw [Bool.and_eq_true, decide_eq_true_eq, decide_eq_true_eq] at c
        obtain ⟨rfl, l⟩ := c
        match r, l with
        | [p], _ =>
          cases h
          exact .inr (.inl ⟨p, rfl, rfl⟩)
      · split at h
        · rename_i c
          rw [Bool.and_eq_true, decide_eq_true_eq, decide_eq_true_eq] at c
          obtain ⟨rfl, l⟩ := c
          match r, l with
          | [p, n], _ =>
            cases h
            exact .inr (.inr ⟨p, n, rfl, rfl⟩)
        · cases h
  · cases h
section
variable {P : Program} {w : World} {K : PySem.W.Frag} {mg : Str → Option Value} {base : Heap} {f CR CP : Addr} {fd : FuncData}
theorem scNeedForm : FnScope ["paper", "forms", "word", "many"] ["paper", "forms"] (defScope sNeedForm) := ⟨rfl, rfl, rfl, by decide +kernel, rfl, by decide +kernel, by decide +kernel⟩
theorem ok_needForm (F : Fun K "need_form" "need_form" sNeedForm f fd) (T : Blt mg) (st : mg "str" = none) (EP_ : ErrOkW P w K mg base "BadPaper" "part" CP) : FnOk P w K mg base (L2.CX P w) 3 f fd ["paper", "forms"] (spNeedForm K CP) := by
  refine F.okX scNeedForm (fun vs H Q E h => ?_) (fun cdv A outer s H vs Q E hr h => ?_)
  · obtain ⟨v, d, _, _, _, _, rfl, _⟩ := h
    rfl
  · obtain ⟨v, d, a, f1, f2, f3, rfl, hd, fs, k1, k2⟩ := h
    refine ⟨_, C8.pss_cut (ps_if (PW.pt (pw_and (pt_val (pe_callB call_isi (by rfl) T.isinstance (by decide +kernel) (pa_cons (pv 0) (pa_cons (pe_bltn (v := .ty "tuple") (by rfl) T.tuple (by decide +kernel) rfl) pa_nil))))
          (pw_and (pt_cmpR op_gt (pe_callB call_len_seq (by rfl) T.len (by decide +kernel) (pa_cons (pv 0) pa_nil)) pe_int (nomark _))
            (pw_and1 (pt_val (pe_callB call_isi (by rfl) T.isinstance (by decide +kernel) (pa_cons (pe_ix ix_tup (pv 0) pe_int (fun _ _ => rfl)) (pa_cons (pe_bltn (v := .ty "str") (by rfl) st (by decide +kernel) rfl) pa_nil))))))))
        (pss_one (ps_for (passes_of rfl) rfl (pi_tup (pv 1)) (pg_tup rfl (pgs_cons (pg_name (i := 2) scNeedForm.nd rfl (.inl rfl)) (pgs_cons (pg_name (i := 3) scNeedForm.nd rfl (.inl rfl)) pgs_nil)))
          (pss_one (ps_if (PW.pt (pw_and (pt_cmpR op_eq (pe_ix ix_tup (pv 0) pe_int (fun _ _ => rfl)) (pv 2) (nomark _)) (pw_and1 (pt_cmpR op_eq (pe_callB call_len_seq (by rfl) T.len (by decide +kernel) (pa_cons (pv 0) pa_nil)) (pv 3) (nomark _))))) (pss_one (ps_ret (pv 2))) pss_nil)))) pss_nil)
      (pss_one (ps_rzW rfl EP_ hr (by decide) (takes_of rfl rfl rfl rfl) pe_str (by rfl))), ?_⟩
    -- what raises
    have rz : formD d = none → ∀ H', Same H H' → ∀ dd, H' dd = none → E (.ref CP) (some dd) (upd H' dd (.xd [("part", .str "form")])) := fun e H' s => k2 e H' s
    refine ⟨fun σ H' => Same H H' ∧ formD d = none, ?_, fun σ H' z => k2 z.2 H' z.1⟩
    refine ⟨_, rfl, v, _, _, _, _, rfl, .ty _, hd.ty, kitT K d, _, rfl, ?_⟩
    cases d with
    | none => exact iteF ⟨fun _ _ z => z, rfl⟩
    | bool _ => exact iteF ⟨fun _ _ z => z, rfl⟩
    | int _ => exact iteF ⟨fun _ _ z => z, rfl⟩
    | str _ => exact iteF ⟨fun _ _ z => z, rfl⟩
    | list _ => exact iteF ⟨fun _ _ z => z, rfl⟩
    | dict _ => cases hd
    | tuple ds =>
      refine iteT ?_
      cases hd with
      | tup hS hA =>
        rename_i p xs
        refine ⟨_, rfl, p, _, rfl, .inr hS, _, _, rfl, rfl, _, rfl, ?_⟩
        cases hA with
        | nil => exact iteF ⟨fun _ _ z => z, rfl⟩
        | cons h1 h2 =>
          rename_i u us e es
          refine ite2 (fun _ => ?_) (fun c => absurd (decide_eq_true (by rw [List.length_cons]; omega)) c)
          refine ⟨_, rfl, p, _, 0, _, rfl, rfl, hS, atI_nat (j := 0) rfl, u, _, _, _, _, rfl, .ty _, h1.ty, kitS K e, _, rfl, ?_⟩
          cases e with
          | none => exact iteF ⟨fun _ _ z => z, rfl⟩
          | bool _ => exact iteF ⟨fun _ _ z => z, rfl⟩
          | int _ => exact iteF ⟨fun _ _ z => z, rfl⟩
          | tuple _ => exact iteF ⟨fun _ _ z => z, rfl⟩
          | list _ => exact iteF ⟨fun _ _ z => z, rfl⟩
          | dict _ => cases h1
          | str x =>
            cases h1
            refine iteT ?_
            have ll := dpAll_len h2
            have fE : formD (.tuple (.str x :: es)) = if fm x (es.length + 1) wL 2 = true then some wL else if fm x (es.length + 1) wS 2 = true then some wS else if fm x (es.length + 1) wR 3 = true then some wR else none := rfl
            have one : ∀ (H1 : Hp) (T : Addr) (y : Str) (n : Nat) (v2 v3 : Option V) (N : L2.St → Hp → Prop) (R : VK) (g : Addr), Same H H1 → SqT K H1 g [.str y, .int n] → True := fun _ _ _ _ _ _ _ _ _ _ _ => trivial
            refine ⟨_, rfl, a, rfl, ⟨_, (fs H).1⟩, for_tup (K := K) (a := a) (xs := [.ref f1, .ref f2, .ref f3]) (fun i σ H1 => Same H H1 ∧ (1 ≤ i → fm x (es.length + 1) wL 2 = false) ∧ (2 ≤ i → fm x (es.length + 1) wS 2 = false) ∧ (3 ≤ i → fm x (es.length + 1) wR 3 = false) ∧ ∃ v2 v3, σ = [some (V.ref p), some (V.ref a), v2, v3])
              ⟨fun _ _ z => z, fun h => absurd h (by decide), fun h => absurd h (by decide), fun h => absurd h (by decide), none, none, rfl⟩ (fun i σ H1 _ q => (fs H1).1) ?_ ?_⟩
            · rintro i y σ H1 hi ⟨s1, m1, m2, m3, v2, v3, rfl⟩
              have hS1 := Bs.Same.t s1 hS
              obtain ⟨fa, f1', f2', f3'⟩ := fs H1
              have go : ∀ (g : Addr) (y : Str) (n : Nat) (W : Prop), SqT K H1 g [.str y, .int n] → True := fun _ _ _ _ _ => trivial
              have i3 : i < 3 := (List.getElem?_eq_some_iff.mp hi).1
              rcases (by omega : i = 0 ∨ i = 1 ∨ i = 2) with rfl | rfl | rfl
              · cases hi
                refine ⟨f1, _, rfl, f1', rfl, _, _, rfl, _, _, rfl, rfl, ?_⟩
                refine ⟨_, rfl, p, _, 0, _, rfl, rfl, hS1, atI_nat (j := 0) rfl, _, rfl, rfl, _, rfl, ?_⟩
                by_cases c1 : x = wL
                · rw [show decide (V.str x = V.str wL) = true from decide_eq_true (by rw [c1])]
                  refine iteT ⟨_, rfl, p, _, rfl, .inr hS1, _, rfl, rfl, _, rfl, ?_⟩
                  by_cases c2 : es.length + 1 = 2
                  · rw [show decide (V.int (((V.str x :: us).length : Nat) : Int) = V.int 2) = true from decide_eq_true (by rw [List.length_cons]; congr 1; omega)]
                    refine iteT ⟨_, rfl, k1 wL ?_ H1 s1⟩
                    rw [fE, if_pos (by unfold fm; rw [decide_eq_true c1, decide_eq_true c2]; rfl)]
                  · rw [show decide (V.int (((V.str x :: us).length : Nat) : Int) = V.int 2) = false from decide_eq_false (fun z => by have := V.int.inj z; rw [List.length_cons] at this; omega)]
                    exact iteF ⟨s1, fun _ => by unfold fm; rw [decide_eq_false c2, Bool.and_false], fun h => absurd h (by decide), fun h => absurd h (by decide), _, _, rfl⟩
                · rw [show decide (V.str x = V.str wL) = false from decide_eq_false (fun z => c1 (V.str.inj z))]
                  exact iteF ⟨s1, fun _ => by unfold fm; rw [decide_eq_false c1, Bool.false_and], fun h => absurd h (by decide), fun h => absurd h (by decide), _, _, rfl⟩
              · cases hi
                have m1 := m1 (by decide)
                refine ⟨f2, _, rfl, f2', rfl, _, _, rfl, _, _, rfl, rfl, ?_⟩
                refine ⟨_, rfl, p, _, 0, _, rfl, rfl, hS1, atI_nat (j := 0) rfl, _, rfl, rfl, _, rfl, ?_⟩
                by_cases c1 : x = wS
                · rw [show decide (V.str x = V.str wS) = true from decide_eq_true (by rw [c1])]
                  refine iteT ⟨_, rfl, p, _, rfl, .inr hS1, _, rfl, rfl, _, rfl, ?_⟩
                  by_cases c2 : es.length + 1 = 2
                  · rw [show decide (V.int (((V.str x :: us).length : Nat) : Int) = V.int 2) = true from decide_eq_true (by rw [List.length_cons]; congr 1; omega)]
                    refine iteT ⟨_, rfl, k1 wS ?_ H1 s1⟩
                    rw [fE, m1, if_neg (by decide), if_pos (by unfold fm; rw [decide_eq_true c1, decide_eq_true c2]; rfl)]
                  · rw [show decide (V.int (((V.str x :: us).length : Nat) : Int) = V.int 2) = false from decide_eq_false (fun z => by have := V.int.inj z; rw [List.length_cons] at this; omega)]
                    exact iteF ⟨s1, fun _ => m1, fun _ => by unfold fm; rw [decide_eq_false c2, Bool.and_false], fun h => absurd h (by decide), _, _, rfl⟩
                · rw [show decide (V.str x = V.str wS) = false from decide_eq_false (fun z => c1 (V.str.inj z))]
                  exact iteF ⟨s1, fun _ => m1, fun _ => by unfold fm; rw [decide_eq_false c1, Bool.false_and], fun h => absurd h (by decide), _, _, rfl⟩
              · cases hi
                have m1 := m1 (by decide)
                have m2 := m2 (by decide)
                refine ⟨f3, _, rfl, f3', rfl, _, _, rfl, _, _, rfl, rfl, ?_⟩
                refine ⟨_, rfl, p, _, 0, _, rfl, rfl, hS1, atI_nat (j := 0) rfl, _, rfl, rfl, _, rfl, ?_⟩
                by_cases c1 : x = wR
                · rw [show decide (V.str x = V.str wR) = true from decide_eq_true (by rw [c1])]
                  refine iteT ⟨_, rfl, p, _, rfl, .inr hS1, _, rfl, rfl, _, rfl, ?_⟩
                  by_cases c2 : es.length + 1 = 3
                  · rw [show decide (V.int (((V.str x :: us).length : Nat) : Int) = V.int 3) = true from decide_eq_true (by rw [List.length_cons]; congr 1; omega)]
                    refine iteT ⟨_, rfl, k1 wR ?_ H1 s1⟩
                    rw [fE, m1, m2, if_neg (by decide), if_neg (by decide), if_pos (by unfold fm; rw [decide_eq_true c1, decide_eq_true c2]; rfl)]
                  · rw [show decide (V.int (((V.str x :: us).length : Nat) : Int) = V.int 3) = false from decide_eq_false (fun z => by have := V.int.inj z; rw [List.length_cons] at this; omega)]
                    exact iteF ⟨s1, fun _ => m1, fun _ => m2, fun _ => by unfold fm; rw [decide_eq_false c2, Bool.and_false], _, _, rfl⟩
                · rw [show decide (V.str x = V.str wR) = false from decide_eq_false (fun z => c1 (V.str.inj z))]
                  exact iteF ⟨s1, fun _ => m1, fun _ => m2, fun _ => by unfold fm; rw [decide_eq_false c1, Bool.false_and], _, _, rfl⟩
            · rintro σ H1 ⟨s1, m1, m2, m3, v2, v3, rfl⟩
              refine ⟨s1, ?_⟩
              rw [fE, m1 (by show 1 ≤ 3; decide), m2 (by show 2 ≤ 3; decide), m3 (by show 3 ≤ 3; decide), if_neg (by decide), if_neg (by decide), if_neg (by decide)]
end
end Rs


set_option Elab.async false
set_option linter.all false
set_option maxRecDepth 100000
set_option maxHeartbeats 1000000
namespace Rs
open PySem L2 Bs Fq LamX RZ
theorem shaped_dP (qs : List F) : SeqAt.shaped (dP qs) = true := by
  unfold SeqAt.shaped
  rw [Bool.and_eq_true_iff]
  refine ⟨?_, decide_eq_true ?_⟩
  · simpa [dP, PyData.canLay0] using can_dFs qs
  · have := dep_dFs qs
    simp only [dP, PyData.depth]
    omega
theorem shaped_iff {d : PyData} : SeqAt.shaped d = true ↔ d.canLay0 = true ∧ d.depth ≤ 64 := by
  unfold SeqAt.shaped
  rw [Bool.and_eq_true, decide_eq_true_eq]
theorem can_dP (qs : List F) : (dP qs).canLay0 = true ∧ (dP qs).depth ≤ 4 := by
  refine ⟨(shaped_iff.mp (shaped_dP qs)).1, ?_⟩
  have := dep_dFs qs
  simp only [dP, PyData.depth]
  omega
theorem shaped_papD (qs : List F) (J : Nat) : SeqAt.shaped (papD qs J) = true := by
  have lad : SeqAt.shaped (.tuple [.str wL, dLad qs J]) = true := by
    rw [shaped_iff]
    have h1 := can_dP (lvlsC qs J)
    have h2 := can_dP (stpsC qs J)
    refine ⟨?_, ?_⟩
    · simp [PyData.canLay0, PyData.canLayAll0, dLad, dF, h1.1, h2.1]
      decide +kernel
    · simp only [PyData.depth, PyData.depthAll, dLad, dF]
      omega
  have h := can_dP (rg (rv qs) J)
  unfold papD
  split
  · rw [shaped_iff]
    refine ⟨?_, ?_⟩
    · simp [PyData.canLay0, PyData.canLayAll0, h.1]
      decide +kernel
    · simp only [PyData.depth, PyData.depthAll]
      omega
  · split
    · split
      · rw [shaped_iff]
        refine ⟨?_, ?_⟩
        · simp [PyData.canLay0, PyData.canLayAll0, h.1]
          decide +kernel
        · simp only [PyData.depth, PyData.depthAll]
          omega
      · exact lad
    · exact lad
theorem q_of {Q : VK} {H : Hp} {b c : Bool} (e : b = c) (h : Q (.bl b) H) : Q (.bl c) H := e ▸ h
theorem rsN_int (qs w : List F) (k : Int) : rsN qs w (.int k) = (decide (0 ≤ k) && (decide ((w.length : Int) + k ≤ qs.length) && (decide (sq2 qs 0 w w = 0) && miss qs w k.toNat))) := rfl
section
variable {P : Program} {w : World} {K : PySem.W.Frag} {mg : Str → Option Value} {base : Heap} {f CR CP : Addr} {fd : FuncData}
theorem scSqHold : FnScope ["row", "poly"] ["row", "poly"] (defScope sSqHold) := ⟨rfl, rfl, rfl, by decide +kernel, rfl, by decide +kernel, by decide +kernel⟩
theorem ok_sqHold (F : Fun K "does_square_hold" "does_square_hold" sSqHold f fd) (T : Blt mg) (IP : Cal P w K mg base 4 "is_poly" (spIsPoly K)) (SQ2 : C8.Cal P w K mg base 5 "square_sum" (spSquare K) [.int 0]) : FnOk P w K mg base CX0 6 f fd ["row", "poly"] (spSqHold K) := by
  refine F.ok scSqHold (fun vs H Q E h => ?_) (fun cdv A outer s H vs Q E hr h => ?_)
  · obtain ⟨x, y, qs, p, rfl, _⟩ := h
    rfl
  · obtain ⟨x, y, qs, p, rfl, px, R, dp, SO, kk⟩ := h
    obtain ⟨b, xs, rfl, sx, fx⟩ := id px
    refine ⟨_, pss_one (ps_ret (pe_and (pe_n IP hr (by decide) (by rfl) (pa_cons (pv 1) pa_nil))
      (pe_and (pe_cmpR op_le (pe_op op_sub (pe_op op_mul pe_int (pe_callB call_len_seq (by rfl) T.len (by decide +kernel) (pa_cons (pv 1) pa_nil))) pe_int) (pe_callB call_len_seq (by rfl) T.len (by decide +kernel) (pa_cons (pv 0) pa_nil)) (nomark _))
        (pe_one (pe_cmpR op_lt (pe_ix ix_tup (C8.pe_c SQ2 hr (by decide) (by rfl) (pa_cons (pv 0) (pa_cons (pv 1) pa_nil))) pe_int (fun _ _ => rfl)) pe_int (nomark _)))))), ?_⟩
    refine ⟨_, rfl, y, p, rfl, dp, fun H1 s1 => ⟨_, rfl, ?_⟩⟩
    have k1 := kk H1 s1
    unfold sqD at k1
    cases e : polyD p with
    | false =>
      rw [e] at k1
      exact iteF k1
    | true =>
      obtain ⟨wq, rfl, ok, lw⟩ := polyD_dP e
      rw [e, Bool.true_and, unP_dP] at k1
      have pw_ := (dp_po dp).mono s1
      obtain ⟨c, ys, rfl, sy, fy⟩ := id pw_
      have lx := fx.len
      have ly := fy.len
      refine iteT ⟨_, rfl, c, ys, rfl, .inr sy, _, _, rfl, rfl, .inl ⟨by decide, by decide⟩, _, _, rfl, rfl, _, rfl, b, xs, rfl, .inr (Bs.Same.t s1 sx), _, _, rfl, rfl, _, rfl, ?_⟩
      have es : short qs wq = decide (2 * (ys.length : Int) - 1 ≤ (xs.length : Int)) := by
        unfold short
        rw [lx, ly]
      refine ite2 (fun cc => ?_) (fun cc => ?_)
      · rw [es, cc, Bool.true_and] at k1
        have sh : short qs wq = true := by rw [es, cc]
        obtain ⟨D, a, c1, b1, b2, b3, b4⟩ := (SO wq rfl e sh).ex
        refine ⟨_, rfl, _, rfl, .ref b, .ref c, wq, qs, 0, D, 256, a, 30, rfl, px.mono s1, pw_, c1, R.c, b1, Bd.of (by decide) (N := 8) (by decide) (by decide) (by decide), b2, b3, lw, fun H2 u s2 fu => ?_⟩
        rw [square_is c1 R 0] at fu
        obtain ⟨au, rfl, su⟩ := fu
        refine ⟨au, _, 0, _, rfl, rfl, su, atI_nat (j := 0) rfl, _, _, rfl, rfl, ?_⟩
        have ec : decide ((rf (sq2 qs 0 wq wq)).1 < 0) = decide (sq2 qs 0 wq wq < 0) := decide_eq_decide.mpr rf_top_neg
        have k2 := kk H2 (s1.trans s2)
        unfold sqD at k2
        rw [e, Bool.true_and, unP_dP, es, cc, Bool.true_and] at k2
        exact q_of ec.symm k2
      · have : decide (2 * (ys.length : Int) - 1 ≤ (xs.length : Int)) = false := Bool.eq_false_iff.mpr cc
        rw [es, this, Bool.false_and] at k1
        exact k1
theorem scRsHold : FnScope ["row", "poly", "number"] ["row", "poly", "number"] (defScope sRsHold) := ⟨rfl, rfl, rfl, by decide +kernel, rfl, by decide +kernel, by decide +kernel⟩
theorem ok_rsHold (F : Fun K "does_rest_hold" "does_rest_hold" sRsHold f fd) (T : Blt mg) (Z : Nou K mg) (WH : Cal P w K mg base 1 "is_whole" (spWhole K)) (IP : Cal P w K mg base 4 "is_poly" (spIsPoly K)) (SQ2 : C8.Cal P w K mg base 5 "square_sum" (spSquare K) [.int 0]) (RS : Cal P w K mg base 4 "row_sum" (spRowSum K)) : FnOk P w K mg base CX0 6 f fd ["row", "poly", "number"] (spRsHold K) := by
  refine F.ok scRsHold (fun vs H Q E h => ?_) (fun cdv A outer s H vs Q E hr h => ?_)
  · obtain ⟨x, y, z, qs, p, n, rfl, _⟩ := h
    rfl
  · obtain ⟨x, y, v, qs, p, n, rfl, px, R, dp, dn, SO, kk⟩ := h
    obtain ⟨b, xs, rfl, sx, fx⟩ := id px
    obtain ⟨z, mz, sz⟩ := Z.ex
    refine ⟨_, C8.pss_cut (ps_if (PW.pt (pw_or (pt_not (pt_val (pe_n IP hr (by decide) (by rfl) (pa_cons (pv 1) pa_nil)))) (pw_or (pt_cmpR op_eq (pe_callB call_len_seq (by rfl) T.len (by decide +kernel) (pa_cons (pv 1) pa_nil)) pe_int (nomark _))
          (pw_or1 (pt_cmpR op_gt (pe_op op_sub (pe_op op_mul pe_int (pe_callB call_len_seq (by rfl) T.len (by decide +kernel) (pa_cons (pv 1) pa_nil))) pe_int) (pe_callB call_len_seq (by rfl) T.len (by decide +kernel) (pa_cons (pv 0) pa_nil)) (nomark _)))))) (pss_one (ps_ret pe_bl)) pss_nil)
      (C8.pss_cut (ps_if (PW.pt (pw_or (pt_not (pt_val (pe_n WH hr (by decide) (by rfl) (pa_cons (pv 2) pa_nil)))) (pw_or (pt_cmpR op_lt (pv 2) pe_int (nomark _))
          (pw_or1 (pt_cmpR op_gt (pe_op op_add (pe_callB call_len_seq (by rfl) T.len (by decide +kernel) (pa_cons (pv 1) pa_nil)) (pv 2)) (pe_callB call_len_seq (by rfl) T.len (by decide +kernel) (pa_cons (pv 0) pa_nil)) (nomark _)))))) (pss_one (ps_ret pe_bl)) pss_nil)
      (pss_one (ps_ret (pe_and (pe_cmpR (op_eqD hr.units) (C8.pe_c SQ2 hr (by decide) (by rfl) (pa_cons (pv 0) (pa_cons (pv 1) pa_nil))) (pe_glob (v := .ref z) (by rfl) mz rfl) (nomark _))
        (pe_one (pe_cmpR (op_neD hr.units) (pe_n RS hr (by decide) (by rfl) (pa_cons (pv 0) (pa_cons (pv 1) (pa_cons (pv 2) pa_nil)))) (pe_glob (v := .ref z) (by rfl) mz rfl) (nomark _))))))), ?_⟩
    refine ⟨fun σ H1 => Same H H1 ∧ (∃ wq, p = dP wq ∧ polyD p = true ∧ wq.length ≠ 0 ∧ wq.length ≤ 12 ∧ short qs wq = true) ∧ σ = [some (V.ref b), some y, some v], ?_, ?_⟩
    · refine ⟨_, rfl, y, p, rfl, dp, fun H1 s1 => ⟨_, rfl, ?_⟩⟩
      have k1 := kk H1 s1
      unfold rsD at k1
      by_cases e : polyD p = true
      case neg =>
        have e := Bool.eq_false_iff.mpr e
        rw [e] at k1 ⊢
        exact iteT (iteT k1)
      case pos =>
        obtain ⟨wq, rfl, ok, lw⟩ := polyD_dP e
        rw [e, Bool.true_and, unP_dP] at k1
        rw [e]
        obtain ⟨c, ys, rfl, sy, fy⟩ := (dp_po dp).mono s1
        have lx := fx.len
        have ly := fy.len
        refine iteF ⟨_, rfl, c, ys, rfl, .inr sy, rfl, _, rfl, ?_⟩
        by_cases c1 : wq.length = 0
        · rw [decide_eq_true c1] at k1
          rw [show decide (V.int (ys.length : Int) = V.int 0) = true from decide_eq_true (by congr 1; omega)]
          exact iteT (iteT k1)
        · rw [decide_eq_false c1, Bool.not_false, Bool.true_and] at k1
          rw [show decide (V.int (ys.length : Int) = V.int 0) = false from decide_eq_false (fun z => by have := V.int.inj z; omega)]
          refine iteF ⟨_, rfl, c, ys, rfl, .inr sy, _, _, rfl, rfl, .inl ⟨by decide, by decide⟩, _, _, rfl, rfl, _, rfl, b, xs, rfl, .inr (Bs.Same.t s1 sx), _, _, rfl, rfl, _, rfl, ?_⟩
          by_cases c2 : 2 * (wq.length : Int) - 1 ≤ qs.length
          · rw [decide_eq_false (by omega)]
            exact iteF ⟨s1, ⟨wq, rfl, by first | exact e | rfl, c1, lw, decide_eq_true c2⟩, rfl⟩
          · rw [show short qs wq = false from decide_eq_false c2, Bool.false_and] at k1
            rw [decide_eq_true (by omega)]
            exact iteT k1
    rintro σ H1 ⟨s1, ⟨wq, rfl, e, c1, lw, sh⟩, rfl⟩
    have ek : ∀ m, rsD qs (dP wq) m = rsN qs wq m := fun m => by
      unfold rsD
      rw [e, unP_dP, sh, decide_eq_false c1]
      rfl
    rw [ek] at kk
    refine ⟨fun σ H2 => Same H1 H2 ∧ (∃ k : Nat, n = .int k ∧ v = .int k ∧ wq.length + k ≤ qs.length) ∧ σ = [some (V.ref b), some y, some v], ?_, ?_⟩
    · refine ⟨_, rfl, v, n, rfl, dps s1 dn, _, rfl, ?_⟩
      have no : wholeD n = false → rsN qs wq n = false := fun z => by
        cases n with
        | int k => cases z
        | _ => rfl
      cases ew : wholeD n with
      | false =>
        have k1 := kk H1 s1
        rw [no ew] at k1
        exact iteT (iteT k1)
      | true =>
        cases n with
        | int k =>
          cases dn
          have k1 := kk H1 s1
          obtain ⟨c, ys, rfl, sy, fy⟩ := (dp_po dp).mono s1
          have lx := fx.len
          have ly := fy.len
          refine iteF ⟨_, rfl, _, _, rfl, rfl, _, rfl, ?_⟩
          by_cases c3 : k < 0
          · rw [decide_eq_true c3]
            rw [show rsN qs wq (.int k) = false from by rw [rsN_int, decide_eq_false (by omega : ¬ 0 ≤ k)]; rfl] at k1
            exact iteT (iteT k1)
          · rw [decide_eq_false c3]
            refine iteF ⟨_, rfl, c, ys, rfl, .inr sy, _, rfl, _, _, rfl, rfl, _, rfl, b, xs, rfl, .inr (Bs.Same.t s1 sx), _, _, rfl, rfl, _, rfl, ?_⟩
            by_cases c4 : (wq.length : Int) + k ≤ qs.length
            · rw [decide_eq_false (by omega)]
              obtain ⟨kn, rfl⟩ : ∃ kn : Nat, k = (kn : Int) := ⟨k.toNat, by omega⟩
              exact iteF ⟨fun _ _ z => z, ⟨kn, rfl, rfl, by omega⟩, rfl⟩
            · rw [decide_eq_true (by omega)]
              rw [show rsN qs wq (.int k) = false from by rw [rsN_int, decide_eq_false c4, Bool.false_and, Bool.and_false]] at k1
              exact iteT k1
        | _ => cases ew
    rintro σ H2 ⟨s2, ⟨k, rfl, rfl, c5⟩, rfl⟩
    have s12 := s1.trans s2
    have pw_ := (dp_po dp).mono s12
    obtain ⟨D, a, c1', b1, b2, b3, b4⟩ := (SO wq rfl e sh).ex
    have en : rsN qs wq (.int k) = (decide (sq2 qs 0 wq wq = 0) && miss qs wq k) := by
      rw [rsN_int, decide_eq_true (by omega : (0 : Int) ≤ (k : Int)), decide_eq_true (by omega : (wq.length : Int) + (k : Int) ≤ qs.length), Int.toNat_natCast]
      rfl
    rw [en] at kk
    have bM : Bd 256 30 := Bd.of (by decide) (N := 8) (by decide) (by decide) (by decide)
    refine ⟨_, rfl, _, rfl, .ref b, y, wq, qs, 0, D, 256, a, 30, rfl, px.mono s12, pw_, c1', R.c, b1, bM, b2, b3, lw, fun H3 u s3 fu => ?_⟩
    rw [square_is c1' R 0] at fu
    refine ⟨dF (rf (sq2 qs 0 wq wq)), dF (0, 1), fu.dp, (show Fr K H3 (.ref z) (0, 1) from ⟨z, rfl, sz H3⟩).dp, rfl, rfl, _, rfl, ?_⟩
    rw [eqv_nought, show decide (rf (sq2 qs 0 wq wq) = (0, 1)) = decide (sq2 qs 0 wq wq = 0) from decide_eq_decide.mpr rf_eq0]
    have k3 := kk H3 (s12.trans s3)
    refine ite2 (fun cc => ?_) (fun cc => ?_)
    · refine ⟨_, rfl, _, rfl, _, rfl, .ref b, y, wq, qs, k, D, 256, a, 30, rfl, px.mono (s12.trans s3), pw_.mono s3, c1', R.c, b1, bM, b4, by omega, fun H4 u2 s4 fu2 => ?_⟩
      rw [sumBy_is c1' R.c k] at fu2
      refine ⟨dF (rf (ws qs k wq)), dF (0, 1), fu2.dp, (show Fr K H4 (.ref z) (0, 1) from ⟨z, rfl, sz H4⟩).dp, rfl, rfl, ?_⟩
      rw [eqv_nought]
      have k4 := kk H4 ((s12.trans s3).trans s4)
      rw [cc, Bool.true_and] at k4
      have em : miss qs wq k = !decide (rf (ws qs k wq) = (0, 1)) := by
        unfold miss
        rw [← decide_not]
      rw [em] at k4
      exact k4
    · have cf := Bool.eq_false_iff.mpr cc
      rw [cf] at k3
      exact k3
theorem scHold : FnScope ["row", "paper"] ["row", "paper"] (defScope sHold) := ⟨rfl, rfl, rfl, by decide +kernel, rfl, by decide +kernel, by decide +kernel⟩
theorem ok_hold (F : Fun K "does_hold" "does_hold" sHold f fd) (SH : Cal P w K mg base 6 "does_square_hold" (spSqHold K)) (RH : Cal P w K mg base 6 "does_rest_hold" (spRsHold K)) (IL : Cal P w K mg base 4 "is_ladder" (spIsLad K)) (PO : Cal P w K mg base 7 "paper_of" (spPaperOf K)) : FnOk P w K mg base CX0 8 f fd ["row", "paper"] (spHold K) := by
  refine F.ok scHold (fun vs H Q E h => ?_) (fun cdv A outer s H vs Q E hr h => ?_)
  · obtain ⟨x, y, qs, d, wd, rfl, _⟩ := h
    rfl
  · obtain ⟨x, y, qs, d, wd, rfl, px, R, dd, fe, SO, shp, kk⟩ := h
    refine ⟨_, pss_cons (ps_if (pt_cmpR op_eq (pe_ix ix_tup (pv 1) pe_int (fun _ _ => rfl)) pe_str (nomark _)) (pss_one (ps_ret (pe_n SH hr (by decide) (by rfl) (pa_cons (pv 0) (pa_cons (pe_ix ix_tup (pv 1) pe_int (fun _ _ => rfl)) pa_nil))))) pss_nil)
      (pss_cons (ps_if (pt_cmpR op_eq (pe_ix ix_tup (pv 1) pe_int (fun _ _ => rfl)) pe_str (nomark _)) (pss_one (ps_ret (pe_n RH hr (by decide) (by rfl) (pa_cons (pv 0) (pa_cons (pe_ix ix_tup (pv 1) pe_int (fun _ _ => rfl)) (pa_cons (pe_ix ix_tup (pv 1) pe_int (fun _ _ => rfl)) pa_nil)))))) pss_nil)
      (pss_one (ps_ret (pe_and (pe_n IL hr (by decide) (by rfl) (pa_cons (pe_ix ix_tup (pv 1) pe_int (fun _ _ => rfl)) pa_nil)) (pe_one (pe_cmpR (op_eqD hr.units) (pe_n PO hr (by decide) (by rfl) (pa_cons (pv 0) pa_nil)) (pv 1) (nomark _))))))), ?_⟩
    rcases form_cases fe with ⟨p, rfl, rfl⟩ | ⟨p, rfl, rfl⟩ | ⟨p, n, rfl, rfl⟩
    · obtain ⟨a, xs, rfl, sq, da⟩ := dp_word2 dd
      cases da with
      | cons h1 h2 =>
        cases h2
        refine ⟨_, rfl, a, _, 0, _, rfl, rfl, sq, atI_nat (j := 0) rfl, rfl, _, rfl, ?_⟩
        rw [decide_eq_false (by decide)]
        refine iteF ⟨_, rfl, a, _, 0, _, rfl, rfl, sq, atI_nat (j := 0) rfl, rfl, _, rfl, ?_⟩
        rw [decide_eq_false (by decide)]
        refine iteF ⟨_, rfl, a, _, 1, _, rfl, rfl, sq, atI_nat (j := 1) rfl, _, p, rfl, h1, fun H1 s1 => ⟨_, rfl, ?_⟩⟩
        have eh : ∀ J, holdD qs J (.tuple [.str wL, p]) = (ladderD p && PyData.eqv (papD qs J) (.tuple [.str wL, p])) := fun J => by
          show (if wL = wS then sqD qs p else ladderD p && PyData.eqv (papD qs J) (.tuple [.str wL, p])) = _
          rw [if_neg (by decide)]
        cases el : ladderD p with
        | false =>
          refine iteF (kk H1 _ s1 fun J _ => ?_)
          rw [eh, el, Bool.false_and]
        | true =>
          refine iteT ⟨_, rfl, x, qs, rfl, px.mono s1, R, fun H2 u J s2 C du => ⟨_, rfl, ?_⟩⟩
          refine ⟨papD qs J, .tuple [.str wL, p], du, dps (s1.trans s2) dd, shaped_papD qs J, shp, ?_⟩
          refine kk H2 _ (s1.trans s2) fun J' C' => ?_
          rw [eh, el, Bool.true_and, C'.uniq C]
    · obtain ⟨a, xs, rfl, sq, da⟩ := dp_word2 dd
      cases da with
      | cons h1 h2 =>
        cases h2
        refine ⟨_, rfl, a, _, 0, _, rfl, rfl, sq, atI_nat (j := 0) rfl, rfl, _, rfl, ?_⟩
        rw [decide_eq_true rfl]
        refine iteT ⟨_, rfl, _, rfl, a, _, 1, _, rfl, rfl, sq, atI_nat (j := 1) rfl, x, _, qs, p, rfl, px, R, h1, SO, fun H1 s1 => kk H1 _ s1 fun J _ => ?_⟩
        rfl
    · obtain ⟨a, xs, rfl, sq, da⟩ := dp_word2 dd
      cases da with
      | cons h1 h2 =>
        cases h2 with
        | cons h3 h4 =>
          cases h4
          refine ⟨_, rfl, a, _, 0, _, rfl, rfl, sq, atI_nat (j := 0) rfl, rfl, _, rfl, ?_⟩
          rw [decide_eq_false (by decide)]
          refine iteF ⟨_, rfl, a, _, 0, _, rfl, rfl, sq, atI_nat (j := 0) rfl, rfl, _, rfl, ?_⟩
          rw [decide_eq_true rfl]
          refine iteT ⟨_, rfl, _, rfl, a, _, 1, _, rfl, rfl, sq, atI_nat (j := 1) rfl, _, rfl, a, _, 2, _, rfl, rfl, sq, atI_nat (j := 2) rfl, x, _, _, qs, p, n, rfl, px, R, h1, h3, SO, fun H1 s1 => kk H1 _ s1 fun J _ => rfl⟩
theorem scCheck : FnScope ["row", "paper", "word"] ["row", "paper"] (defScope sCheck) := ⟨rfl, rfl, rfl, by decide +kernel, rfl, by decide +kernel, by decide +kernel⟩
theorem ok_check (F : Fun K "check_row" "check_row" sCheck f fd) (FG : FormsG K mg) (EP_ : ErrOkW P w K mg base "BadPaper" "part" CP) (NR : CalX P w K mg base 5 "need_row" (spNeedRow K CR)) (NF : CalX P w K mg base 3 "need_form" (spNeedForm K CP)) (DH : Cal P w K mg base 8 "does_hold" (spHold K)) : FnOk P w K mg base (L2.CX P w) 9 f fd ["row", "paper"] (spCheck K CR CP) := by
  refine F.okX scCheck (fun vs H Q E h => ?_) (fun cdv A outer s H vs Q E hr h => ?_)
  · obtain ⟨x, y, d, e, rfl, _⟩ := h
    rfl
  · obtain ⟨x, y, d, e, rfl, hd, he, k1, k2⟩ := h
    obtain ⟨a, f1, f2, f3, mf, fs⟩ := FG.ex
    refine ⟨_, pss_cons (ps_expr (pe_x NR hr (by decide) (by rfl) (passes_call (takes_of rfl rfl rfl rfl) (fun _ _ _ _ h => h)) (pa_cons (pv 0) pa_nil)))
      (pss_cons (ps_set (i := 2) scCheck.nd rfl (Or.inl rfl) (pe_x NF hr (by decide) (by rfl) (passes_call (takes_of rfl rfl rfl rfl) (fun _ _ _ _ h => h)) (pa_cons (pv 1) (pa_cons (pe_glob (v := .ref a) (by rfl) mf rfl) pa_nil))))
      (pss_cons (ps_if (pt_not (pt_val (pe_n DH hr (by decide) (by rfl) (pa_cons (pv 0) (pa_cons (pv 1) pa_nil))))) (pss_one (ps_rzW rfl EP_ hr (by decide) (takes_of rfl rfl rfl rfl) (pv 2) (by rfl))) pss_nil)
      (pss_one (ps_ret (pv 2))))), ?_⟩
    refine ⟨_, rfl, x, d, rfl, hd, fun er H1 s1 => ?_, k1⟩
    obtain ⟨qs, rfl⟩ := rowD_dP er
    obtain ⟨R, k3, k4⟩ := k2 qs rfl er
    refine ⟨_, rfl, y, e, a, f1, f2, f3, rfl, dps s1 he, fs, fun wd ef H2 s2 => ?_, fun ef H2 s2 => k3 ef H2 (s1.trans s2)⟩
    obtain ⟨SO, shp, k5⟩ := k4 wd ef
    have s12 := s1.trans s2
    refine ⟨_, rfl, _, rfl, x, y, qs, e, wd, rfl, (dp_po hd).mono s12, R, dps s12 he, ef, SO, shp, fun H3 b s3 hb => ⟨_, rfl, ?_⟩⟩
    obtain ⟨k6, k7⟩ := k5 b hb
    cases b with
    | true => exact iteF ⟨_, rfl, k6 rfl H3 (s12.trans s3)⟩
    | false => exact iteT ⟨_, rfl, k7 rfl H3 (s12.trans s3)⟩
end
end Rs


set_option Elab.async false
set_option linter.all false
set_option maxRecDepth 100000
set_option maxHeartbeats 1000000
namespace Rs
open PySem L2 Bs Fq LamX RZ
theorem shaped_dF (q : F) : SeqAt.shaped (dF q) = true := by
  simp [SeqAt.shaped, dF, PyData.canLay0, PyData.canLayAll0, PyData.depth, PyData.depthAll]
abbrev sLTrim : Stmt := top 74
abbrev sLPoly : Stmt := top 75
def spLTrim (K : PySem.W.Frag) : Sp := fun vs H Q _ => ∃ (a : Addr) (xs : List V) (qs : List F), vs = [.ref a] ∧ (SqL K H a xs ∨ SqT K H a xs) ∧ FrAll K H xs qs ∧ xs.length ≤ 1000 ∧
  ∀ H' p, Same H H' → Po K H' (.ref p) (trim qs) → Q (.ref p) H'
section
variable {P : Program} {w : World} {K : PySem.W.Frag} {mg : Str → Option Value} {base : Heap} {f : Addr} {fd : FuncData}
theorem scLTrim : FnScope ["some", "found_so"] ["some"] (defScope sLTrim) := ⟨rfl, rfl, rfl, by decide +kernel, rfl, by decide +kernel, by decide +kernel⟩
theorem ok_ltrim (F : Fun K "_law_trim" "_law_trim" sLTrim f fd) (T : Blt mg) : FnOk P w K mg base CX0 1 f fd ["some"] (spLTrim K) := by
  refine F.ok scLTrim (fun vs H Q E h => ?_) (fun cdv A outer s H vs Q E hr h => ?_)
  · obtain ⟨a, xs, qs, rfl, _⟩ := h
    rfl
  · obtain ⟨a, xs, qs, rfl, sx, fx, l1, kk⟩ := h
    refine ⟨_, pss_cons (ps_set (i := 1) scLTrim.nd rfl (Or.inl rfl) (pe_callTy call_list_of (by rfl) T.list (by decide +kernel) (pa_cons (pv 0) pa_nil)))
      (pss_cons (ps_while PassesOwn.never (PW.pt (pw_and (pt_cmpR (op_neD hr.units) (pv 1) (pe_lst pa_nil) (nomark _)) (pw_and1 (pt_cmpR (op_eqD hr.units) (pe_ix ix_list (pv 1) (pe_un un_neg pe_int) (fun _ _ => rfl)) (pe_tup (pa_cons pe_int (pa_cons pe_int pa_nil))) (nomark _)))))
        (pss_one (ps_expr (pe_bm0 PySem.F.plainAttrs_list PySem.F.slot_list_pop PySem.F.type_list_pop mt_pop (pv 1)))))
      (pss_one (ps_ret (pe_callTy call_tuple_of (by rfl) T.tuple (by decide +kernel) (pa_cons (pv 1) pa_nil))))), ?_⟩
    have lx := fx.len
    refine ⟨_, rfl, a, xs, rfl, sx, fun L hL => ?_⟩
    have s0 := same_new (o := .lst xs) hL
    refine ⟨fun m σ H1 => Same H H1 ∧ m ≤ qs.length ∧ trim qs = trimN qs m ∧ H1 L = some (.lst (xs.take m)) ∧ σ = [some (V.ref a), some (V.ref L)], ⟨qs.length, s0, Nat.le_refl _, rfl, by rw [upd_same, ← lx, List.take_length], rfl⟩, ?_⟩
    rintro m σ H1 ⟨s1, hm, e, hL1, rfl⟩
    have nL : ∀ {c : Addr} {o : HO}, H c = some o → c ≠ L := fun z => ne_of_none z hL
    have fin : ∀ H2, Same H1 H2 → trim qs = qs.take m → tRet (tCB (fun xs H_1 Q => ∃ p ys, xs = [V.ref p] ∧ ((SqL K H_1 p ys ∧ ∀ (l : Addr), H_1 l = none → Q (V.ref l) (upd H_1 l (HO.tup ys))) ∨ (SqT K H_1 p ys ∧ Q (V.ref p) H_1))) (tCons (tVar 1) tNil))
        { nx := fun _ H' => Q .non H', rt := Q } [some (V.ref a), some (V.ref L)] H2 := by
      intro H2 s2 et
      refine ⟨_, rfl, L, _, rfl, Or.inl ⟨SqL.of (s2 _ _ hL1), fun p hp => ?_⟩⟩
      have s3 := same_new (o := .tup (xs.take m)) hp
      refine kk _ p ((s1.trans s2).trans s3) ⟨p, _, rfl, SqT.of upd_same, ?_⟩
      rw [et]
      exact (fx.take m).mono ((s1.trans s2).trans s3)
    refine ⟨_, rfl, (by show 0 ≤ sizeLine; decide), fun p0 hp0 => ?_⟩
    have s2 := same_new (o := .lst []) hp0
    have hL2 := s2 _ _ hL1
    refine ⟨.list ((qs.take m).map dF), .list [], .lst (SqL.of hL2) ((fx.take m).mono (s1.trans s2)).dp, .lst (SqL.of upd_same) .nil, shaped_dFs _, rfl, _, rfl, ?_⟩
    rw [eqv_nil]
    cases m with
    | zero =>
      refine iteF ?_
      refine iteF (fin _ s2 ?_)
      rw [e]
      rfl
    | succ n =>
      have ne : (qs.take (n + 1)).isEmpty = false := by
        cases eq : qs with
        | nil => rw [eq] at hm; simp at hm
        | cons q r => rfl
      rw [ne]
      refine iteT ?_
      obtain ⟨u, q, h1, h2, h3⟩ := fx.get (i := n) (by omega)
      have ec : co qs n = q := co_get h2
      have lt : (xs.take (n + 1)).length = n + 1 := by rw [List.length_take]; omega
      have ht : (xs.take (n + 1))[n]? = some u := by rw [List.getElem?_take_of_lt (by omega)]; exact h1
      have ha : atI (xs.take (n + 1)) (-1) = some u := by
        have e1 : ixN (xs.take (n + 1)).length (-1) = some n := by
          rw [lt]
          unfold ixN
          rw [if_neg (by decide), if_pos (by omega)]
          exact congrArg some (by omega)
        unfold atI
        rw [e1]
        exact ht
      refine ⟨_, rfl, _, rfl, L, _, _, u, rfl, rfl, SqL.of hL2, ha, (by show 2 ≤ sizeLine; decide), fun pt hpt => ?_⟩
      have s3 := same_new (o := .tup [.int 0, .int 1]) hpt
      refine ⟨dF q, dF (0, 1), ((h3.mono s1).mono (s2.trans s3)).dp, .tup (SqT.of upd_same) (.cons (.int 0) (.cons (.int 1) .nil)), rfl, rfl, _, rfl, ?_⟩
      rw [eqv_nought]
      refine ite2 (fun c => ?_) (fun c => ?_)
      · have c1 : q = (0, 1) := of_decide_eq_true c
        have hL3 := s3 _ _ hL2
        refine ⟨fun σ' H' => Same H H' ∧ n ≤ qs.length ∧ trim qs = trimN qs n ∧ H' L = some (.lst (xs.take n)) ∧ σ' = [some (V.ref a), some (V.ref L)], fun σ' H' h => ⟨n, by omega, h⟩, ?_⟩
        refine ⟨_, rfl, Or.inl ⟨rfl, _, SqL.of hL3⟩, L, _, u, rfl, rfl, hL3, ?_, fun c o z => (upd_ne (nL z)).trans (s3 c o (s2 c o (s1 c o z))), by omega, ?_, ?_, rfl⟩
        · rw [lt, Nat.add_sub_cancel]
          exact ht
        · rw [e, trimN, if_pos (by rw [ec]; exact c1)]
        · rw [upd_same, List.dropLast_eq_take, lt, Nat.add_sub_cancel, List.take_take, Nat.min_eq_left (by omega)]
      · have c1 : ¬ q = (0, 1) := fun w => c (decide_eq_true w)
        refine fin _ (s2.trans s3) ?_
        rw [e, trimN, if_neg (by rw [ec]; exact c1)]
end
theorem s3_red {x y : Int} (h1 : -6 ≤ x) (h2 : x ≤ 6) (h3 : 1 ≤ y) (h4 : y ≤ 3) : S3 (red x y) := by
  have hp : 0 < y := by omega
  refine ⟨red_ok hp, ?_, ?_⟩
  · have := Int.le_of_dvd hp (vl_dvd (red_ok (a := x) hp) (vl_red hp))
    omega
  · have := red_top (a := x) hp
    omega
/-- _law_poly(state, many) -/
def spLPoly (K : PySem.W.Frag) : Sp := fun vs H Q _ => ∃ (p c l : Addr) (n : Nat) (t m : Int), vs = [.ref p, .int m] ∧ Sta H p c l n t ∧ t ≤ 8000 ∧ 0 ≤ m ∧ m ≤ 8 ∧
  ∀ (H' : Hp) (v : V) (qs : List F) (t' : Int), Po K H' v qs → (∀ q ∈ qs, S3 q) → Pn qs → (qs.length : Int) ≤ m → t ≤ t' → t' ≤ t + 17 → Sta H' p c l n t' → Kp p l H H' → Q v H'
section
variable {P : Program} {w : World} {K : PySem.W.Frag} {mg : Str → Option Value} {base : Heap} {f : Addr} {fd : FuncData}
theorem scLPoly : FnScope ["state", "many", "k"] ["state", "many"] (defScope sLPoly) := ⟨rfl, rfl, rfl, by decide +kernel, rfl, by decide +kernel, by decide +kernel⟩
theorem ok_lpoly (F : Fun K "_law_poly" "_law_poly" sLPoly f fd) (T : Blt mg) (D : Cal P w K mg base 2 "_law_draw" spDraw) (S_ : Cal P w K mg base 3 "_law_small" spSmall) (Tr : Cal P w K mg base 1 "_law_trim" (spLTrim K)) : FnOk P w K mg base CX0 4 f fd ["state", "many"] (spLPoly K) := by
  refine F.ok scLPoly (fun vs H Q E h => ?_) (fun cdv A outer s H vs Q E hr h => ?_)
  · obtain ⟨p, c, l, n, t, m, rfl, _⟩ := h
    rfl
  · obtain ⟨p, c, l, n, t, m, rfl, S, t1, m0, m1, kk⟩ := h
    refine ⟨_, pss_one (ps_ret (pe_n Tr hr (by decide) (by rfl) (pa_cons (pe_lc (own := [("k", 2)]) (g := gName 2) (tt := tYes) rfl scLPoly.nd (pi_range1 rfl T.range (pa_cons (pe_n D hr (by decide) (by rfl) (pa_cons (pv 0) (pa_cons (pe_op op_add (pv 1) pe_int) pa_nil))) pa_nil)) (blkOk_by (N := ["state", "many", "k"]) (sc := defScope sLPoly) (by decide +kernel))
          (fun _ _ _ _ _ => pg_name (i := 2) scLPoly.nd rfl (Or.inl rfl)) (fun _ _ _ _ _ => pts_nil)
          (fun _ _ _ _ _ => pe_n S_ hr (by decide) (by rfl) (pa_cons (pv 0) pa_nil))) pa_nil))), ?_⟩
    refine ⟨_, rfl, _, rfl, _, _, rfl, rfl, p, c, l, n, t, m + 1, rfl, S, by omega, by omega, by omega, fun H1 r r0 r1 S1 k1 => ?_⟩
    obtain ⟨cs, c1, _⟩ := S1.cs
    obtain ⟨ls, l1, _⟩ := S1.ls
    refine ⟨r, rfl, by omega, by omega, fun D hD => ?_⟩
    have nc : c ≠ D := ne_of_none c1 hD
    have nl : l ≠ D := ne_of_none l1 hD
    have np : p ≠ D := ne_of_none S1.d hD
    have s1 := same_new (o := .lst []) hD
    refine lc_range (n := r.toNat) (fun i H2 => ∃ acc qs, H2 D = some (.lst acc) ∧ FrAll K H2 acc qs ∧ qs.length = i ∧ (∀ q ∈ qs, S3 q) ∧ Sta H2 p c l n (t + 1 + 2 * i) ∧ Kp p l H H2)
      ⟨[], [], upd_same, .nil, rfl, fun q h => by simp at h, by simpa using S1.mono s1, k1.trans (Kp.of s1)⟩ ?_ ?_
    · rintro i H2 hi ⟨acc, qs, hD2, fa, ql, q3, S2, k2⟩
      refine ⟨rfl, ?_⟩
      refine iteT (B := ∃ acc qs, H2 D = some (.lst acc) ∧ FrAll K H2 acc qs ∧ qs.length = i + 1 ∧ (∀ q ∈ qs, S3 q) ∧ Sta H2 p c l n (t + 1 + 2 * ((i + 1 : Nat) : Int)) ∧ Kp p l H H2) ?_
      refine ⟨_, rfl, p, c, l, n, t + 1 + 2 * i, rfl, S2, by omega, fun H3 b x y x0 x1 y0 y1 hb S3' k3 => ?_⟩
      have hD3 : H3 D = some (.lst acc) := k3 D _ hD2 np.symm nl.symm
      have la : acc.length < sizeLine := small1000 (by rw [fa.len]; omega)
      refine ⟨acc, hD3, la, _, qs ++ [red x y], upd_same, (FrAll.off hD3 (fa.kp k3 S2)).snoc ((Fr.of hb).off hD3), ?_, ?_, ?_, ?_⟩
      · rw [List.length_append, ql]
        rfl
      · intro q hq
        rcases List.mem_append.mp hq with h | h
        · exact q3 q h
        · rw [List.mem_singleton.mp h]
          exact s3_red x0 x1 y0 y1
      · have e : t + 1 + 2 * (i : Int) + 2 = t + 1 + 2 * ((i + 1 : Nat) : Int) := by omega
        rw [e] at S3'
        exact S3'.off hD3 nc nl
      · exact fun b' o e n1 n2 => (upd_ne (ne_of_none (k1 b' o e n1 n2) hD)).trans ((k2.trans k3) b' o e n1 n2)
    · rintro H2 ⟨acc, qs, hD2, fa, ql, q3, S2, k2⟩
      refine ⟨D, acc, qs, rfl, Or.inl (SqL.of hD2), fa, by rw [fa.len]; omega, fun H' p' s3 po => ?_⟩
      refine kk H' _ (trim qs) (t + 1 + 2 * r.toNat) po (fun q hq => q3 q (trim_mem hq)) (trim_pn _) ?_ (by omega) (by omega) (S2.mono s3) (k2.trans (Kp.of s3))
      have := trim_len qs
      omega
end
end Rs
namespace Fq
open Rs
theorem lt_irr (q : F) : lt q q = false := by simp [lt]
theorem lt_iff {q r : F} : lt q r = true ↔ q.1 * r.2 < r.1 * q.2 := by simp [lt]
theorem lt_trans {q r s : F} (hq : 0 < q.2) (hr : 0 < r.2) (hs : 0 < s.2) (h1 : lt q r = true) (h2 : lt r s = true) : lt q s = true := by
  rw [lt_iff] at *
  have a := Int.mul_lt_mul_of_pos_right h1 hs
  have b := Int.mul_lt_mul_of_pos_right h2 hq
  have c : q.1 * s.2 * r.2 < s.1 * q.2 * r.2 := by
    have e1 : q.1 * s.2 * r.2 = q.1 * r.2 * s.2 := by grind
    have e2 : r.1 * q.2 * s.2 = r.1 * s.2 * q.2 := by grind
    have e3 : s.1 * q.2 * r.2 = s.1 * r.2 * q.2 := by grind
    omega
  exact Int.lt_of_mul_lt_mul_right c (Int.le_of_lt hr)
theorem lt_tri {q r : F} (a : Ok q) (b : Ok r) (n : q ≠ r) (h : lt q r = false) : lt r q = true := by
  have h' : ¬ q.1 * r.2 < r.1 * q.2 := by
    intro z
    rw [lt_iff.mpr z] at h
    cases h
  rw [lt_iff]
  have e : q.1 * r.2 ≠ r.1 * q.2 := by
    intro e
    refine n (vl_uniq (a := r.1) (b := r.2) a b (by have := b.1; omega) ?_ rfl)
    exact e
  omega
/-- ascending -/
inductive Asc : List F → Prop
  | nil : Asc []
  | cons {q : F} {l : List F} : (∀ r ∈ l, lt q r = true) → Asc l → Asc (q :: l)
theorem asc_ins {x : F} (ox : Ok x) : ∀ {l : List F}, (∀ r ∈ l, Ok r) → Asc l → x ∉ l →
    Asc (l.take (l.filter fun r => lt r x).length ++ [x] ++ l.drop (l.filter fun r => lt r x).length)
  | [], _, _, _ => .cons (fun r h => by simp at h) .nil
  | q :: l, o, h, n => by
    cases h with
    | cons h1 h2 =>
      have oq := o q List.mem_cons_self
      have ol : ∀ r ∈ l, Ok r := fun r hr => o r (List.mem_cons_of_mem _ hr)
      have nq : x ≠ q := fun z => n (by rw [z]; exact List.mem_cons_self)
      have nl : x ∉ l := fun z => n (List.mem_cons_of_mem _ z)
      cases c : lt q x with
      | true =>
        rw [List.filter_cons_of_pos (by exact c), List.length_cons, List.take_succ_cons, List.drop_succ_cons]
        refine .cons (fun r hr => ?_) (asc_ins ox ol h2 nl)
        rcases List.mem_append.mp hr with hr | hr
        · rcases List.mem_append.mp hr with hr | hr
          · exact h1 r (List.mem_of_mem_take hr)
          · rw [List.mem_singleton.mp hr]
            exact c
        · exact h1 r (List.mem_of_mem_drop hr)
      | false =>
        have g : lt x q = true := lt_tri oq ox (Ne.symm nq) c
        have e : (l.filter fun r => lt r x) = [] := by
          rw [List.filter_eq_nil_iff]
          intro r hr z
          have := lt_trans ox.1 oq.1 (ol r hr).1 g (h1 r hr)
          have z2 := lt_trans ox.1 (ol r hr).1 ox.1 this z
          rw [lt_irr] at z2
          cases z2
        rw [List.filter_cons_of_neg (by rw [c]; simp), e]
        refine .cons (fun r hr => ?_) (.cons h1 h2)
        rcases List.mem_cons.mp hr with rfl | hr
        · exact g
        · exact lt_trans ox.1 oq.1 (ol r hr).1 g (h1 r hr)
theorem sumF_cb {D : Int} {n : Nat} : ∀ {l : List F} {m : Nat} {z : F}, Ca D n l → Cb D m z → n ≤ m → Cb D (m + l.length) (sumF z l)
  | [], _, _, _, hz, _ => hz.mono (by simp)
  | q :: l, m, z, h, hz, e => by
    have a := hz.add ((h q List.mem_cons_self).mono e)
    have b := sumF_cb (l := l) (m := m + 1) (z := add z q) (fun r hr => h r (List.mem_cons_of_mem _ hr)) a (by omega)
    refine b.mono ?_
    rw [List.length_cons]
    omega
theorem cb_dvd {D : Int} {n m : Nat} {q : F} (o : Ok q) (d : q.2 ∣ D) (p : 0 < D) (a : q.1.natAbs ≤ 2 ^ n) (l : D.natAbs ≤ 2 ^ m) : Cb D (n + m) q := by
  obtain ⟨z, hz⟩ := d
  refine ⟨o, q.1 * z, ?_, ?_⟩
  · rw [hz, Rat.intCast_mul, Rat.intCast_mul, ← val_num o]
    grind
  · rw [Int.natAbs_mul, Nat.pow_add]
    refine Nat.mul_le_mul a (Nat.le_trans ?_ l)
    rw [hz, Int.natAbs_mul]
    exact Nat.le_mul_of_pos_left _ (by have := o.1; omega)
/-- above nought -/
def Pos (q : F) : Prop := 0 < q.1 ∧ 0 < q.2
theorem red_pos {a b : Int} (ha : 0 < a) (hb : 0 < b) : Pos (red a b) := by
  have o := red_ok (a := a) hb
  refine ⟨?_, o.1⟩
  have v := vl_red (a := a) hb
  unfold Vl at v
  have h1 : 0 < a * (red a b).2 := Int.mul_pos ha o.1
  rw [← v] at h1
  exact Int.pos_of_mul_pos_left h1 hb
theorem pos_add {q r : F} (h1 : Pos q) (h2 : Pos r) : Pos (add q r) := red_pos (by have := Int.mul_pos h1.1 h2.2; have := Int.mul_pos h2.1 h1.2; omega) (Int.mul_pos h1.2 h2.2)
theorem pos_mul {q r : F} (h1 : Pos q) (h2 : Pos r) : Pos (mul q r) := red_pos (Int.mul_pos h1.1 h2.1) (Int.mul_pos h1.2 h2.2)
theorem pos_sum : ∀ {l : List F} {z : F}, (∀ q ∈ l, Pos q) → Pos z → Pos (sumF z l)
  | [], _, _, hz => hz
  | q :: l, z, h, hz => pos_sum (l := l) (z := add z q) (fun r hr => h r (List.mem_cons_of_mem _ hr)) (pos_add hz (h q List.mem_cons_self))
theorem zero_add {q : F} (h : Ok q) : add (0, 1) q = q := by
  show red (0 * q.2 + q.1 * 1) (1 * q.2) = q
  rw [Int.zero_mul, Int.zero_add, Int.mul_one, Int.one_mul]
  exact red_of h
abbrev Pr := F × F
/-- a pair of a share with small numbers -/
structure Sp2 (p : Pr) : Prop where
  o1 : Ok p.1
  b1 : p.1.2 ∣ 2
  a1 : p.1.1.natAbs < 5
  o2 : Ok p.2
  b2 : p.2.2 ∣ 2
  a2 : p.2.1.natAbs < 5
  p2 : 0 < p.2.1
def mom (ps : List Pr) (k : Nat) : F := sumF (0, 1) (ps.map fun p => mul p.2 (pw p.1 k))
theorem pow_dvd2 {x y : Int} (h : x ∣ y) : ∀ k : Nat, x ^ k ∣ y ^ k
  | 0 => by rw [Int.pow_zero, Int.pow_zero]; exact Int.dvd_refl 1
  | k + 1 => by
    rw [Int.pow_succ, Int.pow_succ]
    exact Int.mul_dvd_mul (pow_dvd2 h k) h
theorem pow2_dvd {x : Int} {k n : Nat} (h : x ∣ 2) (e : k ≤ n) : x ^ k ∣ 2 ^ n := by
  refine Int.dvd_trans (pow_dvd2 h k) ⟨2 ^ (n - k), ?_⟩
  rw [← Int.pow_add]
  congr 1
  omega
theorem cb2 {q : F} (o : Ok q) (b : q.2 ∣ 2) (a : q.1.natAbs < 5) : Cb 2 3 q := cb_dvd (n := 2) (m := 1) o b (by decide) (by omega) (by decide)
theorem pw_cb {p : Pr} (h : Sp2 p) {k : Nat} (hk : k ≤ 7) : Cb 128 21 (pw p.1 k) := by
  refine cb_dvd (n := 14) (m := 7) (pw_ok h.o1 k) (pow2_dvd (n := 7) h.b1 hk) (by decide) ?_ (by decide)
  show (p.1.1 ^ k).natAbs ≤ _
  rw [Int.natAbs_pow]
  refine Nat.le_trans (Nat.pow_le_pow_left (Nat.le_of_lt_succ h.a1) k) ?_
  refine Nat.le_trans (Nat.pow_le_pow_right (by decide) hk) ?_
  decide
theorem term_cb {p : Pr} (h : Sp2 p) {k : Nat} (hk : k ≤ 7) : Cb 256 24 (mul p.2 (pw p.1 k)) := (cb2 h.o2 h.b2 h.a2).mul (pw_cb h hk)
theorem terms_cb {ps : List Pr} (h : ∀ p ∈ ps, Sp2 p) {k : Nat} (hk : k ≤ 7) : Ca 256 24 (ps.map (fun p => mul p.2 (pw p.1 k))) := by
  intro q hq
  obtain ⟨p, hp, rfl⟩ := List.mem_map.mp hq
  exact term_cb (h p hp) hk
theorem mom_cb {ps : List Pr} (h : ∀ p ∈ ps, Sp2 p) (l : ps.length ≤ 4) {k : Nat} (hk : k ≤ 7) : Cb 256 28 (mom ps k) := by
  refine (sumF_cb (terms_cb h hk) (Cb.zero (n := 24)) (Nat.le_refl _)).mono ?_
  rw [List.length_map]
  omega
theorem mom_pos {ps : List Pr} (h : ∀ p ∈ ps, Sp2 p) (n : ps ≠ []) : 0 < (mom ps 0).1 := by
  cases ps with
  | nil => exact absurd rfl n
  | cons p ps =>
    have e : ∀ r ∈ p :: ps, Pos (mul r.2 (pw r.1 0)) := fun r hr => pos_mul ⟨(h r hr).p2, (h r hr).o2.1⟩ ⟨by show 0 < r.1.1 ^ 0; rw [Int.pow_zero]; decide, by show 0 < r.1.2 ^ 0; rw [Int.pow_zero]; decide⟩
    have hp := term_cb (h p List.mem_cons_self) (k := 0) (by decide)
    show 0 < (sumF (add (0, 1) (mul p.2 (pw p.1 0))) (ps.map fun p => mul p.2 (pw p.1 0))).1
    rw [zero_add hp.ok]
    refine (pos_sum (fun q hq => ?_) (e p List.mem_cons_self)).1
    obtain ⟨r, hr, rfl⟩ := List.mem_map.mp hq
    exact e r (List.mem_cons_of_mem _ hr)
/-- the moments 0 to n -/
def moms (ps : List Pr) (n : Nat) : List F := (List.range (n + 1)).map (mom ps)
theorem moms_len (ps : List Pr) (n : Nat) : (moms ps n).length = n + 1 := by rw [moms, List.length_map, List.length_range]
theorem moms_cb {ps : List Pr} (h : ∀ p ∈ ps, Sp2 p) (l : ps.length ≤ 4) {n : Nat} (hn : n ≤ 7) : Ca 256 28 (moms ps n) := by
  intro q hq
  obtain ⟨k, hk, rfl⟩ := List.mem_map.mp hq
  have := List.mem_range.mp hk
  exact mom_cb h l (by omega)
/-- a row's fractions -/
structure Rw (qs : List F) : Prop where
  d : Ca 256 29 qs
  n : qs ≠ []
  l : qs.length ≤ 8
  p : ∀ q r, qs = q :: r → 0 < q.1
theorem Rw.ok {qs : List F} (h : Rw qs) : Rs.RowOk qs := by
  refine ⟨fun q hq => (h.d q hq).mono (by decide), h.n, h.l, ?_⟩
  cases qs with
  | nil => exact absurd rfl h.n
  | cons q r => exact h.p q r rfl
theorem moms_rw {ps : List Pr} (h : ∀ p ∈ ps, Sp2 p) (n : ps ≠ []) (l : ps.length ≤ 4) {k : Nat} (hk : k ≤ 7) : Rw (moms ps k) := by
  refine ⟨fun q hq => (moms_cb h l hk q hq).mono (by decide), ?_, by rw [moms_len]; omega, ?_⟩
  · intro z
    have := congrArg List.length z
    rw [moms_len] at this
    cases this
  · intro q r e
    unfold moms at e
    rw [List.range_succ_eq_map, List.map_cons] at e
    have := (List.cons.inj e).1
    rw [← this]
    exact mom_pos h n
end Fq
namespace Rs
open PySem L2 Bs Fq LamX RZ
def dPr (p : Pr) : PyData := .tuple [dF p.1, dF p.2]
def dSh (ps : List Pr) : PyData := .tuple (ps.map dPr)
theorem cut_tail {xs : List V} (h : 1 ≤ xs.length) : cutV xs (some 1) none = xs.tail := by
  cases xs with
  | nil => cases h
  | cons x r =>
    have e1 : HT.sIx (x :: r).length 0 (some 1) = 1 := by simp [HT.sIx]
    have e2 : HT.sIx (x :: r).length (x :: r).length none = (x :: r).length := by simp [HT.sIx]
    unfold cutV
    rw [e1, e2]
    simp
theorem not_whole {n : Nat} (h : 1 ≤ n) : ¬ (HT.sIx n 0 (some 1) = 0 ∧ HT.sIx n n none = n) := by
  rintro ⟨z, _⟩
  have : HT.sIx n 0 (some 1) = 1 := by simp [HT.sIx]; omega
  omega
theorem prOf {K : PySem.W.Frag} {H : Hp} {v : V} {p : Pr} (h : Dp K H v (dPr p)) : ∃ a u1 u2, v = .ref a ∧ SqT K H a [u1, u2] ∧ Fr K H u1 p.1 ∧ Fr K H u2 p.2 := by
  cases h with
  | tup sq all =>
    cases all with
    | cons h1 t1 =>
      cases t1 with
      | cons h2 t2 =>
        cases t2
        exact ⟨_, _, _, rfl, sq, dp_fr h1, dp_fr h2⟩
theorem map_some {α β : Type} {f : α → β} {l : List α} {i : Nat} {y : β} (h : (l.map f)[i]? = some y) : ∃ x, l[i]? = some x ∧ y = f x := by
  rw [List.getElem?_map] at h
  cases e : l[i]? with
  | none =>
    rw [e] at h
    cases h
  | some x =>
    rw [e] at h
    exact ⟨x, rfl, (Option.some.inj h).symm⟩
/-- a share -/
def Shr (K : PySem.W.Frag) (H : Hp) (v : V) (ps : List Pr) : Prop := Dp K H v (dSh ps)
theorem Shr.mono {K : PySem.W.Frag} {H H' : Hp} {v : V} {ps : List Pr} (e : Same H H') (h : Shr K H v ps) : Shr K H' v ps := dps e h
theorem Shr.open {K : PySem.W.Frag} {H : Hp} {v : V} {ps : List Pr} (h : Shr K H v ps) : ∃ a xs, v = .ref a ∧ SqT K H a xs ∧ DpAll K H xs (ps.map dPr) := by
  cases h with
  | tup sq all => exact ⟨_, _, rfl, sq, all⟩
abbrev sLSum : Stmt := top 66
abbrev sLShare : Stmt := top 67
abbrev sLMoms : Stmt := top 69
abbrev sLRow : Stmt := top 79
def spLSum (K : PySem.W.Frag) : Sp := fun vs H Q _ => ∃ (a : Addr) (xs : List V) (qs : List F) (D : Int) (n : Nat), vs = [.ref a] ∧ SqL K H a xs ∧ FrAll K H xs qs ∧ Ca D n qs ∧ Bd D (n + qs.length) ∧ ∀ H' u, Same H H' → Fr K H' u (sumF (0, 1) qs) → Q u H'
def spLMoms (K : PySem.W.Frag) : Sp := fun vs H Q _ => ∃ (v : V) (ps : List Pr) (k : Int), vs = [v, .int k] ∧ Shr K H v ps ∧ (∀ p ∈ ps, Sp2 p) ∧ ps.length ≤ 4 ∧ 0 ≤ k ∧ k ≤ 7 ∧ ∀ H' p, Same H H' → Po K H' (.ref p) (moms ps k.toNat) → Q (.ref p) H'
section
variable {P : Program} {w : World} {K : PySem.W.Frag} {mg : Str → Option Value} {base : Heap} {f : Addr} {fd : FuncData}
theorem scLSum : FnScope ["some", "found", "one"] ["some"] (defScope sLSum) := ⟨rfl, rfl, rfl, by decide +kernel, rfl, by decide +kernel, by decide +kernel⟩
theorem ok_lsum (F : Fun K "_law_sum" "_law_sum" sLSum f fd) (lP : Cal P w K mg base 2 "_law_plus" (spOp K add domL)) : FnOk P w K mg base CX0 3 f fd ["some"] (spLSum K) := by
  refine F.ok scLSum (fun vs H Q E h => ?_) (fun cdv A outer s H vs Q E hr h => ?_)
  · obtain ⟨a, xs, qs, _, _, rfl, _⟩ := h
    rfl
  · obtain ⟨a, xs, qs, D, n, rfl, sx, fx, hq, lq, kk⟩ := h
    refine ⟨_, pss_cons (ps_set (i := 1) scLSum.nd rfl (Or.inl rfl) (pe_tup (pa_cons pe_int (pa_cons pe_int pa_nil))))
      (pss_cons (ps_for PassesOwn.never rfl (pi_list (pv 0)) (pg_name (i := 2) scLSum.nd rfl (Or.inl rfl)) (pss_one (ps_set (i := 1) scLSum.nd rfl (Or.inl rfl) (pe_n lP hr (by decide) (by rfl) (pa_cons (pv 1) (pa_cons (pv 2) pa_nil))))))
      (pss_one (ps_ret (pv 1)))), ?_⟩
    have lx := fx.len
    refine ⟨(by show 2 ≤ sizeLine; decide), fun z hz => ?_⟩
    have s0 := same_new (o := .tup [.int 0, .int 1]) hz
    refine ⟨_, rfl, a, rfl, ⟨_, s0.seq sx⟩, for_list (xs := xs) (fun i σ H1 => Same H H1 ∧ ∃ u v2, Fr K H1 u (sumF (0, 1) (qs.take i)) ∧ σ = [some (V.ref a), some u, v2])
      ⟨s0, .ref z, none, Fr.of upd_same, rfl⟩ (fun i σ H1 _ p => p.1.seq sx) ?_ ?_⟩
    · rintro i x σ H1 hx ⟨s1, u, v2, fu, rfl⟩
      obtain ⟨hi, _⟩ := List.getElem?_eq_some_iff.mp hx
      obtain ⟨x1, q, e1, e2, fq⟩ := fx.get (i := i) (by omega)
      rw [hx] at e1
      cases e1
      have sdb := sumF_cb (l := qs.take i) (n := n) (m := n) (z := (0, 1)) (fun q h => hq q (List.mem_of_mem_take h)) Cb.zero (Nat.le_refl _)
      have lt_ : (qs.take i).length ≤ qs.length := by rw [List.length_take]; omega
      refine ⟨_, rfl, _, rfl, u, x, _, q, rfl, fu, fq.mono s1, ⟨cb_dl sdb (lq.mono (by omega)), cb_dl (hq q (List.mem_of_getElem? e2)) (lq.mono (by omega))⟩, fun p hp => ?_⟩
      have s2 := same_new (o := fr (add (sumF (0, 1) (qs.take i)) q)) hp
      refine ⟨s1.trans s2, .ref p, some x, ?_, rfl⟩
      rw [take_one e2, sumF_snoc]
      exact Fr.of upd_same
    · rintro σ H1 ⟨s1, u, v2, fu, rfl⟩
      rw [lx, List.take_length] at fu
      exact ⟨_, rfl, kk H1 u s1 fu⟩
abbrev NLM : List Str := ["share_so", "top", "found_so", "k", "number", "weight"]
theorem scLMoms : FnScope NLM ["share_so", "top"] (defScope sLMoms) := ⟨rfl, rfl, rfl, by decide +kernel, rfl, by decide +kernel, by decide +kernel⟩
theorem ok_lmoms (F : Fun K "_law_moments" "_law_moments" sLMoms f fd) (T : Blt mg) (lT : Cal P w K mg base 2 "_law_times" (spOp K mul domL)) (LP : Cal P w K mg base 3 "_law_power" (spLPower K)) (LS : Cal P w K mg base 3 "_law_sum" (spLSum K)) : FnOk P w K mg base CX0 4 f fd ["share_so", "top"] (spLMoms K) := by
  refine F.ok scLMoms (fun vs H Q E h => ?_) (fun cdv A outer s H vs Q E hr h => ?_)
  · obtain ⟨v, ps, k, rfl, _⟩ := h
    rfl
  · obtain ⟨v, ps, k, rfl, hs, sp2, lp, k0, k8, kk⟩ := h
    obtain ⟨a, xs, rfl, sx, all⟩ := hs.open
    have l := dpAll_len all
    rw [List.length_map] at l
    refine ⟨_, pss_cons (ps_set (i := 2) scLMoms.nd rfl (Or.inl rfl) (pe_lst pa_nil))
      (pss_cons (ps_for PassesOwn.never rfl (pi_range1 rfl T.range (pa_cons (pe_op op_add (pv 1) pe_int) pa_nil)) (pg_name (i := 3) scLMoms.nd rfl (Or.inr rfl))
        (pss_one (ps_expr (pe_bm PySem.F.plainAttrs_list PySem.F.slot_list_append PySem.F.type_list_append mt_append (pv 2) (pa_cons (pe_n LS hr (by decide) (by rfl) (pa_cons (pe_lc (own := [("number", 4), ("weight", 5)]) (g := gTup K 2 (gCons (gName 4) (gCons (gName 5) gNil))) (tt := tYes) rfl scLMoms.nd
          (pi_tup (pv 0)) (blkOk_by (N := NLM) (sc := defScope sLMoms) (by decide +kernel))
          (fun _ _ _ _ _ => pg_tup rfl (pgs_cons (pg_name (i := 4) scLMoms.nd rfl (Or.inl rfl)) (pgs_cons (pg_name (i := 5) scLMoms.nd rfl (Or.inl rfl)) pgs_nil))) (fun _ _ _ _ _ => pts_nil)
          (fun _ _ _ _ _ => pe_n lT hr (by decide) (by rfl) (pa_cons (pv 5) (pa_cons (pe_n LP hr (by decide) (by rfl) (pa_cons (pv 4) (pa_cons (pv 3) pa_nil))) pa_nil)))) pa_nil)) pa_nil)))))
      (pss_one (ps_ret (pe_callTy call_tuple_of (by rfl) T.tuple (by decide +kernel) (pa_cons (pv 2) pa_nil))))), ?_⟩
    refine ⟨(by show 0 ≤ sizeLine; decide), fun L hL => ?_⟩
    have s0 := same_new (o := .lst []) hL
    have et : (k + 1).toNat = k.toNat + 1 := by omega
    refine ⟨_, rfl, _, _, rfl, rfl, _, rfl, by omega, by omega, for_range (n := (k + 1).toNat) (fun i σ H1 => Same H H1 ∧ ∃ acc v3, H1 L = some (.lst acc) ∧ FrAll K H1 acc ((List.range i).map (mom ps)) ∧ σ = [some (V.ref a), some (V.int k), some (V.ref L), v3, none, none])
      ⟨s0, [], none, upd_same, .nil, rfl⟩ ?_ ?_⟩
    · rintro i σ H1 hi ⟨s1, acc, v3, hL1, fa, rfl⟩
      have la : acc.length = i := by rw [fa.len, List.length_map, List.length_range]
      have ki : i ≤ 7 := by omega
      have tm := terms_cb sp2 ki
      refine ⟨_, rfl, Or.inl ⟨rfl, _, SqL.of hL1⟩, _, rfl, a, rfl, ⟨_, Bs.Same.t s1 sx⟩, fun D hD => ?_⟩
      refine lc_tup (K := K) (a := a) (xs := xs) (fun j H2 => Same H1 H2 ∧ ∃ bc, H2 D = some (.lst bc) ∧ FrAll K H2 bc ((ps.map fun p => mul p.2 (pw p.1 i)).take j)) ⟨same_new hD, [], upd_same, .nil⟩ (fun j H2 _ z => Bs.Same.t (s1.trans z.1) sx) ?_ ?_
      · rintro j x H2 hx ⟨s2, bc, hD2, fb⟩
        obtain ⟨d, ed, dx⟩ := dpAll_at all hx
        obtain ⟨p, ep, rfl⟩ := map_some ed
        have hp := sp2 p (List.mem_of_getElem? ep)
        obtain ⟨b, u1, u2, rfl, sb, f1, f2⟩ := prOf (dps (s1.trans s2) dx)
        have et2 : (ps.map fun p => mul p.2 (pw p.1 i))[j]? = some (mul p.2 (pw p.1 i)) := by rw [List.getElem?_map, ep]; rfl
        have lb : bc.length ≤ 4 := by
          rw [fb.len, List.length_take, List.length_map]
          omega
        refine ⟨b, _, rfl, sb, rfl, _, _, rfl, _, _, rfl, rfl, rfl, ?_⟩
        refine iteT (B := Same H1 H2 ∧ ∃ bc, H2 D = some (.lst bc) ∧ FrAll K H2 bc ((ps.map fun p => mul p.2 (pw p.1 i)).take (j + 1))) ?_
        have hb2 := Int.le_of_dvd (by decide) hp.b1
        have ho := hp.o1.1
        refine ⟨_, rfl, _, rfl, _, rfl, u1, p.1, (i : Int), (by rw [Int.zero_add]; rfl), f1, hp.o1, Lt2.mono (m := 3) (by have := hp.a1; show _ < 8; omega) (by decide), Lt2.mono (m := 2) (by show p.1.2.natAbs < 4; omega) (by decide), by omega, by omega, fun H3 p1 s3 hp1 => ?_⟩
        have f3 : Fr K H3 (.ref p1) (pw p.1 i) := Fr.of hp1
        refine ⟨u2, .ref p1, p.2, pw p.1 i, rfl, f2.mono s3, f3, ⟨cb_dl (cb2 hp.o2 hp.b2 hp.a2) (Bd.of (by decide) (N := 1) (by decide) (by decide) (by decide)), cb_dl (pw_cb hp ki) (Bd.of (by decide) (N := 7) (by decide) (by decide) (by decide))⟩, fun p2 hp2 => ?_⟩
        have s4 := same_new (o := fr (mul p.2 (pw p.1 i))) hp2
        have s34 := s3.trans s4
        refine ⟨bc, s34 _ _ hD2, small1000 (by omega), fun c o e => (upd_ne (ne_of_none e hD)).trans (s34 c o (s2 c o e)), bc ++ [.ref p2], upd_same, ?_⟩
        rw [take_one et2]
        exact (FrAll.off (s34 _ _ hD2) (fb.mono s34)).snoc ((Fr.of upd_same).off (s34 _ _ hD2))
      · rintro H2 ⟨s2, bc, hD2, fb⟩
        rw [List.take_of_length_le (by rw [List.length_map]; omega)] at fb
        refine ⟨D, bc, _, 256, 24, rfl, SqL.of hD2, fb, tm, Bd.of (by decide) (N := 8) (by decide) (by decide) (by rw [List.length_map]; omega), fun H3 u s3 fu => ?_⟩
        have s23 := s2.trans s3
        have hL3 := s23 _ _ hL1
        refine ⟨L, acc, u, rfl, rfl, hL3, small1000 (by omega), ?_⟩
        refine ⟨fun c o e => (upd_ne (ne_of_none e hL)).trans (s23 c o (s1 c o e)), acc ++ [u], some (.int i), upd_same, ?_, (by rw [Int.zero_add]; rfl)⟩
        rw [List.range_succ, List.map_append]
        exact (FrAll.off hL3 (fa.mono s23)).snoc (fu.off hL3)
    · rintro σ H1 ⟨s1, acc, v3, hL1, fa, rfl⟩
      rw [et] at fa
      refine ⟨_, rfl, L, acc, rfl, Or.inl ⟨SqL.of hL1, fun p hp => ?_⟩⟩
      have s2 := same_new (o := .tup acc) hp
      exact kk _ p (s1.trans s2) ⟨p, acc, rfl, SqT.of upd_same, fa.mono s2⟩
end
def PrV (K : PySem.W.Frag) (H : Hp) (v : V) (p : Pr) : Prop := ∃ a u1 u2, v = .ref a ∧ SqT K H a [u1, u2] ∧ Fr K H u1 p.1 ∧ Fr K H u2 p.2
theorem sqT_kp {K : PySem.W.Frag} {H H' : Hp} {p c l a : Addr} {n : Nat} {t : Int} {xs : List V} (k : Kp p l H H') (S : Sta H p c l n t) (h : SqT K H a xs) : SqT K H' a xs := by
  obtain ⟨ls, b1, _⟩ := S.ls
  rcases h with (s | ⟨o, s⟩) | s
  · exact .inl (.inl (k a _ s (ne_of s S.d (by intro z; cases z)) (ne_of s b1 (by intro z; cases z))))
  · exact .inl (.inr ⟨o, k a _ s (ne_of s S.d (by intro z; cases z)) (ne_of s b1 (by intro z; cases z))⟩)
  · exact .inr s
theorem PrV.mono {K : PySem.W.Frag} {H H' : Hp} {v : V} {p : Pr} (h : PrV K H v p) (e : Same H H') : PrV K H' v p := by
  obtain ⟨a, u1, u2, rfl, s, f1, f2⟩ := h
  exact ⟨a, u1, u2, rfl, Bs.Same.t e s, f1.mono e, f2.mono e⟩
theorem PrV.kp {K : PySem.W.Frag} {H H' : Hp} {p c l : Addr} {n : Nat} {t : Int} {v : V} {r : Pr} (k : Kp p l H H') (S : Sta H p c l n t) (h : PrV K H v r) : PrV K H' v r := by
  obtain ⟨a, u1, u2, rfl, s, f1, f2⟩ := h
  exact ⟨a, u1, u2, rfl, sqT_kp k S s, k.fr S f1, k.fr S f2⟩
theorem PrV.off {K : PySem.W.Frag} {H : Hp} {D : Addr} {acc : List V} {o : HO} {v : V} {r : Pr} (hD : H D = some (.lst acc)) (h : PrV K H v r) : PrV K (upd H D o) v r := by
  obtain ⟨a, u1, u2, rfl, s, f1, f2⟩ := h
  exact ⟨a, u1, u2, rfl, sqT_off hD s, f1.off hD, f2.off hD⟩
theorem PrV.dp {K : PySem.W.Frag} {H : Hp} {v : V} {r : Pr} (h : PrV K H v r) : Dp K H v (dPr r) := by
  obtain ⟨a, u1, u2, rfl, s, f1, f2⟩ := h
  exact .tup s (.cons f1.dp (.cons f2.dp .nil))
inductive PrAll (K : PySem.W.Frag) (H : Hp) : List V → List Pr → Prop
  | nil : PrAll K H [] []
  | cons {v : V} {vs : List V} {p : Pr} {ps : List Pr} : PrV K H v p → PrAll K H vs ps → PrAll K H (v :: vs) (p :: ps)
section
variable {K : PySem.W.Frag} {H H' : Hp}
theorem PrAll.mono (e : Same H H') : ∀ {vs : List V} {ps : List Pr}, PrAll K H vs ps → PrAll K H' vs ps
  | _, _, .nil => .nil
  | _, _, .cons a b => .cons (a.mono e) (PrAll.mono e b)
theorem PrAll.kp {p c l : Addr} {n : Nat} {t : Int} (k : Kp p l H H') (S : Sta H p c l n t) : ∀ {vs : List V} {ps : List Pr}, PrAll K H vs ps → PrAll K H' vs ps
  | _, _, .nil => .nil
  | _, _, .cons a b => .cons (a.kp k S) (PrAll.kp k S b)
theorem PrAll.off {D : Addr} {acc : List V} {o : HO} (hD : H D = some (.lst acc)) : ∀ {vs : List V} {ps : List Pr}, PrAll K H vs ps → PrAll K (upd H D o) vs ps
  | _, _, .nil => .nil
  | _, _, .cons a b => .cons (a.off hD) (PrAll.off hD b)
theorem PrAll.snoc : ∀ {vs : List V} {ps : List Pr} {v : V} {p : Pr}, PrAll K H vs ps → PrV K H v p → PrAll K H (vs ++ [v]) (ps ++ [p])
  | _, _, _, _, .nil, h => .cons h .nil
  | _, _, _, _, .cons a b, h => .cons a (PrAll.snoc b h)
theorem PrAll.dp : ∀ {vs : List V} {ps : List Pr}, PrAll K H vs ps → DpAll K H vs (ps.map dPr)
  | _, _, .nil => .nil
  | _, _, .cons a b => .cons a.dp (PrAll.dp b)
theorem PrAll.len : ∀ {vs : List V} {ps : List Pr}, PrAll K H vs ps → vs.length = ps.length
  | _, _, .nil => rfl
  | _, _, .cons _ b => congrArg (· + 1) (PrAll.len b)
theorem FrAll.app : ∀ {vs ws : List V} {qs rs : List F}, FrAll K H vs qs → FrAll K H ws rs → FrAll K H (vs ++ ws) (qs ++ rs)
  | _, _, _, _, .nil, h => h
  | _, _, _, _, .cons a b, h => .cons a (FrAll.app b h)
end
structure Sn (q : F) : Prop where
  ok : Fq.Ok q
  b : q.2 ∣ 2
  a : q.1.natAbs < 5
theorem eqv_frac {q r : F} : PyData.eqv (dF q) (dF r) = decide (q = r) := by
  obtain ⟨a, b⟩ := q
  obtain ⟨c, d⟩ := r
  have e : PyData.eqv (dF (a, b)) (dF (c, d)) = (decide (a = c) && decide (b = d)) := by
    simp only [dF, PyData.eqv, PyData.eqvAll, Bool.and_true]
    rfl
  rw [e]
  simp [Prod.ext_iff]
theorem any_mem {q : F} : ∀ {ns : List F}, ((ns.map dF).any fun z => PyData.eqv z (dF q)) = decide (q ∈ ns)
  | [] => by simp
  | r :: ns => by
    rw [List.map_cons, List.any_cons, eqv_frac, any_mem]
    by_cases c : r = q
    · rw [decide_eq_true c, decide_eq_true (show q ∈ r :: ns by rw [c]; exact List.mem_cons_self)]
      rfl
    · rw [decide_eq_false c, Bool.false_or]
      congr 1
      refine propext ⟨fun h => List.mem_cons_of_mem _ h, fun h => ?_⟩
      rcases List.mem_cons.mp h with z | h
      · exact absurd z.symm c
      · exact h
theorem red_small {x y : Int} (h : y = 1 ∨ y = 2) : Fq.Ok (red x y) ∧ (red x y).2 ∣ 2 ∧ (red x y).1.natAbs ≤ x.natAbs := by
  have hp : 0 < y := by omega
  refine ⟨red_ok hp, ?_, red_top hp⟩
  refine Int.dvd_trans (vl_dvd (red_ok (a := x) hp) (vl_red hp)) ?_
  rcases h with rfl | rfl <;> decide
theorem cut_to {xs : List V} {k : Nat} (h : k ≤ xs.length) : cutV xs none (some (k : Int)) = xs.take k := by
  unfold cutV
  have e : HT.sIx xs.length xs.length (some (k : Int)) = k := by
    rw [HT.sIx_nat]
    omega
  rw [e]
  show (xs.drop 0).take (k - 0) = _
  rw [List.drop_zero, Nat.sub_zero]
theorem cut_from {xs : List V} {k : Nat} (h : k ≤ xs.length) : cutV xs (some (k : Int)) none = xs.drop k := by
  unfold cutV
  have e : HT.sIx xs.length 0 (some (k : Int)) = k := by
    rw [HT.sIx_nat]
    omega
  rw [e]
  show (xs.drop k).take (xs.length - k) = _
  rw [List.take_of_length_le (by rw [List.length_drop]; exact Nat.le_refl _)]
/-- the numbers drawn so far -/
structure NI (K : PySem.W.Frag) (H H1 : Hp) (p c l : Addr) (n : Nat) (t : Int) (i : Nat) (t' : Int) (a : Addr) (xs : List V) (ns : List F) : Prop where
  S : Sta H1 p c l n t'
  t1 : t ≤ t'
  t2 : t' ≤ t + 1 + 2 * i
  k : Kp p l H H1
  sq : H1 a = some (.lst xs)
  nl : a ≠ l
  fx : FrAll K H1 xs ns
  sn : ∀ q ∈ ns, Sn q
  asc : Asc ns
  ne : 0 < i → ns ≠ []
  len : ns.length ≤ i
/-- _law_share(state, few) -/
def spLShare (K : PySem.W.Frag) : Sp := fun vs H Q _ => ∃ (p c l : Addr) (n : Nat) (t few : Int), vs = [.ref p, .int few] ∧ Sta H p c l n t ∧ t ≤ 8000 ∧ 1 ≤ few ∧ few ≤ 4 ∧
  ∀ (H' : Hp) (v : V) (ps : List Pr) (t' : Int), Shr K H' v ps → (∀ p ∈ ps, Sp2 p) → ps ≠ [] → ps.length ≤ 4 → t ≤ t' → t' ≤ t + 17 → Sta H' p c l n t' → Kp p l H H' → Q v H'
abbrev NLS : List Str := ["state", "few", "numbers", "k", "one", "spot", "far"]
section
variable {P : Program} {w : World} {K : PySem.W.Frag} {mg : Str → Option Value} {base : Heap} {f : Addr} {fd : FuncData}
theorem scLShare : FnScope NLS ["state", "few"] (defScope sLShare) := ⟨rfl, rfl, rfl, by decide +kernel, rfl, by decide +kernel, by decide +kernel⟩
theorem ok_lshare (F : Fun K "_law_share" "_law_share" sLShare f fd) (T : Blt mg) (DR : Cal P w K mg base 2 "_law_draw" spDraw) (LR : Cal P w K mg base 1 "_law_ratio" spLRatio) (LU : Cal P w K mg base 1 "_law_under" (spLt' K)) : FnOk P w K mg base CX0 3 f fd ["state", "few"] (spLShare K) := by
  refine F.ok scLShare (fun vs H Q E h => ?_) (fun cdv A outer s H vs Q E hr h => ?_)
  · obtain ⟨p, c, l, n, t, few, rfl, _⟩ := h
    rfl
  · obtain ⟨p, c, l, n, t, few, rfl, S, t8, f1, f4, kk⟩ := h
    have hu65 : (cxOf CX0 P w K mg base NLS "_law_share" (defScope sLShare) f cdv A outer s H E).nox.A.units + 65 < cLine := by
      have := hr.un
      show (A.deeper _).units + 65 < cLine
      omega
    refine ⟨_, pss_cons (ps_set (i := 2) scLShare.nd rfl (Or.inl rfl) (pe_lst pa_nil))
      (C8.pss_cut (ps_for PassesOwn.never rfl (pi_range1 rfl T.range (pa_cons (pe_op op_add pe_int (pe_n DR hr (by decide) (by rfl) (pa_cons (pv 0) (pa_cons (pv 1) pa_nil)))) pa_nil)) (pg_name (i := 3) scLShare.nd rfl (Or.inl rfl))
        (pss_cons (ps_set (i := 4) scLShare.nd rfl (Or.inr rfl) (pe_n LR hr (by decide) (by rfl) (pa_cons (pe_op op_sub (pe_n DR hr (by decide) (by rfl) (pa_cons (pv 0) (pa_cons pe_int pa_nil))) pe_int) (pa_cons (pe_op op_add pe_int (pe_n DR hr (by decide) (by rfl) (pa_cons (pv 0) (pa_cons pe_int pa_nil)))) pa_nil))))
        (pss_cons (ps_set (i := 5) scLShare.nd rfl (Or.inl rfl) (pe_callB call_len_seq (by rfl) T.len (by decide +kernel) (pa_cons (pe_lc (own := [("far", 6)]) (g := gName 6) (tt := tB (tCall (spLt' K) [] E0 (tCons (tVar 6) (tCons (tVar 4) tNil)))) rfl scLShare.nd (pi_list (pv 2)) (blkOk_by (N := NLS) (sc := defScope sLShare) (by decide +kernel))
            (fun _ _ _ _ _ => pg_name (i := 6) scLShare.nd rfl (Or.inl rfl)) (fun _ _ _ _ _ => pts_one (pt_val (pe_n LU hr (by decide) (by rfl) (pa_cons (pv 6) (pa_cons (pv 4) pa_nil)))))
            (fun _ _ _ _ _ => pv 6)) pa_nil)))
        (pss_one (ps_if (pt_cmpR (op_notInD hu65) (pv 4) (pv 2) (by rfl)) (pss_one (ps_set (i := 2) scLShare.nd rfl (Or.inl rfl) (pe_op op_cat (pe_op op_cat (pe_slice sl_list (pv 2) po_none (po_some (pv 5))) (pe_lst (pa_cons (pv 4) pa_nil))) (pe_slice sl_list (pv 2) (po_some (pv 5)) po_none)))) pss_nil)))))
      (pss_one (ps_ret (pe_callTy call_tuple_of (by rfl) T.tuple (by decide +kernel) (pa_cons (pe_lc (own := [("one", 4)]) (g := gName 4) (tt := tYes) rfl scLShare.nd (pi_list (pv 2)) (blkOk_by (N := NLS) (sc := defScope sLShare) (by decide +kernel))
            (fun _ _ _ _ _ => pg_name (i := 4) scLShare.nd rfl (Or.inl rfl)) (fun _ _ _ _ _ => pts_nil)
            (fun _ _ _ _ _ => pe_tup (pa_cons (pv 4) (pa_cons (pe_n LR hr (by decide) (by rfl) (pa_cons (pe_op op_add pe_int (pe_n DR hr (by decide) (by rfl) (pa_cons (pv 0) (pa_cons pe_int pa_nil)))) (pa_cons (pe_op op_add pe_int (pe_n DR hr (by decide) (by rfl) (pa_cons (pv 0) (pa_cons pe_int pa_nil)))) pa_nil))) pa_nil)))) pa_nil))))), ?_⟩
    refine ⟨(by show 0 ≤ sizeLine; decide), fun a0 h0 => ?_⟩
    have s0 := same_new (o := .lst []) h0
    obtain ⟨ls, l1, _⟩ := S.ls
    have na0 : a0 ≠ l := (ne_of_none l1 h0).symm
    refine ⟨fun σ H1 => ∃ (t' : Int) (i : Nat) (a : Addr) (xs : List V) (ns : List Fq.F) (v3 v4 v5 : Option V), NI K H H1 p c l n t i t' a xs ns ∧ 0 < i ∧ i ≤ 4 ∧ σ = [some (V.ref p), some (V.int few), some (V.ref a), v3, v4, v5, none], ?_, ?_⟩
    · refine ⟨_, rfl, _, rfl, p, c, l, n, t, few, rfl, S.mono s0, by omega, by omega, by omega, fun H1 r r0 r1 S1 k1 => ?_⟩
      have sq0 : H1 a0 = some (.lst []) := k1 a0 _ upd_same (ne_of upd_same (S.mono s0).d (by intro z; cases z)) na0
      refine ⟨_, _, rfl, rfl, _, rfl, by omega, by omega, for_range (n := (1 + r).toNat) (fun i σ H1 => ∃ (t' : Int) (a : Addr) (xs : List V) (ns : List Fq.F) (v3 v4 v5 : Option V), NI K H H1 p c l n t i t' a xs ns ∧ σ = [some (V.ref p), some (V.int few), some (V.ref a), v3, v4, v5, none])
        ⟨t + 1, a0, [], [], none, none, none, ⟨S1, by omega, by omega, (Kp.of s0).trans k1, sq0, na0, .nil, fun q h => by simp at h, .nil, fun z => absurd z (by decide), Nat.zero_le _⟩, rfl⟩ ?_ ?_⟩
      · rintro i σ H2 hi ⟨t', a, xs, ns, v3, v4, v5, N, rfl⟩
        have ti := N.t2
        have tj := N.t1
        have lx := N.fx.len
        have ln := N.len
        refine ⟨_, rfl, p, c, l, n, t', 9, rfl, N.S, by omega, by decide, by decide, fun Ha x x0 x1 Sa ka => ?_⟩
        refine ⟨_, _, rfl, rfl, _, rfl, p, c, l, n, t' + 1, 2, rfl, Sa, by omega, by decide, by decide, fun Hb y y0 y1 Sb kb => ?_⟩
        refine ⟨_, _, rfl, rfl, _, _, rfl, by omega, ?_, fun p1 hp1 => ?_⟩
        · have : (1 + y).natAbs < 2 ^ 2 := by omega
          exact Lt2.mono (m := 2) this (by decide)
        have s1 := same_new (o := fr (red (x - 4) (1 + y))) hp1
        have f1 : Fr K (upd Hb p1 (fr (red (x - 4) (1 + y)))) (.ref p1) (red (x - 4) (1 + y)) := Fr.of upd_same
        obtain ⟨o1, o2, o3⟩ := red_small (x := x - 4) (y := 1 + y) (by omega)
        have sn1 : Sn (red (x - 4) (1 + y)) := ⟨o1, o2, by omega⟩
        have Sc : Sta (upd Hb p1 (fr (red (x - 4) (1 + y)))) p c l n (t' + 1 + 1) := Sb.mono s1
        have nap : a ≠ p := ne_of N.sq N.S.d (by intro z; cases z)
        have sqc : upd Hb p1 (fr (red (x - 4) (1 + y))) a = some (.lst xs) := s1 _ _ (kb a _ (ka a _ N.sq nap N.nl) nap N.nl)
        have fxc : FrAll K (upd Hb p1 (fr (red (x - 4) (1 + y)))) xs ns := ((N.fx.kp ka N.S).kp kb Sa).mono s1
        have kc : Kp p l H (upd Hb p1 (fr (red (x - 4) (1 + y)))) := ((N.k.trans ka).trans kb).trans (Kp.of s1)
        generalize upd Hb p1 (fr (red (x - 4) (1 + y))) = Hc at f1 Sc sqc fxc kc
        generalize red (x - 4) (1 + y) = q at f1 sn1
        clear o1 o2 o3 s1 hp1 ka kb Sa Sb
        have dlq : ∀ {r : Fq.F}, Sn r → Dl r := fun {r} h => cb_dl (cb2 h.ok h.b h.a) (Bd.of (by decide) (N := 1) (by decide) (by decide) (by decide))
        -- spot
        refine ⟨_, rfl, a, rfl, ⟨_, SqL.of sqc⟩, fun D hD => ?_⟩
        refine lc_list (K := K) (a := a) (xs := xs) (fun j H3 => Same Hc H3 ∧ ∃ acc, H3 D = some (.lst acc) ∧ acc.length = ((ns.take j).filter fun r => lt r q).length) ⟨same_new hD, [], upd_same, rfl⟩ (fun j H3 _ z => SqL.of (z.1 _ _ sqc)) ?_ ?_
        · rintro j u H3 hu ⟨s3, acc, hD3, la⟩
          obtain ⟨hj, _⟩ := List.getElem?_eq_some_iff.mp hu
          obtain ⟨u1, r, e1, e2, fr_⟩ := fxc.get (i := j) (by omega)
          rw [hu] at e1
          cases e1
          refine ⟨rfl, ?_⟩
          refine ⟨_, rfl, _, rfl, u, .ref p1, r, q, rfl, fr_.mono s3, f1.mono s3, ⟨dlq (N.sn r (List.mem_of_getElem? e2)), dlq sn1⟩, _, rfl, ?_⟩
          have et : ((ns.take (j + 1)).filter fun r => lt r q).length = ((ns.take j).filter fun r => lt r q).length + (if lt r q = true then 1 else 0) := by
            rw [take_one e2, List.filter_append, List.length_append]
            congr 1
            by_cases c : lt r q = true
            · rw [if_pos c, List.filter_cons_of_pos (by exact c)]
              rfl
            · rw [if_neg c, List.filter_cons_of_neg (by exact c)]
              rfl
          have lf : ((ns.take j).filter fun r => lt r q).length ≤ ns.length := Nat.le_trans (List.length_filter_le _ _) (by rw [List.length_take]; omega)
          refine ite2 (fun c => ?_) (fun c => ?_)
          · refine ⟨_, rfl, acc, hD3, small1000 (by omega), fun b o e => (upd_ne (ne_of_none e hD)).trans (s3 b o e), acc ++ [u], upd_same, ?_⟩
            rw [et, if_pos c, List.length_append, la]
            rfl
          · exact ⟨s3, acc, hD3, by rw [et, if_neg c, la]; rfl⟩
        rintro H3 ⟨s3, acc, hD3, la⟩
        rw [lx, List.take_length] at la
        refine ⟨D, acc, rfl, Or.inl (SqL.of hD3), ?_⟩
        have sp_le : acc.length ≤ xs.length := by
          rw [la, lx]
          exact List.length_filter_le _ _
        have sq3 := s3 _ _ sqc
        have fx3 := fxc.mono s3
        have S3' := Sc.mono s3
        have k3 := kc.trans (Kp.of s3)
        have f3 := f1.mono s3
        -- not in
        refine ⟨_, rfl, _, rfl, dF q, ns.map dF, f3.dp, .lst (SqL.of sq3) fx3.dp, shaped_dF q, shaped_dFs ns, _, rfl, ?_⟩
        rw [any_mem]
        by_cases m : q ∈ ns
        · rw [decide_eq_true m]
          refine iteF ?_
          exact ⟨t' + 1 + 1, a, xs, ns, _, _, _, ⟨S3', by omega, by omega, k3, sq3, N.nl, fx3, N.sn, N.asc, (fun _ z => by rw [z] at m; exact absurd m (List.not_mem_nil)), by omega⟩, rfl⟩
        · rw [decide_eq_false m]
          refine iteT ?_
          refine ⟨_, rfl, _, rfl, (acc.length : Int), rfl, a, xs, rfl, SqL.of sq3, fun b1 hb1 => ?_⟩
          rw [cut_to sp_le]
          have s4 := same_new (o := .lst (xs.take acc.length)) hb1
          refine ⟨_, rfl, (by show 1 ≤ sizeLine; decide), fun b2 hb2 => ?_⟩
          have s5 := same_new (o := .lst [V.ref p1]) hb2
          have l1' : (xs.take acc.length).length ≤ 4 := by rw [List.length_take]; omega
          refine ⟨b1, b2, _, _, rfl, rfl, s5 _ _ upd_same, upd_same, Nat.le_of_lt (small1000 (by show _ + 1 ≤ 1000; omega)), fun b3 hb3 => ?_⟩
          have s6 := same_new (o := .lst (xs.take acc.length ++ [V.ref p1])) hb3
          have s46 := s4.trans (s5.trans s6)
          refine ⟨_, rfl, _, rfl, (acc.length : Int), rfl, a, xs, rfl, SqL.of (s46 _ _ sq3), fun b4 hb4 => ?_⟩
          rw [cut_from sp_le]
          have s7 := same_new (o := .lst (xs.drop acc.length)) hb4
          have l2' : (xs.drop acc.length).length ≤ 4 := by rw [List.length_drop]; omega
          refine ⟨b3, b4, _, _, rfl, rfl, s7 _ _ upd_same, upd_same, Nat.le_of_lt (small1000 (by rw [List.length_append]; show _ + 1 + _ ≤ 1000; omega)), fun b5 hb5 => ?_⟩
          have s8 := same_new (o := .lst (xs.take acc.length ++ [V.ref p1] ++ xs.drop acc.length)) hb5
          have s48 := s46.trans (s7.trans s8)
          have S8 := S3'.mono s48
          obtain ⟨ls8, l8, _⟩ := (S3'.mono (s46.trans s7)).ls
          have nb5 : b5 ≠ l := (ne_of_none l8 hb5).symm
          have fx8 := fx3.mono s48
          have ea := asc_ins sn1.ok (fun r hr => (N.sn r hr).ok) N.asc m
          rw [← la] at ea
          refine ⟨t' + 1 + 1, b5, _, ns.take acc.length ++ [q] ++ ns.drop acc.length, _, _, _, ⟨S8, by omega, by omega, k3.trans (Kp.of s48), upd_same, nb5, FrAll.app (FrAll.app (fx8.take _) (.cons (f3.mono s48) .nil)) (FrAll.drop _ fx8), ?_, ea, ?_, ?_⟩, rfl⟩
          · intro r hr
            rcases List.mem_append.mp hr with h | h
            · rcases List.mem_append.mp h with h | h
              · exact N.sn r (List.mem_of_mem_take h)
              · rw [List.mem_singleton.mp h]
                exact sn1
            · exact N.sn r (List.mem_of_mem_drop h)
          · intro _ z
            have := congrArg List.length z
            rw [List.length_append, List.length_append] at this
            simp at this
          · rw [List.length_append, List.length_append, List.length_take, List.length_drop]
            show _ + 1 + _ ≤ _
            omega
      · rintro σ H2 ⟨t', a, xs, ns, v3, v4, v5, N, rfl⟩
        exact ⟨t', (1 + r).toNat, a, xs, ns, v3, v4, v5, N, by omega, by omega, rfl⟩
    rintro σ H1 ⟨t', i, a, xs, ns, v3, v4, v5, N, i0, i4, rfl⟩
    have ti := N.t2
    have tj := N.t1
    have lx := N.fx.len
    have ln := N.len
    refine ⟨_, rfl, a, rfl, ⟨_, SqL.of N.sq⟩, fun D hD => ?_⟩
    have s1 := same_new (o := .lst []) hD
    obtain ⟨ls1, c1, _⟩ := N.S.ls
    obtain ⟨cs1, c2, _⟩ := N.S.cs
    have nc : c ≠ D := ne_of_none c2 hD
    have nl : l ≠ D := ne_of_none c1 hD
    have np : p ≠ D := ne_of_none N.S.d hD
    refine lc_list (K := K) (a := a) (xs := xs) (fun j H2 => ∃ (u : Int) (acc : List V) (ps : List Pr), H2 D = some (.lst acc) ∧ PrAll K H2 acc ps ∧ ps.map (·.1) = ns.take j ∧ (∀ r ∈ ps, Sp2 r) ∧ Sta H2 p c l n u ∧ t' ≤ u ∧ u ≤ t' + 2 * j ∧ (∀ b o, H b = some o → b ≠ p → b ≠ l → H2 b = some o) ∧ H2 a = some (.lst xs) ∧ FrAll K H2 xs ns)
      ⟨t', [], [], upd_same, .nil, rfl, fun r h => by simp at h, N.S.mono s1, by omega, by omega, fun b o e n1 n2 => s1 b o (N.k b o e n1 n2), s1 _ _ N.sq, N.fx.mono s1⟩ ?_ ?_ ?_
    · rintro j H2 _ ⟨_, _, _, _, _, _, _, _, _, _, _, z, _⟩
      exact SqL.of z
    · rintro j x H2 hx ⟨u, acc, ps, hD2, pa, em, sp2, S2, u1, u2, kk2, sq2, fx2⟩
      obtain ⟨hj, _⟩ := List.getElem?_eq_some_iff.mp hx
      obtain ⟨x1, q, e1, e2, fq⟩ := fx2.get (i := j) (by omega)
      rw [hx] at e1
      cases e1
      have snq := N.sn q (List.mem_of_getElem? e2)
      have la : acc.length ≤ 4 := by
        rw [pa.len]
        have := congrArg List.length em
        rw [List.length_map, List.length_take] at this
        omega
      refine ⟨rfl, ?_⟩
      refine iteT (B := ∃ (u : Int) (acc : List V) (ps : List Pr), H2 D = some (.lst acc) ∧ PrAll K H2 acc ps ∧ ps.map (·.1) = ns.take (j + 1) ∧ (∀ r ∈ ps, Sp2 r) ∧ Sta H2 p c l n u ∧ t' ≤ u ∧ u ≤ t' + 2 * ((j + 1 : Nat) : Int) ∧ (∀ b o, H b = some o → b ≠ p → b ≠ l → H2 b = some o) ∧ H2 a = some (.lst xs) ∧ FrAll K H2 xs ns) ?_
      refine ⟨_, rfl, _, rfl, p, c, l, n, u, 4, rfl, S2, by omega, by decide, by decide, fun Ha y y0 y1 Sa ka => ?_⟩
      refine ⟨_, _, rfl, rfl, _, rfl, p, c, l, n, u + 1, 2, rfl, Sa, by omega, by decide, by decide, fun Hb y2 y20 y21 Sb kb => ?_⟩
      refine ⟨_, _, rfl, rfl, _, _, rfl, by omega, ?_, fun p1 hp1 => ?_⟩
      · have : (1 + y2).natAbs < 2 ^ 2 := by omega
        exact Lt2.mono (m := 2) this (by decide)
      have s3 := same_new (o := fr (red (1 + y) (1 + y2))) hp1
      refine ⟨(by show 2 ≤ sizeLine; decide), fun p2 hp2 => ?_⟩
      have s4 := same_new (o := .tup [x, V.ref p1]) hp2
      have s34 := s3.trans s4
      obtain ⟨o1, o2, o3⟩ := red_small (x := 1 + y) (y := 1 + y2) (by omega)
      have op := red_pos (a := 1 + y) (b := 1 + y2) (by omega) (by omega)
      have fqb := ((ka.fr S2 fq).mono (H' := Ha) (fun _ _ z => z))
      have fq4 := (kb.fr Sa fqb).mono s34
      have f2 : Fr K (upd Hb p1 (fr (red (1 + y) (1 + y2)))) (.ref p1) (red (1 + y) (1 + y2)) := Fr.of upd_same
      have pv4 : PrV K (upd (upd Hb p1 (fr (red (1 + y) (1 + y2)))) p2 (.tup [x, V.ref p1])) (.ref p2) (q, red (1 + y) (1 + y2)) := ⟨p2, x, .ref p1, rfl, SqT.of upd_same, fq4, f2.mono s4⟩
      have hDa : Ha D = some (.lst acc) := ka D _ hD2 np.symm nl.symm
      have hDb : Hb D = some (.lst acc) := kb D _ hDa np.symm nl.symm
      have hD4 := s34 _ _ hDb
      have S4 := Sb.mono s34
      refine ⟨acc, hD4, small1000 (by omega), u + 1 + 1, acc ++ [.ref p2], ps ++ [(q, red (1 + y) (1 + y2))], upd_same, ?_, ?_, ?_, S4.off hD4 nc nl, by omega, by omega, ?_, ?_, ?_⟩
      · exact (PrAll.off hD4 (((pa.kp ka S2).kp kb Sa).mono s34)).snoc (pv4.off hD4)
      · rw [List.map_append, em, take_one e2]
        rfl
      · intro r hr
        rcases List.mem_append.mp hr with h | h
        · exact sp2 r h
        · rw [List.mem_singleton.mp h]
          exact ⟨snq.ok, snq.b, snq.a, o1, o2, by show (red (1 + y) (1 + y2)).1.natAbs < 5; omega, op.1⟩
      · intro b o e n1 n2
        have nb : b ≠ D := ne_of_none (N.k b o e n1 n2) hD
        exact (upd_ne nb).trans (s34 b o (kb b o (ka b o (kk2 b o e n1 n2) n1 n2) n1 n2))
      · have nap : a ≠ p := ne_of sq2 S2.d (by intro z; cases z)
        have naD : a ≠ D := ne_of_none N.sq hD
        exact (upd_ne naD).trans (s34 _ _ (kb a _ (ka a _ sq2 nap N.nl) nap N.nl))
      · exact FrAll.off hD4 (((fx2.kp ka S2).kp kb Sa).mono s34)
    · rintro H2 ⟨u, acc, ps, hD2, pa, em, sp2, S2, u1, u2, kk2, sq2, fx2⟩
      rw [lx, List.take_length] at em
      have lp : ps.length = ns.length := by
        have := congrArg List.length em
        rwa [List.length_map] at this
      have np' : ps ≠ [] := by
        rintro rfl
        exact N.ne i0 em.symm
      refine ⟨D, acc, rfl, Or.inl ⟨SqL.of hD2, fun b hb => ?_⟩⟩
      have s2 := same_new (o := .tup acc) hb
      refine kk _ (.ref b) ps u (.tup (SqT.of upd_same) (pa.mono s2).dp) sp2 np' (by omega) (by omega) (by omega) (S2.mono s2) (fun b' o e n1 n2 => s2 _ _ (kk2 b' o e n1 n2))
end
/-- _law_row(state) -/
def spLRow (K : PySem.W.Frag) : Sp := fun vs H Q _ => ∃ (p c l : Addr) (n : Nat) (t : Int), vs = [.ref p] ∧ Sta H p c l n t ∧ t ≤ 7000 ∧
  ∀ (H' : Hp) (v : V) (qs : List F) (t' : Int), Po K H' v qs → Rw qs → qs.length ≤ 8 → t ≤ t' → t' ≤ t + 21 → Sta H' p c l n t' → Kp p l H H' → Q v H'
abbrev NLR : List Str := ["state", "row", "at", "late"]
section
variable {P : Program} {w : World} {K : PySem.W.Frag} {mg : Str → Option Value} {base : Heap} {f : Addr} {fd : FuncData}
theorem scLRow : FnScope NLR ["state"] (defScope sLRow) := ⟨rfl, rfl, rfl, by decide +kernel, rfl, by decide +kernel, by decide +kernel⟩
theorem ok_lrow (F : Fun K "_law_row" "_law_row" sLRow f fd) (T : Blt mg) (DR : Cal P w K mg base 2 "_law_draw" spDraw) (LR : Cal P w K mg base 1 "_law_ratio" spLRatio) (lP : Cal P w K mg base 2 "_law_plus" (spOp K add domL)) (SH : Cal P w K mg base 3 "_law_share" (spLShare K)) (LM : Cal P w K mg base 4 "_law_moments" (spLMoms K)) :
    FnOk P w K mg base CX0 5 f fd ["state"] (spLRow K) := by
  refine F.ok scLRow (fun vs H Q E h => ?_) (fun cdv A outer s H vs Q E hr h => ?_)
  · obtain ⟨p, c, l, n, t, rfl, _⟩ := h
    rfl
  · obtain ⟨p, c, l, n, t, rfl, S, t7, kk⟩ := h
    refine ⟨_, pss_cons (ps_set (i := 1) scLRow.nd rfl (Or.inl rfl) (pe_n LM hr (by decide) (by rfl) (pa_cons (pe_n SH hr (by decide) (by rfl) (pa_cons (pv 0) (pa_cons pe_int pa_nil))) (pa_cons (pe_n DR hr (by decide) (by rfl) (pa_cons (pv 0) (pa_cons pe_int pa_nil))) pa_nil))))
      (C8.pss_cut (ps_if (pt_cmpR op_eq (pe_n DR hr (by decide) (by rfl) (pa_cons (pv 0) (pa_cons pe_int pa_nil))) pe_int (nomark _))
        (pss_cons (ps_set (i := 2) scLRow.nd rfl (Or.inl rfl) (pe_n DR hr (by decide) (by rfl) (pa_cons (pv 0) (pa_cons (pe_callB call_len_seq (by rfl) T.len (by decide +kernel) (pa_cons (pv 1) pa_nil)) pa_nil))))
        (pss_cons (ps_set (i := 3) scLRow.nd rfl (Or.inl rfl) (pe_n lP hr (by decide) (by rfl) (pa_cons (pe_ix ix_tup (pv 1) (pv 2) (fun _ _ => rfl)) (pa_cons (pe_n LR hr (by decide) (by rfl) (pa_cons (pe_op op_sub (pe_n DR hr (by decide) (by rfl) (pa_cons (pv 0) (pa_cons pe_int pa_nil))) pe_int) (pa_cons pe_int pa_nil))) pa_nil))))
        (pss_one (ps_set (i := 1) scLRow.nd rfl (Or.inl rfl) (pe_op op_catA (pe_op op_catA (pe_slice sl_tupA (pv 1) po_none (po_some (pv 2))) (pe_tup (pa_cons (pv 3) pa_nil))) (pe_slice sl_tupA (pv 1) (po_some (pe_op op_add (pv 2) pe_int)) po_none)))))) pss_nil)
      (pss_one (ps_ret (pe_ifExp (pt_cmpR op_gt (pe_ix ix_tup (pe_ix ix_tup (pv 1) pe_int (fun _ _ => rfl)) pe_int (fun _ _ => rfl)) pe_int (nomark _)) (pv 1) (pe_op op_catA (pe_tup (pa_cons (pe_tup (pa_cons pe_int (pa_cons pe_int pa_nil))) pa_nil)) (pe_slice sl_tupA (pv 1) (po_some pe_int) po_none)))))), ?_⟩
    refine ⟨_, rfl, p, c, l, n, t, 3, rfl, S, by omega, by decide, by decide, fun H1 v ps t1 hs sp2 pn pl t1a t1b S1 k1 => ?_⟩
    refine ⟨_, rfl, p, c, l, n, t1, 8, rfl, S1, by omega, by decide, by decide, fun H2 r r0 r1 S2 k2 => ?_⟩
    have hs2 : Shr K H2 v ps := by
      obtain ⟨a, xs, rfl, sx, all⟩ := hs.open
      refine .tup (sqT_kp k2 S1 sx) ?_
      clear hs sp2 pn pl
      have go : ∀ {vs : List V} {rs : List Pr}, DpAll K H1 vs (rs.map dPr) → DpAll K H2 vs (rs.map dPr) := by
        intro vs rs
        induction rs generalizing vs with
        | nil =>
          intro h
          cases h
          exact .nil
        | cons r rs ih =>
          intro h
          cases h with
          | cons h1 h2 => exact .cons (PrV.dp (PrV.kp k2 S1 (prOf h1))) (ih h2)
      exact go all
    refine ⟨v, ps, r, rfl, hs2, sp2, pl, r0, by omega, fun H3 b s3 po => ?_⟩
    have k13 := (k1.trans k2).trans (Kp.of s3)
    have S3' := S2.mono s3
    have rw0 := moms_rw sp2 pn pl (k := r.toNat) (by omega)
    have len0 : (moms ps r.toNat).length ≤ 8 := by rw [moms_len]; omega
    have db0 := moms_cb sp2 pl (n := r.toNat) (by omega)
    generalize moms ps r.toNat = qs0 at po rw0 len0 db0
    refine ⟨fun σ H4 => ∃ (b : Addr) (qs : List Fq.F) (t' : Int) (v2 v3 : Option V), Po K H4 (.ref b) qs ∧ Ca 256 29 qs ∧ qs ≠ [] ∧ qs.length ≤ 8 ∧ t ≤ t' ∧ t' ≤ t + 21 ∧ Sta H4 p c l n t' ∧ Kp p l H H4 ∧ σ = [some (V.ref p), some (V.ref b), v2, v3], ?_, ?_⟩
    · refine ⟨_, rfl, p, c, l, n, t1 + 1, 3, rfl, S3', by omega, by decide, by decide, fun H4 x x0 x1 S4 k4 => ?_⟩
      have po4 := po.kp k4 S3'
      refine ⟨rfl, _, rfl, ?_⟩
      refine ite2 (fun cx => ?_) (fun cx => ?_)
      · obtain ⟨a, xs, ea, sx, fx⟩ := id po4
        cases ea
        have lx := fx.len
        have ne0 := List.length_pos_iff.mpr rw0.n
        refine ⟨_, rfl, _, rfl, b, xs, rfl, Or.inr sx, p, c, l, n, t1 + 1 + 1, _, rfl, S4, by omega, by omega, by omega, fun H5 y y0 y1 S5 k5 => ?_⟩
        obtain ⟨i, rfl⟩ : ∃ i : Nat, y = (i : Int) := ⟨y.toNat, by omega⟩
        have hi : i < xs.length := by omega
        have po5 := po4.kp k5 S4
        obtain ⟨a5, xs5, ea5, sx5, fx5⟩ := id po5
        cases ea5
        have lx5 := fx5.len
        obtain ⟨u, q, e1, e2, fq⟩ := fx5.get (i := i) (by omega)
        refine ⟨_, rfl, _, rfl, b, xs5, _, u, rfl, rfl, sx5, atI_nat e1, ?_⟩
        refine ⟨_, rfl, p, c, l, n, t1 + 1 + 1 + 1, 5, rfl, S5, by omega, by decide, by decide, fun H6 z z0 z1 S6 k6 => ?_⟩
        have po6 := po5.kp k6 S5
        have fq6 := k6.fr S5 fq
        refine ⟨_, _, rfl, rfl, _, _, rfl, by decide, Lt2.mono (m := 2) (by show (2 : Int).natAbs < 4; decide) (by decide), fun p1 hp1 => ?_⟩
        have s7 := same_new (o := fr (red (z - 2) 2)) hp1
        obtain ⟨o1, o2, o3⟩ := red_small (x := z - 2) (y := 2) (.inr rfl)
        have dr : Cb 256 10 (red (z - 2) 2) := cb_dvd (n := 2) (m := 8) o1 (Int.dvd_trans o2 (by decide)) (by decide) (by omega) (by decide)
        have dq := db0 q (List.mem_of_getElem? e2)
        refine ⟨u, .ref p1, q, red (z - 2) 2, rfl, fq6.mono s7, Fr.of upd_same, ⟨cb_dl dq (Bd.of (by decide) (N := 8) (by decide) (by decide) (by decide)), cb_dl dr (Bd.of (by decide) (N := 8) (by decide) (by decide) (by decide))⟩, fun p2 hp2 => ?_⟩
        have s8 := same_new (o := fr (add q (red (z - 2) 2))) hp2
        have s78 := s7.trans s8
        have dl_ : Cb 256 29 (add q (red (z - 2) 2)) := dq.add (dr.mono (by decide))
        have po8 := po6.mono s78
        have f8 : Fr K (upd (upd H6 p1 (fr (red (z - 2) 2))) p2 (fr (add q (red (z - 2) 2)))) (.ref p2) (add q (red (z - 2) 2)) := Fr.of upd_same
        have S8 := S6.mono s78
        have k8 : Kp p l H (upd (upd H6 p1 (fr (red (z - 2) 2))) p2 (fr (add q (red (z - 2) 2)))) := (((k13.trans k4).trans k5).trans k6).trans (Kp.of s78)
        generalize upd (upd H6 p1 (fr (red (z - 2) 2))) p2 (fr (add q (red (z - 2) 2))) = H8 at po8 f8 S8 k8
        generalize add q (red (z - 2) 2) = lq at dl_ f8
        obtain ⟨a8, xs8, ea8, sx8, fx8⟩ := id po8
        cases ea8
        have lx8 := fx8.len
        have nw : ¬ (HT.sIx xs8.length 0 none = 0 ∧ HT.sIx xs8.length xs8.length (some (i : Int)) = xs8.length) := by
          rintro ⟨_, z⟩
          rw [HT.sIx_nat] at z
          omega
        refine ⟨_, rfl, _, rfl, (i : Int), rfl, b, xs8, rfl, sx8, (fun z => absurd z nw), fun _ b1 hb1 => ?_⟩
        rw [cut_to (by omega)]
        have s9 := same_new (o := .tup (xs8.take i)) hb1
        refine ⟨_, rfl, (by show 1 ≤ sizeLine; decide), fun b2 hb2 => ?_⟩
        have s10 := same_new (o := .tup [V.ref p2]) hb2
        have l8 : xs8.length ≤ 8 := by omega
        refine cat_any (xs := xs8.take i) (ys := [V.ref p2]) (SqT.of (s10 _ _ upd_same)) (SqT.of upd_same) (Nat.le_of_lt (small1000 (by rw [List.length_take]; show _ + 1 ≤ 1000; omega))) (fun b3 H9 s11 sq3 => ?_)
        have s911 := (s9.trans s10).trans s11
        have nw2 : ¬ (HT.sIx xs8.length 0 (some ((i : Int) + 1)) = 0 ∧ HT.sIx xs8.length xs8.length none = xs8.length) := by
          rintro ⟨z, _⟩
          rw [show (i : Int) + 1 = ((i + 1 : Nat) : Int) by omega, HT.sIx_nat] at z
          omega
        refine ⟨_, rfl, _, rfl, _, _, rfl, rfl, (i : Int) + 1, rfl, b, xs8, rfl, Bs.Same.t s911 sx8, (fun z => absurd z nw2), fun _ b4 hb4 => ?_⟩
        rw [show (i : Int) + 1 = ((i + 1 : Nat) : Int) by omega, cut_from (by omega)]
        have s12 := same_new (o := .tup (xs8.drop (i + 1))) hb4
        refine cat_any (xs := xs8.take i ++ [V.ref p2]) (ys := xs8.drop (i + 1)) (Bs.Same.t s12 sq3) (SqT.of upd_same) (Nat.le_of_lt (small1000 (by rw [List.length_append, List.length_take, List.length_drop]; show _ + 1 + _ ≤ 1000; omega))) (fun b5 H10 s13 sq5 => ?_)
        have s913 := s911.trans (s12.trans s13)
        refine ⟨b5, qs0.take i ++ [lq] ++ qs0.drop (i + 1), t1 + 1 + 1 + 1 + 1, _, _, ⟨b5, _, rfl, sq5, ?_⟩, ?_, ?_, ?_, by omega, by omega, S8.mono s913, k8.trans (Kp.of s913), rfl⟩
        · have fx10 := fx8.mono s913
          exact FrAll.app (FrAll.app (fx10.take i) (.cons (f8.mono s913) .nil)) (FrAll.drop (i + 1) fx10)
        · intro r' hr'
          rcases List.mem_append.mp hr' with h | h
          · rcases List.mem_append.mp h with h | h
            · exact rw0.d r' (List.mem_of_mem_take h)
            · rw [List.mem_singleton.mp h]
              exact dl_
          · exact rw0.d r' (List.mem_of_mem_drop h)
        · intro z
          have := congrArg List.length z
          rw [List.length_append, List.length_append] at this
          simp at this
        · rw [List.length_append, List.length_append, List.length_take, List.length_drop]
          show _ + 1 + _ ≤ 8
          omega
      · exact ⟨b, qs0, t1 + 1 + 1, _, _, po4, rw0.d, rw0.n, len0, by omega, by omega, S4, k13.trans k4, rfl⟩
    rintro σ H4 ⟨b, qs, t', v2, v3, po4, dq, ne, l8, ta, tb, S4, k4, rfl⟩
    obtain ⟨a, xs, ea, sx, fx⟩ := id po4
    cases ea
    cases fx with
    | nil => exact absurd rfl ne
    | cons h1 h2 =>
      rename_i u us q rs
      obtain ⟨c1, rfl, s1⟩ := h1
      refine ⟨_, rfl, b, _, 0, _, rfl, rfl, sx, atI_nat (j := 0) rfl, c1, _, 0, _, rfl, rfl, s1, rfl, _, _, rfl, rfl, _, rfl, ?_⟩
      refine ite2 (fun cx => ?_) (fun cx => ?_)
      · exact ⟨_, rfl, kk H4 _ _ t' po4 ⟨dq, ne, by omega, fun q' r' e => by cases e; exact of_decide_eq_true cx⟩ l8 ta tb S4 k4⟩
      · refine ⟨(by show 2 ≤ sizeLine; decide), fun b1 hb1 => ⟨(by show 1 ≤ sizeLine; decide), fun b2 hb2 => ?_⟩⟩
        have s5 := same_new (o := .tup [.int 1, .int 1]) hb1
        have s6 := same_new (o := .tup [V.ref b1]) hb2
        have s56 := s5.trans s6
        have f1 : Fr K (upd (upd H4 b1 (.tup [.int 1, .int 1])) b2 (.tup [V.ref b1])) (.ref b1) (1, 1) := (Fr.of (upd_same (H := H4) (a := b1) (o := fr (1, 1)))).mono s6
        refine ⟨_, rfl, 1, rfl, b, _, rfl, Bs.Same.t s56 sx, (fun z => absurd z (not_whole (by rw [List.length_cons]; omega))), fun _ b3 hb3 => ?_⟩
        rw [cut_tail (by rw [List.length_cons]; omega)]
        have s7 := same_new (o := .tup us) hb3
        have lus := h2.len
        rw [List.length_cons] at l8
        refine cat_any (xs := [V.ref b1]) (ys := us) (SqT.of (s7 _ _ upd_same)) (SqT.of upd_same) (Nat.le_of_lt (small1000 (by show 1 + _ ≤ 1000; omega))) (fun b4 H9 s8 sq => ?_)
        have s58 := s56.trans (s7.trans s8)
        refine kk H9 _ ((1, 1) :: rs) t' ⟨b4, _, rfl, sq, .cons (f1.mono (s7.trans s8)) (h2.mono s58)⟩ ⟨?_, by simp, by rw [List.length_cons]; omega, fun q' r' e => by cases e; decide⟩ (by rw [List.length_cons]; omega) ta tb (S4.mono s58) (k4.trans (Kp.of s58))
        intro r' hr'
        rcases List.mem_cons.mp hr' with rfl | h
        · exact cb_dvd (n := 0) (m := 8) ⟨by decide, by decide⟩ (by decide) (by decide) (by decide) (by decide) |>.mono (by decide)
        · exact dq r' (List.mem_cons_of_mem _ h)
end
end Rs


set_option Elab.async false
set_option linter.all false
set_option maxRecDepth 100000
set_option maxHeartbeats 1000000
namespace Fq
open Rs
def lsr (a b : List F) : List F := (List.range a.length).map fun k => if k < b.length then sub (co a k) (co b k) else co a k
theorem lsr_len (a b : List F) : (lsr a b).length = a.length := by simp [lsr]
/-- where the sums are not nought -/
def misF (some row : List F) : List Nat := (List.range (row.length + 1 - some.length)).filter fun k => !decide (sumBy (List.replicate k (0, 1) ++ some) row = (0, 1))
end Fq
namespace Rs
open PySem L2 Bs Fq LamX RZ
abbrev sLSumBy : Stmt := top 70
abbrev sLLesser : Stmt := top 72
abbrev sMisfits : Stmt := top 77
def rLenK (K : PySem.W.Frag) : List V → Hp → VK → Prop := fun xs H Q => ∃ p ys, xs = [V.ref p] ∧ (SqL K H p ys ∨ SqT K H p ys) ∧ Q (.int ys.length) H
def spLSumBy (K : PySem.W.Frag) : Sp := fun vs H Q _ => ∃ (x y : V) (some row : List F) (D1 D2 : Int) (n m : Nat), vs = [x, y] ∧ Po K H x row ∧ Ls K H y some ∧ Ca D1 n some ∧ Ca D2 m row ∧ Bd D1 n ∧ Bd D2 m ∧ Bd (D1 * D2) (n + m + some.length) ∧ some.length ≤ 50 ∧
  ∀ H' u, Same H H' → Fr K H' u (sumBy some row) → Q u H'
/-- _law_lesser(one, far) -/
def spLLesser (K : PySem.W.Frag) : Sp := fun vs H Q _ => ∃ (x y : V) (a b : List F) (D1 D2 : Int) (n m : Nat), vs = [x, y] ∧ Ls K H x a ∧ Ls K H y b ∧ Ca D1 n a ∧ Ca D2 m b ∧ Bd D1 n ∧ Bd D2 m ∧ a.length ≤ 500 ∧ ∀ H' p xs, Same H H' → H p = none → H' p = some (.lst xs) → FrAll K H' xs (lsr a b) → Q (.ref p) H'
def spMisfits (K : PySem.W.Frag) : Sp := fun vs H Q _ => ∃ (x : V) (a : Addr) (xs : List V) (some row : List F) (D1 D2 : Int) (n m : Nat), vs = [x, .ref a] ∧ Po K H x row ∧ (SqL K H a xs ∨ SqT K H a xs) ∧ FrAll K H xs some ∧ Ca D1 n some ∧ Ca D2 m row ∧ Bd D1 n ∧ Bd D2 m ∧ Bd (D1 * D2) (n + m + 50) ∧ row.length ≤ 20 ∧ some.length ≤ 20 ∧
  ∀ H' p, Same H H' → SqL K H' p ((misF some row).map fun k : Nat => V.int k) → Q (.ref p) H'
theorem walk_mix {K : PySem.W.Frag} {a b : Addr} {xs ys : List V} {n : Nat} (hn : n = min xs.length ys.length) : Walk (MxZ.ItzM K a b) n (fun H => SqL K H a xs ∧ SqT K H b ys) (YPair (fun i => xs[i]?) (fun i => ys[i]?)) := by
  rw [hn]
  refine ⟨fun i _ hi q => ?_, fun _ q => ⟨xs, ys, q.1, q.2, by omega, by omega, by omega⟩, fun i H v H' _ q y => ?_⟩
  · have h1 : i < xs.length := by omega
    have h2 : i < ys.length := by omega
    exact ⟨xs, ys, xs[i], ys[i], q.1, q.2, List.getElem?_eq_getElem h1, List.getElem?_eq_getElem h2⟩
  · obtain ⟨T, x, z, e1, e2, e3, e4, e5⟩ := y
    exact ⟨T, x, z, e1, e2, e3, e4 xs q.1, e5 ys q.2⟩
theorem Ls.at {K : PySem.W.Frag} {H : Hp} {xs : List V} {s : List F} {i : Nat} (fx : FrAll K H xs s) (hi : i < s.length) : ∃ u, xs[i]? = some u ∧ Fr K H u (co s i) := by
  obtain ⟨u, q, e1, e2, f⟩ := fx.get hi
  exact ⟨u, e1, by rw [co_get e2]; exact f⟩
section
variable {P : Program} {w : World} {K : PySem.W.Frag} {mg : Str → Option Value} {base : Heap} {f : Addr} {fd : FuncData}
theorem scLSumBy : FnScope ["row", "some", "one", "moment"] ["row", "some"] (defScope sLSumBy) := ⟨rfl, rfl, rfl, by decide +kernel, rfl, by decide +kernel, by decide +kernel⟩
theorem ok_lsumBy (F : Fun K "_law_sum_by" "_law_sum_by" sLSumBy f fd) (zp : mg "zip" = none) (lT : Cal P w K mg base 2 "_law_times" (spOp K mul domL)) (LS : Cal P w K mg base 3 "_law_sum" (spLSum K)) : FnOk P w K mg base CX0 4 f fd ["row", "some"] (spLSumBy K) := by
  refine F.ok scLSumBy (fun vs H Q E h => ?_) (fun cdv A outer s H vs Q E hr h => ?_)
  · obtain ⟨x, y, qs, rs, _, _, _, _, rfl, _⟩ := h
    rfl
  · obtain ⟨x, y, qs, rs, D1, D2, n, m, rfl, ⟨b, ys, rfl, sy, fy⟩, ⟨a, xs, rfl, sx, fx⟩, hq, hrs, b1, b2, hnm, l50, kk⟩ := h
    have lx := fx.len
    have ly := fy.len
    refine ⟨_, pss_one (ps_ret (pe_n LS hr (by decide) (by rfl) (pa_cons (pe_lc (own := [("one", 2), ("moment", 3)]) (g := gTup K 2 (gCons (gName 2) (gCons (gName 3) gNil))) (tt := tYes) rfl scLSumBy.nd
          (MxZ.pi_mix (by rfl) zp (pa_cons (pv 1) (pa_cons (pv 0) pa_nil))) (blkOk_by (N := ["row", "some", "one", "moment"]) (sc := defScope sLSumBy) (by decide +kernel))
          (fun _ _ _ _ _ => pg_tup rfl (pgs_cons (pg_name (i := 2) scLSumBy.nd rfl (Or.inl rfl)) (pgs_cons (pg_name (i := 3) scLSumBy.nd rfl (Or.inl rfl)) pgs_nil))) (fun _ _ _ _ _ => pts_nil)
          (fun _ _ _ _ _ => pe_n lT hr (by decide) (by rfl) (pa_cons (pv 2) (pa_cons (pv 3) pa_nil)))) pa_nil))), ?_⟩
    refine ⟨_, rfl, _, rfl, a, b, xs, ys, rfl, sx, sy, fun D hD => ?_⟩
    refine lc_it (walk_mix (xs := xs) (ys := ys) (n := min xs.length ys.length) rfl) (fun i H4 => Same H H4 ∧ ∃ acc, H4 D = some (.lst acc) ∧ FrAll K H4 acc ((List.zipWith mul qs rs).take i)) ⟨same_new hD, [], upd_same, .nil⟩ (fun i H4 _ z => ⟨z.1.seq sx, Bs.Same.t z.1 sy⟩) ?_ ?_
    · rintro i x H4 H5 hi ⟨s4, acc, hD4, fac⟩ ⟨T', x', y', rfl, hT, rfl, h1, h2⟩
      have h1' : xs[i]? = some x' := h1
      have h2' : ys[i]? = some y' := h2
      have s5 := same_new (o := .tup [x', y']) hT
      have s45 := s4.trans s5
      obtain ⟨x1, q, e1, e2, fq⟩ := fx.get (i := i) (by omega)
      obtain ⟨y1, r, e3, e4, fr_⟩ := fy.get (i := i) (by omega)
      rw [h1'] at e1
      cases e1
      rw [h2'] at e3
      cases e3
      have et := zw_get e2 e4
      have la : acc.length ≤ 50 := by
        rw [fac.len, List.length_take, List.length_zipWith]
        omega
      refine ⟨T', _, rfl, SqT.of upd_same, rfl, _, _, rfl, _, _, rfl, rfl, rfl, ?_⟩
      refine iteT (B := Same H (upd H4 T' (.tup [x', y'])) ∧ ∃ acc, upd H4 T' (.tup [x', y']) D = some (.lst acc) ∧ FrAll K (upd H4 T' (.tup [x', y'])) acc ((List.zipWith mul qs rs).take (i + 1))) ?_
      refine ⟨_, rfl, _, rfl, x', y', q, r, rfl, fq.mono s45, fr_.mono s45, ⟨cb_dl (hq q (List.mem_of_getElem? e2)) b1, cb_dl (hrs r (List.mem_of_getElem? e4)) b2⟩, fun p hp => ?_⟩
      have s6 := same_new (o := fr (mul q r)) hp
      have s56 := s5.trans s6
      refine ⟨acc, s56 _ _ hD4, small1000 (by omega), fun c o e => (upd_ne (ne_of_none e hD)).trans (s56 c o (s4 c o e)), acc ++ [.ref p], upd_same, ?_⟩
      rw [take_one et]
      exact (FrAll.off (s56 _ _ hD4) (fac.mono s56)).snoc ((Fr.of upd_same).off (s56 _ _ hD4))
    · rintro H4 ⟨s4, acc, hD4, fac⟩
      rw [List.take_of_length_le (by rw [List.length_zipWith, lx, ly]; exact Nat.le_refl _)] at fac
      refine ⟨D, acc, _, D1 * D2, n + m, rfl, SqL.of hD4, fac, ?_, hnm.mono (by rw [List.length_zipWith]; omega), fun H' u s5 fu => kk H' u (s4.trans s5) fu⟩
      rw [zip_mapC]
      intro q hq'
      obtain ⟨i, _, rfl⟩ := List.mem_map.mp hq'
      exact (hq.co i).mul (hrs.co i)
theorem scLLesser : FnScope ["one", "far", "k", "top"] ["one", "far"] (defScope sLLesser) := ⟨rfl, rfl, rfl, by decide +kernel, rfl, by decide +kernel, by decide +kernel⟩
theorem ok_llesser (F : Fun K "_law_lesser" "_law_lesser" sLLesser f fd) (T : Blt mg) (en : mg "enumerate" = none) (lL : Cal P w K mg base 2 "_law_less" (spOp K sub domL)) : FnOk P w K mg base CX0 3 f fd ["one", "far"] (spLLesser K) := by
  refine F.ok scLLesser (fun vs H Q E h => ?_) (fun cdv A outer s H vs Q E hr h => ?_)
  · obtain ⟨x, y, a, b, _, _, _, _, rfl, _⟩ := h
    rfl
  · obtain ⟨x, y, a, b, D1, D2, n, m, rfl, ⟨p, xs, rfl, sx, fx⟩, ⟨r, ys, rfl, sy, fy⟩, za, zb, ba, bb, l5, kk⟩ := h
    have lx := fx.len
    have ly := fy.len
    refine ⟨_, pss_one (ps_ret (pe_lc (own := [("k", 2), ("top", 3)]) (g := gTup K 2 (gCons (gName 2) (gCons (gName 3) gNil))) (tt := tYes) rfl scLLesser.nd
          (pi_enum (by rfl) en (pa_cons (pv 0) pa_nil)) (blkOk_by (N := ["one", "far", "k", "top"]) (sc := defScope sLLesser) (by decide +kernel))
          (fun _ _ _ _ _ => pg_tup rfl (pgs_cons (pg_name (i := 2) scLLesser.nd rfl (Or.inl rfl)) (pgs_cons (pg_name (i := 3) scLLesser.nd rfl (Or.inl rfl)) pgs_nil))) (fun _ _ _ _ _ => pts_nil)
          (fun _ _ _ _ _ => pe_ifExp (pt_cmpR op_lt (pv 2) (pe_callB (id := "len") (r := rLenK K) call_len_seq (by rfl) T.len (by decide +kernel) (pa_cons (pv 1) pa_nil)) (nomark _))
            (pe_n lL hr (by decide) (by rfl) (pa_cons (pv 3) (pa_cons (pe_ix (r := rIxL K) ix_list (pv 1) (pv 2) (fun _ _ => rfl)) pa_nil))) (pv 3)))), ?_⟩
    refine ⟨_, rfl, p, xs, rfl, sx, fun D hD => ?_⟩
    refine lc_it walk_enum (fun i H4 => Same H H4 ∧ ∃ acc, H4 D = some (.lst acc) ∧ FrAll K H4 acc ((lsr a b).take i)) ⟨same_new hD, [], upd_same, .nil⟩ (fun i H4 _ z => z.1.seq sx) ?_ ?_
    · rintro i x H4 H5 hi ⟨s4, acc, hD4, fac⟩ ⟨T', x', y', rfl, hT, rfl, h1, h2⟩
      cases h1
      have h2' : xs[i]? = some y' := h2
      have s5 := same_new (o := .tup [.int (i : Nat), y']) hT
      have s45 := s4.trans s5
      obtain ⟨x1, q, e1, e2, fq⟩ := fx.get (i := i) (by omega)
      rw [h2'] at e1
      cases e1
      have hi' : i < a.length := by omega
      have el : (lsr a b)[i]? = some (if i < b.length then sub (co a i) (co b i) else co a i) := by
        unfold lsr
        rw [List.getElem?_map, List.getElem?_range hi']
        rfl
      have eq_ : co a i = q := co_get e2
      have la : acc.length ≤ 500 := by
        rw [fac.len, List.length_take, lsr_len]
        omega
      refine ⟨T', _, rfl, SqT.of upd_same, rfl, _, _, rfl, _, _, rfl, rfl, rfl, ?_⟩
      refine iteT (B := Same H (upd H4 T' (.tup [.int (i : Nat), y'])) ∧ ∃ acc, upd H4 T' (.tup [.int (i : Nat), y']) D = some (.lst acc) ∧ FrAll K (upd H4 T' (.tup [.int (i : Nat), y'])) acc ((lsr a b).take (i + 1))) ?_
      refine ⟨_, rfl, _, rfl, r, ys, rfl, .inl (s45.seq sy), _, _, rfl, rfl, _, rfl, ?_⟩
      refine ite2 (fun c => ?_) (fun c => ?_)
      · have hb : i < b.length := by
          have := of_decide_eq_true c
          omega
        obtain ⟨u, g1, g2⟩ := Ls.at (i := i) fy hb
        refine ⟨_, rfl, _, rfl, _, rfl, r, ys, _, u, rfl, rfl, s45.seq sy, atI_nat g1, y', u, q, co b i, rfl, fq.mono s45, g2.mono s45, ⟨by rw [← eq_]; exact cb_dl (za.co i) ba, cb_dl (zb.co i) bb⟩, fun p2 hp2 => ?_⟩
        have s6 := same_new (o := fr (sub q (co b i))) hp2
        have s56 := s5.trans s6
        refine ⟨acc, s56 _ _ hD4, small1000 (by omega), fun c o e => (upd_ne (ne_of_none e hD)).trans (s56 c o (s4 c o e)), acc ++ [.ref p2], upd_same, ?_⟩
        rw [take_one el, if_pos hb, eq_]
        exact (FrAll.off (s56 _ _ hD4) (fac.mono s56)).snoc ((Fr.of upd_same).off (s56 _ _ hD4))
      · have hb : ¬ i < b.length := fun z => c (decide_eq_true (by omega))
        refine ⟨_, rfl, acc, s5 _ _ hD4, small1000 (by omega), fun c o e => (upd_ne (ne_of_none e hD)).trans (s5 c o (s4 c o e)), acc ++ [y'], upd_same, ?_⟩
        rw [take_one el, if_neg hb, eq_]
        exact (FrAll.off (s5 _ _ hD4) (fac.mono s5)).snoc ((fq.mono s45).off (s5 _ _ hD4))
    · rintro H4 ⟨s4, acc, hD4, fac⟩
      rw [List.take_of_length_le (by rw [lsr_len, lx]; exact Nat.le_refl _)] at fac
      exact kk H4 D acc s4 hD hD4 fac
theorem scMisfits : FnScope ["row", "some", "found_so", "k"] ["row", "some"] (defScope sMisfits) := ⟨rfl, rfl, rfl, by decide +kernel, rfl, by decide +kernel, by decide +kernel⟩
theorem ok_misfits (F : Fun K "_law_misfits" "_law_misfits" sMisfits f fd) (T : Blt mg) (SB : Cal P w K mg base 4 "_law_sum_by" (spLSumBy K)) : FnOk P w K mg base CX0 5 f fd ["row", "some"] (spMisfits K) := by
  refine F.ok scMisfits (fun vs H Q E h => ?_) (fun cdv A outer s H vs Q E hr h => ?_)
  · obtain ⟨x, a, xs, qs, rs, _, _, _, _, rfl, _⟩ := h
    rfl
  · obtain ⟨x, a, xs, qs, rs, D1, D2, n, m, rfl, ⟨b, ys, rfl, sy, fy⟩, sx, fx, hq, hrs, b1, b2, hnm, l20, lq, kk⟩ := h
    have lx := fx.len
    have ly := fy.len
    have sxm : ∀ {H' : Hp}, Same H H' → SqL K H' a xs ∨ SqT K H' a xs := fun s => sx.elim (fun h => .inl (s.seq h)) fun h => .inr (Bs.Same.t s h)
    have em : ((ys.length : Int) + 1 - (xs.length : Int)).toNat = rs.length + 1 - qs.length := by omega
    refine ⟨_, pss_cons (ps_set (i := 2) scMisfits.nd rfl (Or.inl rfl) (pe_lst pa_nil))
      (pss_cons (ps_for PassesOwn.never rfl (pi_range1 rfl T.range (pa_cons (pe_op op_sub (pe_op op_add (pe_callB call_len_seq (by rfl) T.len (by decide +kernel) (pa_cons (pv 0) pa_nil)) pe_int) (pe_callB call_len_seq (by rfl) T.len (by decide +kernel) (pa_cons (pv 1) pa_nil))) pa_nil)) (pg_name (i := 3) scMisfits.nd rfl (Or.inl rfl))
        (pss_one (ps_if (pt_cmpR (op_neD hr.units) (pe_n SB hr (by decide) (by rfl) (pa_cons (pv 0) (pa_cons (pe_op op_cat (pe_op op_rep (pe_lst (pa_cons (pe_tup (pa_cons pe_int (pa_cons pe_int pa_nil))) pa_nil)) (pe_callTy call_int1 (by rfl) T.int (by decide +kernel) (pa_cons (pv 3) pa_nil))) (pe_callTy call_list_of (by rfl) T.list (by decide +kernel) (pa_cons (pv 1) pa_nil))) pa_nil))) (pe_tup (pa_cons pe_int (pa_cons pe_int pa_nil))) (nomark _))
          (pss_one (ps_expr (pe_bm PySem.F.plainAttrs_list PySem.F.slot_list_append PySem.F.type_list_append mt_append (pv 2) (pa_cons (pv 3) pa_nil)))) pss_nil)))
      (pss_one (ps_ret (pv 2)))), ?_⟩
    refine ⟨(by show 0 ≤ sizeLine; decide), fun L hL => ?_⟩
    have s0 := same_new (o := .lst []) hL
    refine ⟨_, rfl, b, ys, rfl, .inr (Bs.Same.t s0 sy), _, _, rfl, rfl, _, rfl, a, xs, rfl, sxm s0, _, _, rfl, rfl, _, rfl, by omega, by omega, for_range (n := ((ys.length : Int) + 1 - (xs.length : Int)).toNat) (fun i σ H1 => Same H H1 ∧ ∃ v3, H1 L = some (.lst (((List.range i).filter fun k => !decide (sumBy (List.replicate k (0, 1) ++ qs) rs = (0, 1))).map fun k : Nat => V.int k)) ∧ σ = [some (V.ref b), some (V.ref a), some (V.ref L), v3])
      ⟨s0, none, upd_same, rfl⟩ ?_ ?_⟩
    · rintro i σ H1 hi ⟨s1, v3, hL1, rfl⟩
      refine ⟨_, rfl, (by show 2 ≤ sizeLine; decide), fun t1 ht1 => ⟨(by show 1 ≤ sizeLine; decide), fun p1 hp1 => ?_⟩⟩
      have s2 := same_new (o := .tup [.int 0, .int 1]) ht1
      have s3 := same_new (o := .lst [V.ref t1]) hp1
      have s23 := s2.trans s3
      have fz : Fr K (upd (upd H1 t1 (.tup [.int 0, .int 1])) p1 (.lst [V.ref t1])) (.ref t1) (0, 1) := (Fr.of upd_same).mono s3
      have gp1 : upd (upd H1 t1 (.tup [.int 0, .int 1])) p1 (.lst [V.ref t1]) p1 = some (.lst [V.ref t1]) := upd_same
      generalize upd (upd H1 t1 (.tup [.int 0, .int 1])) p1 (.lst [V.ref t1]) = H2 at *
      have ei : (0 : Int) + (i : Int) = (i : Int) := Int.zero_add _
      refine ⟨_, rfl, .inl ⟨_, rfl, p1, (i : Int), [.ref t1], rfl, (by rw [ei]), gp1, by omega, by omega, ?_, fun p2 hp2 => ?_⟩⟩
      · rw [List.length_singleton, Nat.one_mul]
        exact Nat.le_of_lt (small1000 (by omega))
      · have e2 : (List.replicate (i : Int).toNat [V.ref t1]).flatten = List.replicate i (V.ref t1) := by
          rw [List.flatten_replicate_singleton, Int.toNat_natCast]
        rw [e2]
        have s4 := same_new (o := .lst (List.replicate i (V.ref t1))) hp2
        have gp2 : upd H2 p2 (.lst (List.replicate i (V.ref t1))) p2 = some (.lst (List.replicate i (V.ref t1))) := upd_same
        have fz4 := fz.mono s4
        have s14 := (s1.trans s23).trans s4
        have hL4 := s4 _ _ (s23 _ _ hL1)
        generalize upd H2 p2 (.lst (List.replicate i (V.ref t1))) = H3 at *
        refine ⟨_, rfl, a, xs, rfl, sxm s14, fun p3 hp3 => ?_⟩
        have s5 := same_new (o := .lst xs) hp3
        refine ⟨p2, p3, _, _, rfl, rfl, s5 _ _ gp2, upd_same, Nat.le_of_lt (small1000 (by rw [List.length_replicate]; omega)), fun p4 hp4 => ?_⟩
        have s6 := same_new (o := .lst (List.replicate i (V.ref t1) ++ xs)) hp4
        have s56 := s5.trans s6
        have s16 := s14.trans s56
        have zz : Ca D1 n (List.replicate i ((0, 1) : Fq.F) ++ qs) := fun q h => by
          rcases List.mem_append.mp h with h | h
          · rw [(List.mem_replicate.mp h).2]
            exact Cb.zero
          · exact hq q h
        have ll : (List.replicate i ((0, 1) : Fq.F) ++ qs).length = i + qs.length := by rw [List.length_append, List.length_replicate]
        refine ⟨.ref b, .ref p4, List.replicate i (0, 1) ++ qs, rs, D1, D2, n, m, rfl, ⟨b, ys, rfl, Bs.Same.t s16 sy, fy.mono s16⟩, ⟨p4, _, rfl, SqL.of upd_same, FrAll.app (FrAll.rep (fz4.mono s56) i) (fx.mono s16)⟩, zz, hrs, b1, b2, hnm.mono (by omega), by omega, fun H5 u s7 fu => ?_⟩
        refine ⟨(by show 2 ≤ sizeLine; decide), fun t5 ht5 => ?_⟩
        have s8 := same_new (o := .tup [.int 0, .int 1]) ht5
        refine ⟨dF _, dF (0, 1), (fu.mono s8).dp, (Fr.of (q := (0, 1)) upd_same).dp, rfl, rfl, _, rfl, ?_⟩
        rw [eqv_nought]
        have s68 := s56.trans (s7.trans s8)
        have hL8 := s68 _ _ hL4
        have er : List.range (i + 1) = List.range i ++ [i] := List.range_succ
        refine ite2 (fun c => ?_) (fun c => ?_)
        · refine ⟨_, rfl, .inl ⟨rfl, _, SqL.of hL8⟩, _, rfl, L, _, _, rfl, rfl, hL8, small1000 (by rw [List.length_map]; refine Nat.le_trans (List.length_filter_le _ _) ?_; rw [List.length_range]; omega), ?_⟩
          refine ⟨fun c o e => (upd_ne (ne_of_none e hL)).trans ((s14.trans s68) c o e), _, ?_, rfl⟩
          rw [upd_same, er, List.filter_append, List.map_append, List.filter_cons_of_pos (by exact c)]
          rw [ei]
          rfl
        · refine ⟨s14.trans s68, _, ?_, rfl⟩
          rw [hL8, er, List.filter_append, List.map_append, List.filter_cons_of_neg (by exact c)]
          show _ = some (HO.lst (_ ++ []))
          rw [List.append_nil]
    · rintro σ H1 ⟨s1, v3, hL1, rfl⟩
      rw [em] at hL1
      exact ⟨_, rfl, kk H1 L s1 (SqL.of hL1)⟩
end
end Rs


set_option Elab.async false
set_option linter.all false
set_option maxRecDepth 100000
set_option maxHeartbeats 1000000
namespace Fq
open Rs (co co_get co_lt co_ge co_mem co_all)
def scl (c : F) (a : List F) : List F := a.map (mul c)
theorem scl_okA {c : F} {a : List F} (hc : Ok c) (ha : OkA a) : OkA (scl c a) ∧ (∀ i, val (co (scl c a) i) = val c * val (co a i)) ∧ (scl c a).length = a.length := by
  refine ⟨fun q hq => ?_, fun i => ?_, List.length_map _⟩
  · obtain ⟨r, hr, rfl⟩ := List.mem_map.mp hq
    exact ok_mul' hc.1 (ha r hr).1
  · unfold scl
    rw [co_map1]
    split
    · exact val_mul hc.1 (ha.co i).1
    · rw [co_ge (qs := a) (by omega), val_zero]
      grind
theorem lsr_okA {a b : List F} (ha : OkA a) (hb : OkA b) (hl : b.length ≤ a.length) : OkA (lsr a b) ∧ ∀ i, val (co (lsr a b) i) = val (co a i) - val (co b i) := by
  have t : ∀ i, Ok (if i < b.length then sub (co a i) (co b i) else co a i) ∧ val (if i < b.length then sub (co a i) (co b i) else co a i) = val (co a i) - val (co b i) := by
    intro i
    split
    · exact ⟨ok_sub' (ha.co i).1 (hb.co i).1, val_sub (ha.co i).1 (hb.co i).1⟩
    · refine ⟨ha.co i, ?_⟩
      rw [co_ge (qs := b) (by omega), val_zero]
      grind
  refine ⟨fun q hq => ?_, fun i => ?_⟩
  · obtain ⟨k, _, rfl⟩ := List.mem_map.mp hq
    exact (t k).1
  · unfold lsr
    rw [co_map]
    split
    · exact (t i).2
    · rw [co_ge (qs := a) (by omega), co_ge (qs := b) (by omega), val_zero]
      grind
theorem lsr_ca {D : Int} {n : Nat} {a b : List F} (ha : Ca D n a) (hb : Ca D n b) : Ca D (n + 1) (lsr a b) := fun q hq => by
  obtain ⟨k, _, rfl⟩ := List.mem_map.mp hq
  split
  · exact (ha.co k).sub (hb.co k)
  · exact (ha.co k).mono (by omega)
theorem lsr_nil (a : List F) : lsr a [] = a := by
  refine List.ext_getElem? fun i => ?_
  by_cases c : i < a.length
  · unfold lsr
    rw [List.getElem?_map, List.getElem?_range c, co_lt c]
    rfl
  · rw [List.getElem?_eq_none (by rw [lsr_len]; omega), List.getElem?_eq_none (by omega)]
theorem late_rg (r : Nat → Rat) (k : Nat) : lsr (lsr ((0, 1) :: rg r k) (scl (rf (lvl r k)) (rg r k))) (scl (rf (stp r k)) (rgB r k)) = rg r (k + 1) := by
  have s1 := shift_okA (rg_ok r k)
  obtain ⟨c1, c2, c3⟩ := scl_okA (rf_ok (lvl r k)) (rg_ok r k)
  have sl : ((0, 1) :: rg r k).length = k + 2 := by rw [List.length_cons, rg_len]
  obtain ⟨l1, l2⟩ := lsr_okA s1 c1 (by rw [c3, sl, rg_len]; omega)
  obtain ⟨d1, d2, d3⟩ := scl_okA (rf_ok (stp r k)) (rgB_ok r k)
  obtain ⟨m1, m2⟩ := lsr_okA l1 d1 (by rw [d3, lsr_len, sl, rgB_len]; omega)
  refine list_eqO m1 (rg_ok _ _) (by rw [lsr_len, lsr_len, sl, rg_len]) fun i _ => ?_
  rw [m2, l2, shift_val, c2, d2, rg_co, rg_co, rgB_co, rg_co, pol_succ, rf_val, rf_val]
theorem late_zero (r : Nat → Rat) : lsr ((0, 1) :: rg r 0) (scl (rf (lvl r 0)) (rg r 0)) = rg r 1 := by
  have := late_rg r 0
  rw [show scl (rf (stp r 0)) (rgB r 0) = [] from rfl, lsr_nil] at this
  exact this
theorem sm_first {f : Nat → Rat} : ∀ n, sm f (n + 1) = f 0 + sm (fun i => f (i + 1)) n
  | 0 => by
    show (0 : Rat) + f 0 = f 0 + 0
    grind
  | n + 1 => by
    have := sm_first (f := f) n
    show sm f (n + 1) + f (n + 1) = f 0 + (sm (fun i => f (i + 1)) n + f (n + 1))
    rw [this]
    grind
end Fq
namespace Rs
open Fq
theorem prodL_N {p q : List F} (hp : p ≠ []) (hq : q ≠ []) : prodL p q = prodN (p.length + q.length - 1) p q := if_neg fun z => z.elim hp hq
theorem prodL_by {D : Int} {a : Nat} {p q qs : List F} (hp : Ca D a p) (hq : Ca D a q) (n1 : p ≠ []) (n2 : q ≠ []) (R : RowOk qs) : sumBy (prodL p q) qs = rf (sq2 qs 0 p q) := by
  have l1 := List.length_pos_iff.mpr n1
  rw [prodL_N n1 n2]
  have c := (prodN_wtC (N := p.length + q.length - 1) hp hq (by omega) (fun _ => 0)).1
  have e := sumBy_is c R.c 0
  rw [List.drop_zero] at e
  rw [e, prod_ws hp hq (by omega)]
theorem prodL_ca {D E : Int} {a b : Nat} {p q : List F} (hp : Ca D a p) (hq : Ca E b q) : Ca (D * E) (a + b + p.length * q.length) (prodL p q) := by
  unfold prodL
  split
  · intro r hr
    cases hr
  · rename_i z
    have n1 : p ≠ [] := fun e => z (.inl e)
    have n2 : q ≠ [] := fun e => z (.inr e)
    have l1 := List.length_pos_iff.mpr n1
    exact (prodN_wtC (N := p.length + q.length - 1) hp hq (by omega) (fun _ => 0)).1
theorem prodL_len {p q : List F} : (prodL p q).length ≤ p.length + q.length := by
  unfold prodL
  split
  · exact Nat.zero_le _
  · rw [prodN_len]
    omega
theorem sq2_shift (qs p : List F) (q : List F) : sq2 qs 0 ((0, 1) :: p) q = sq2 qs 1 p q := by
  unfold sq2
  rw [List.length_cons, sm_first, shift_val, if_pos rfl]
  have e : sm (fun i => val (co ((0, 1) :: p) (i + 1)) * sm (fun j => val (co q j) * rv qs (i + 1 + j + 0)) q.length) p.length = sm (fun i => val (co p i) * sm (fun j => val (co q j) * rv qs (i + j + 1)) q.length) p.length := by
    refine sm_congr fun i _ => ?_
    rw [shift_val, if_neg (by omega), Nat.add_sub_cancel]
    congr 1
    refine sm_congr fun j _ => ?_
    rw [show i + 1 + j + 0 = i + j + 1 by omega]
  rw [e]
  grind
section
variable {qs : List F} (R : RowOk qs) {j : Nat}
include R
theorem mid_by (h : j ≤ 3) (n : ∀ i, i < j → 0 < nor (rv qs) i) : sumBy (prodL ((0, 1) :: rg (rv qs) j) (rg (rv qs) j)) qs = rf (mid (rv qs) j) := by
  obtain ⟨d, c, _⟩ := rg_dm R h n
  have cs : Ca d (aB j) ((0, 1) :: rg (rv qs) j) := fun q hq => by
    rcases List.mem_cons.mp hq with rfl | hq
    · exact Cb.zero
    · exact c q hq
  have n2 : rg (rv qs) j ≠ [] := fun z => by
    have := congrArg List.length z
    rw [rg_len] at this
    cases this
  rw [prodL_by cs c (by simp) n2 R, sq2_shift, sq2_rg]
  rfl
theorem nor_by (h : j ≤ 3) (n : ∀ i, i < j → 0 < nor (rv qs) i) : sumBy (prodL (rg (rv qs) j) (rg (rv qs) j)) qs = nF qs j := by
  obtain ⟨d, c, _⟩ := rg_dm R h n
  have n2 : rg (rv qs) j ≠ [] := fun z => by
    have := congrArg List.length z
    rw [rg_len] at this
    cases this
  rw [prodL_by c c n2 n2 R, sq2_rg]
  rfl
/-- what the law's turn asks of sizes -/
theorem law_turn (h : j ≤ 3) (n : ∀ i, i ≤ j → 0 < nor (rv qs) i) : ∃ (d u E D : Int) (a b e : Nat), Ca d a (rg (rv qs) j) ∧ Bd d a ∧ Cb u b (lF qs j) ∧ Bd u b ∧ Ca (d * u) (a + b) ((0, 1) :: rg (rv qs) j) ∧ Ca (d * u) (a + b) (scl (lF qs j) (rg (rv qs) j)) ∧ Bd (d * u) (a + b + 1) ∧ Cb E e (sF qs j) ∧ Bd E e ∧ ∃ f, Ca D f (rgB (rv qs) j) ∧ Bd D f ∧ Ca (D * E) (f + e) (scl (sF qs j) (rgB (rv qs) j)) ∧ Bd (D * E) (f + e) := by
  obtain ⟨d, u, t⟩ := turn_at R h n
  have a := aB_le h
  obtain ⟨E, e, c1, c2, D, f, c3, c4, c5⟩ := stp_ok R h n
  have hg := rg_ca t.pd
  have bd : Bd (d * u) (aB j + bS (aB j) + 1) := Bd.of (Int.mul_pos t.pd.p t.u0) (natAbs_mul_le t.pd.l t.ul) (by unfold bS; omega) (by unfold bS; omega)
  refine ⟨d, u, E, D, aB j, bS (aB j), e, hg, Bd.of t.pd.p t.pd.l (by omega) (by omega), rf_cb t.lv, Bd.of t.u0 t.ul (by unfold bS; omega) (by unfold bS; omega), fun q hq => ?_, fun q hq => ?_, bd, c1, c2, f, c3, c4, fun q hq => ?_, c5⟩
  · rcases List.mem_cons.mp hq with rfl | hq
    · exact Cb.zero
    · exact ⟨(hg q hq).ok, (hg q hq).v.scale t.ul⟩
  · obtain ⟨x, hx, rfl⟩ := List.mem_map.mp hq
    have := (rf_cb t.lv).mul (hg x hx)
    rw [Int.mul_comm d u, Nat.add_comm]
    exact this
  · obtain ⟨x, hx, rfl⟩ := List.mem_map.mp hq
    have := c1.mul (c3 x hx)
    rw [Int.mul_comm D E, Nat.add_comm]
    exact this
end
end Rs


set_option Elab.async false
set_option linter.all false
set_option maxRecDepth 100000
set_option maxHeartbeats 1000000
namespace Rs
open PySem L2 Bs Fq LamX RZ
abbrev sLBuilt : Stmt := top 76
/-- a list of fractions of its own -/
def LsB (K : PySem.W.Frag) (H : Hp) (a1 a2 a3 : Addr) (v : V) (q : List F) : Prop := ∃ r zs, v = .ref r ∧ H r = some (.lst zs) ∧ FrAll K H zs q ∧ r ≠ a1 ∧ r ≠ a2 ∧ r ≠ a3
section
variable {K : PySem.W.Frag} {H0 H H' : Hp} {qs : List F} {a1 a2 a3 : Addr} {i c j : Nat} {v : V} {q : List F}
theorem LsB.mono (e : Same H H') (h : LsB K H a1 a2 a3 v q) : LsB K H' a1 a2 a3 v q := by
  obtain ⟨r, zs, e1, e2, e3, e4⟩ := h
  exact ⟨r, zs, e1, e _ _ e2, e3.mono e, e4⟩
theorem LsB.off {D : Addr} {acc : List V} {o : HO} (hD : H D = some (.lst acc)) (d : D = a1 ∨ D = a2 ∨ D = a3) (h : LsB K H a1 a2 a3 v q) : LsB K (upd H D o) a1 a2 a3 v q := by
  obtain ⟨r, zs, e1, e2, e3, n1, n2, n3⟩ := h
  refine ⟨r, zs, e1, (upd_ne ?_).trans e2, e3.off hD, n1, n2, n3⟩
  rcases d with rfl | rfl | rfl
  · exact n1
  · exact n2
  · exact n3
/-- what stands in the three lists -/
structure Bst (K : PySem.W.Frag) (H0 H : Hp) (qs : List F) (a1 a2 a3 : Addr) (i c j : Nat) : Prop where
  same : Same H0 H
  g1 : ∃ ls, H a1 = some (.lst ls) ∧ FrAll K H ls ((List.range j).map (lF qs))
  g2 : ∃ ps : List V, H a2 = some (.lst ps) ∧ ps.length = i ∧ ∀ k, k < i → ∃ v, ps[k]? = some v ∧ LsB K H a1 a2 a3 v (rg (rv qs) k)
  g3 : ∃ ss, H a3 = some (.lst ss) ∧ FrAll K H ss ((List.range c).map (nF qs))
  n1 : H0 a1 = none
  n2 : H0 a2 = none
  n3 : H0 a3 = none
  d12 : a1 ≠ a2
  d13 : a1 ≠ a3
  d23 : a2 ≠ a3
theorem Bst.mono (C : Bst K H0 H qs a1 a2 a3 i c j) (e : Same H H') : Bst K H0 H' qs a1 a2 a3 i c j := by
  obtain ⟨ls, x1, x2⟩ := C.g1
  obtain ⟨ps, y1, y2, y3⟩ := C.g2
  obtain ⟨ss, z1, z2⟩ := C.g3
  refine ⟨C.same.trans e, ⟨ls, e _ _ x1, x2.mono e⟩, ⟨ps, e _ _ y1, y2, fun k hk => ?_⟩, ⟨ss, e _ _ z1, z2.mono e⟩, C.n1, C.n2, C.n3, C.d12, C.d13, C.d23⟩
  obtain ⟨v, w1, w2⟩ := y3 k hk
  exact ⟨v, w1, w2.mono e⟩
theorem Bst.fresh (C : Bst K H0 H qs a1 a2 a3 i c j) {p : Addr} (h : H p = none) : p ≠ a1 ∧ p ≠ a2 ∧ p ≠ a3 := by
  obtain ⟨ls, x1, _⟩ := C.g1
  obtain ⟨ps, y1, _⟩ := C.g2
  obtain ⟨ss, z1, _⟩ := C.g3
  refine ⟨?_, ?_, ?_⟩ <;> rintro rfl <;> simp_all
theorem Bst.p1 (C : Bst K H0 H qs a1 a2 a3 i c j) {ls : List V} (h : H a1 = some (.lst ls)) (f : Fr K H v (lF qs j)) (hl : FrAll K H ls ((List.range j).map (lF qs))) : Bst K H0 (upd H a1 (.lst (ls ++ [v]))) qs a1 a2 a3 i c (j + 1) := by
  obtain ⟨ps, y1, y2, y3⟩ := C.g2
  obtain ⟨ss, z1, z2⟩ := C.g3
  refine ⟨fun b o e => (upd_ne (ne_of_none e C.n1)).trans (C.same b o e), ⟨_, upd_same, ?_⟩, ⟨ps, (upd_ne C.d12.symm).trans y1, y2, fun k hk => ?_⟩, ⟨ss, (upd_ne C.d13.symm).trans z1, z2.off h⟩, C.n1, C.n2, C.n3, C.d12, C.d13, C.d23⟩
  · rw [rng_snoc]
    exact (hl.off h).snoc (f.off h)
  · obtain ⟨v, w1, w2⟩ := y3 k hk
    exact ⟨v, w1, w2.off h (.inl rfl)⟩
theorem Bst.p2 (C : Bst K H0 H qs a1 a2 a3 i c j) {ps : List V} (h : H a2 = some (.lst ps)) (hl : ps.length = i) (f : LsB K H a1 a2 a3 v (rg (rv qs) i)) (hp : ∀ k, k < i → ∃ v, ps[k]? = some v ∧ LsB K H a1 a2 a3 v (rg (rv qs) k)) : Bst K H0 (upd H a2 (.lst (ps ++ [v]))) qs a1 a2 a3 (i + 1) c j := by
  obtain ⟨ls, y1, y2⟩ := C.g1
  obtain ⟨ss, z1, z2⟩ := C.g3
  refine ⟨fun b o e => (upd_ne (ne_of_none e C.n2)).trans (C.same b o e), ⟨ls, (upd_ne C.d12).trans y1, y2.off h⟩, ⟨_, upd_same, by rw [List.length_append, hl]; rfl, fun k hk => ?_⟩, ⟨ss, (upd_ne C.d23.symm).trans z1, z2.off h⟩, C.n1, C.n2, C.n3, C.d12, C.d13, C.d23⟩
  rcases Nat.lt_or_ge k i with z | z
  · obtain ⟨v, w1, w2⟩ := hp k z
    exact ⟨v, by rw [List.getElem?_append_left (by omega)]; exact w1, w2.off h (.inr (.inl rfl))⟩
  · obtain rfl : k = i := by omega
    refine ⟨v, ?_, f.off h (.inr (.inl rfl))⟩
    rw [List.getElem?_append_right (by omega), hl, Nat.sub_self]
    rfl
theorem Bst.p3 (C : Bst K H0 H qs a1 a2 a3 i c j) {ss : List V} (h : H a3 = some (.lst ss)) (f : Fr K H v (nF qs c)) (hs : FrAll K H ss ((List.range c).map (nF qs))) : Bst K H0 (upd H a3 (.lst (ss ++ [v]))) qs a1 a2 a3 i (c + 1) j := by
  obtain ⟨ls, z1, z2⟩ := C.g1
  obtain ⟨ps, y1, y2, y3⟩ := C.g2
  refine ⟨fun b o e => (upd_ne (ne_of_none e C.n3)).trans (C.same b o e), ⟨ls, (upd_ne C.d13).trans z1, z2.off h⟩, ⟨ps, (upd_ne C.d23).trans y1, y2, fun k hk => ?_⟩, ⟨_, upd_same, ?_⟩, C.n1, C.n2, C.n3, C.d12, C.d13, C.d23⟩
  · obtain ⟨v, w1, w2⟩ := y3 k hk
    exact ⟨v, w1, w2.off h (.inr (.inr rfl))⟩
  · rw [rng_snoc]
    exact (hs.off h).snoc (f.off h)
end
/-- _law_built(row) -/
def spLBuilt (K : PySem.W.Frag) : Sp := fun vs H Q _ => ∃ (x : V) (qs : List F), vs = [x] ∧ Po K H x qs ∧ RowOk qs ∧ ∀ (H' : Hp) (a a1 a2 a3 : Addr) (J : Nat), Same H H' → SqT K H' a [.ref a1, .ref a2, .ref a3] → Bst K H H' qs a1 a2 a3 (cnt qs J) (cnt qs J) J → Clm qs J → Q (.ref a) H'
abbrev NLB : List Str := ["row", "levels", "rungs", "norms_so", "here", "moved", "late", "one", "step"]
section
variable {P : Program} {w : World} {K : PySem.W.Frag} {mg : Str → Option Value} {base : Heap} {f : Addr} {fd : FuncData}
theorem scLBuilt : FnScope NLB ["row"] (defScope sLBuilt) := ⟨rfl, rfl, rfl, by decide +kernel, rfl, by decide +kernel, by decide +kernel⟩
theorem ok_lbuilt (F : Fun K "_law_built" "_law_built" sLBuilt f fd) (T : Blt mg) (lT : Cal P w K mg base 2 "_law_times" (spOp K mul domL)) (OV : Cal P w K mg base 2 "_law_over" (spOp K divL domLD)) (LL : Cal P w K mg base 3 "_law_lesser" (spLLesser K)) (SB : Cal P w K mg base 4 "_law_sum_by" (spLSumBy K)) (PR : Cal P w K mg base 3 "_law_product" (spLProd K)) :
    FnOk P w K mg base CX0 5 f fd ["row"] (spLBuilt K) := by
  refine F.ok scLBuilt (fun vs H Q E h => ?_) (fun cdv A outer s H vs Q E hr h => ?_)
  · obtain ⟨x, qs, rfl, _⟩ := h
    rfl
  · obtain ⟨x, qs, rfl, ⟨b, xs, rfl, sx, fx⟩, R, kk⟩ := h
    have lx := fx.len
    have r1 := R.pos
    have r8 := R.l
    refine ⟨_, pss_cons (ps_asg (pe_tup (pa_cons (pe_lst pa_nil) (pa_cons (pe_lst (pa_cons (pe_lst (pa_cons (pe_tup (pa_cons pe_int (pa_cons pe_int pa_nil))) pa_nil)) pa_nil)) (pa_cons (pe_lst (pa_cons (pe_ix ix_tup (pv 0) pe_int (fun _ _ => rfl)) pa_nil)) pa_nil))))
        (pg_tup rfl (pgs_cons (pg_name (i := 1) scLBuilt.nd rfl (.inr rfl)) (pgs_cons (pg_name (i := 2) scLBuilt.nd rfl (.inl rfl)) (pgs_cons (pg_name (i := 3) scLBuilt.nd rfl (.inl rfl)) pgs_nil)))))
      (C8.pss_cut (ps_while PassesOwn.never (PW.pt (pw_and (pt_cmpR op_gt (pe_ix ix_tup (pe_ix ix_list (pv 3) (pe_un un_neg pe_int) (fun _ _ => rfl)) pe_int (fun _ _ => rfl)) pe_int (nomark _)) (pw_and1 (pt_cmpR op_le (pe_op op_mul pe_int (pe_callB call_len_seq (by rfl) T.len (by decide +kernel) (pa_cons (pv 2) pa_nil))) (pe_callB call_len_seq (by rfl) T.len (by decide +kernel) (pa_cons (pv 0) pa_nil)) (nomark _)))))
        (pss_cons (ps_set (i := 4) scLBuilt.nd rfl (Or.inl rfl) (pe_ix ix_list (pv 2) (pe_un un_neg pe_int) (fun _ _ => rfl)))
        (C8.pss_cut (ps_set (i := 5) scLBuilt.nd rfl (Or.inl rfl) (pe_op op_cat (pe_lst (pa_cons (pe_tup (pa_cons pe_int (pa_cons pe_int pa_nil))) pa_nil)) (pv 4)))
        (C8.pss_cut (ps_expr (pe_bm PySem.F.plainAttrs_list PySem.F.slot_list_append PySem.F.type_list_append mt_append (pv 1) (pa_cons (pe_n OV hr (by decide) (by rfl) (pa_cons (pe_n SB hr (by decide) (by rfl) (pa_cons (pv 0) (pa_cons (pe_n PR hr (by decide) (by rfl) (pa_cons (pv 5) (pa_cons (pv 4) pa_nil))) pa_nil))) (pa_cons (pe_ix ix_list (pv 3) (pe_un un_neg pe_int) (fun _ _ => rfl)) pa_nil))) pa_nil)))
        (C8.pss_cut (ps_set (i := 6) scLBuilt.nd rfl (Or.inl rfl) (pe_n LL hr (by decide) (by rfl) (pa_cons (pv 5)
            (pa_cons (pe_lc (own := [("one", 7)]) (g := gName 7) (tt := tYes) rfl scLBuilt.nd (pi_list (pv 4)) (blkOk_by (N := NLB) (sc := defScope sLBuilt) (by decide +kernel))
              (fun _ _ _ _ _ => pg_name (i := 7) scLBuilt.nd rfl (Or.inl rfl)) (fun _ _ _ _ _ => pts_nil)
              (fun _ _ _ _ _ => pe_n lT hr (by decide) (by rfl) (pa_cons (pe_ix (r := rIxL K) ix_list (pv 1) (pe_un un_neg pe_int) (fun _ _ => rfl)) (pa_cons (pv 7) pa_nil)))) pa_nil))))
        (C8.pss_cut (ps_if (pt_cmpR op_gt (pe_callB call_len_seq (by rfl) T.len (by decide +kernel) (pa_cons (pv 2) pa_nil)) pe_int (nomark _))
          (C8.pss_cut (ps_set (i := 8) scLBuilt.nd rfl (Or.inr rfl) (pe_n OV hr (by decide) (by rfl) (pa_cons (pe_ix ix_list (pv 3) (pe_un un_neg pe_int) (fun _ _ => rfl)) (pa_cons (pe_ix ix_list (pv 3) (pe_un un_neg pe_int) (fun _ _ => rfl)) pa_nil))))
          (pss_one (ps_set (i := 6) scLBuilt.nd rfl (Or.inl rfl) (pe_n LL hr (by decide) (by rfl) (pa_cons (pv 6)
            (pa_cons (pe_lc (own := [("one", 7)]) (g := gName 7) (tt := tYes) rfl scLBuilt.nd (pi_list (pe_ix ix_list (pv 2) (pe_un un_neg pe_int) (fun _ _ => rfl))) (blkOk_by (N := NLB) (sc := defScope sLBuilt) (by decide +kernel))
              (fun _ _ _ _ _ => pg_name (i := 7) scLBuilt.nd rfl (Or.inl rfl)) (fun _ _ _ _ _ => pts_nil)
              (fun _ _ _ _ _ => pe_n lT hr (by decide) (by rfl) (pa_cons (pv 8) (pa_cons (pv 7) pa_nil)))) pa_nil)))))) pss_nil)
        (C8.pss_cut (ps_if (pt_cmpR op_ge (pe_op op_mul pe_int (pe_callB call_len_seq (by rfl) T.len (by decide +kernel) (pa_cons (pv 2) pa_nil))) (pe_callB call_len_seq (by rfl) T.len (by decide +kernel) (pa_cons (pv 0) pa_nil)) (nomark _))
          (pss_one (ps_ret (pe_tup (pa_cons (pv 1) (pa_cons (pv 2) (pa_cons (pv 3) pa_nil)))))) pss_nil)
        (C8.pss_cut (ps_expr (pe_bm PySem.F.plainAttrs_list PySem.F.slot_list_append PySem.F.type_list_append mt_append (pv 2) (pa_cons (pv 6) pa_nil)))
        (pss_one (ps_expr (pe_bm PySem.F.plainAttrs_list PySem.F.slot_list_append PySem.F.type_list_append mt_append (pv 3) (pa_cons (pe_n SB hr (by decide) (by rfl) (pa_cons (pv 0) (pa_cons (pe_n PR hr (by decide) (by rfl) (pa_cons (pv 6) (pa_cons (pv 6) pa_nil))) pa_nil))) pa_nil))))))))))))
      (pss_one (ps_ret (pe_tup (pa_cons (pv 1) (pa_cons (pv 2) (pa_cons (pv 3) pa_nil))))))), ?_⟩
    have po0 : Po K H (.ref b) qs := ⟨b, xs, rfl, sx, fx⟩
    obtain ⟨w0, e0, f0⟩ : ∃ w, xs[0]? = some w ∧ Fr K H w (co qs 0) := by
      obtain ⟨w, q, e1, e2, e3⟩ := fx.get (i := 0) (by omega)
      exact ⟨w, e1, by rw [co_get e2]; exact e3⟩
    refine ⟨(by show 0 ≤ sizeLine; decide), fun a1 ha1 => ?_⟩
    have u1 := same_new (o := .lst []) ha1
    refine ⟨(by show 2 ≤ sizeLine; decide), fun t0 ht0 => ?_⟩
    have u2 := same_new (o := .tup [.int 1, .int 1]) ht0
    refine ⟨(by show 1 ≤ sizeLine; decide), fun b1 hb1 => ?_⟩
    have u3 := same_new (o := .lst [V.ref t0]) hb1
    refine ⟨(by show 1 ≤ sizeLine; decide), fun a2 ha2 => ?_⟩
    have u4 := same_new (o := .lst [V.ref b1]) ha2
    refine ⟨_, rfl, b, xs, 0, w0, rfl, rfl, Bs.Same.t (u1.trans (u2.trans (u3.trans u4))) sx, atI_nat (j := 0) e0, (by show 1 ≤ sizeLine; decide), fun a3 ha3 => ?_⟩
    have u5 := same_new (o := .lst [w0]) ha3
    refine ⟨(by show 3 ≤ sizeLine; decide), fun t9 ht9 => ?_⟩
    have u6 := same_new (o := .tup [V.ref a1, V.ref a2, V.ref a3]) ht9
    refine ⟨t9, _, rfl, SqT.of upd_same, rfl, _, _, rfl, _, _, rfl, _, _, rfl, rfl, ?_⟩
    have n0 : nF qs 0 = co qs 0 := by
      have e : nor (rv qs) 0 = val (co qs 0) := by
        show sm (fun i => (if i = 0 then 1 else 0) * sm (fun j => (if j = 0 then 1 else 0) * rv qs (i + j + 0)) 1) 1 = _
        show (0 : Rat) + (1 : Rat) * ((0 : Rat) + (1 : Rat) * rv qs 0) = _
        show _ = rv qs 0
        grind
      unfold nF
      rw [e, rf_of (R.c.co 0).ok]
    have C0 : Bst K H (upd (upd (upd (upd (upd (upd H a1 (.lst [])) t0 (.tup [.int 1, .int 1])) b1 (.lst [V.ref t0])) a2 (.lst [V.ref b1])) a3 (.lst [w0])) t9 (.tup [V.ref a1, V.ref a2, V.ref a3])) qs a1 a2 a3 1 1 0 := by
      have u12 := u1.trans u2
      have u13 := u12.trans u3
      have u14 := u13.trans u4
      have u15 := u14.trans u5
      have d12 : a1 ≠ a2 := ne_of_none (o := .lst []) (u3 _ _ (u2 _ _ upd_same)) ha2
      have d13 : a1 ≠ a3 := ne_of_none (o := .lst []) (u4 _ _ (u3 _ _ (u2 _ _ upd_same))) ha3
      have d23 : a2 ≠ a3 := ne_of_none (o := .lst [V.ref b1]) upd_same ha3
      have db1 : a1 ≠ b1 := ne_of_none (o := .lst []) (u2 _ _ upd_same) hb1
      have db2 : b1 ≠ a2 := ne_of_none (o := .lst [V.ref t0]) upd_same ha2
      have db3 : b1 ≠ a3 := ne_of_none (o := .lst [V.ref t0]) (u4 _ _ upd_same) ha3
      refine ⟨u15.trans u6, ⟨[], u6 _ _ (u5 _ _ (u4 _ _ (u3 _ _ (u2 _ _ upd_same)))), .nil⟩, ⟨[V.ref b1], u6 _ _ (u5 _ _ upd_same), rfl, fun k hk => ?_⟩, ⟨[w0], u6 _ _ upd_same, ?_⟩, ha1, u13.free ha2, u14.free ha3, d12, d13, d23⟩
      · obtain rfl : k = 0 := by omega
        exact ⟨.ref b1, rfl, b1, [V.ref t0], rfl, u6 _ _ (u5 _ _ (u4 _ _ upd_same)), .cons ((Fr.of (q := (1, 1)) (u6 _ _ (u5 _ _ (u4 _ _ (u3 _ _ upd_same)))))) .nil, db1.symm, db2, db3⟩
      · show FrAll K _ [w0] [nF qs 0]
        rw [n0]
        exact .cons (f0.mono (u15.trans u6)) .nil
    generalize upd (upd (upd (upd (upd (upd H a1 (.lst [])) t0 (.tup [.int 1, .int 1])) b1 (.lst [V.ref t0])) a2 (.lst [V.ref b1])) a3 (.lst [w0])) t9 (.tup [V.ref a1, V.ref a2, V.ref a3]) = H1 at *
    clear u1 u2 u3 u4 u5 u6 ha1 ht0 hb1 ha2 ha3 ht9
    have fin : ∀ (H2 : Hp) (J : Nat), Bst K H H2 qs a1 a2 a3 (cnt qs J) (cnt qs J) J → Clm qs J → ∀ p, H2 p = none → Q (.ref p) (upd H2 p (.tup [V.ref a1, V.ref a2, V.ref a3])) := fun H2 J C D p hp => by
      have s3 := same_new (o := .tup [V.ref a1, V.ref a2, V.ref a3]) hp
      exact kk _ p a1 a2 a3 J (C.same.trans s3) (SqT.of upd_same) (C.mono s3) D
    refine ⟨fun σ H2 => ∃ (J : Nat) (v4 v5 v6 v8 : Option V), Bst K H H2 qs a1 a2 a3 (cnt qs J) (cnt qs J) J ∧ Clm qs J ∧ σ = [some (V.ref b), some (V.ref a1), some (V.ref a2), some (V.ref a3), v4, v5, v6, none, v8], ?_, ?_⟩
    · refine ⟨fun m σ H2 => ∃ (j : Nat) (v4 v5 v6 v8 : Option V), m = 9 - j ∧ j ≤ 3 ∧ 2 * j < qs.length ∧ (∀ i, i < j → 0 < nor (rv qs) i ∧ 2 * i + 1 < qs.length) ∧ Bst K H H2 qs a1 a2 a3 (j + 1) (j + 1) j ∧ σ = [some (V.ref b), some (V.ref a1), some (V.ref a2), some (V.ref a3), v4, v5, v6, none, v8], ⟨9, 0, none, none, none, none, rfl, by omega, by omega, fun i hi => absurd hi (by omega), C0, rfl⟩, ?_⟩
      rintro m σ H2 ⟨j, v4, v5, v6, v8, rfl, j3, j2, hp, C, rfl⟩
      obtain ⟨ss, g3, fs⟩ := C.g3
      obtain ⟨ps, g2, lp, fp⟩ := C.g2
      have lss := fs.len
      rw [List.length_map, List.length_range] at lss
      obtain ⟨w1, q1, e1, e2, f1⟩ := fs.get (i := j) (by rw [List.length_map, List.length_range]; omega)
      rw [rng_get (by omega)] at e2
      cases e2
      have sne : ss ≠ [] := fun z => by
        rw [z] at lss
        cases lss
      have pne : ps ≠ [] := fun z => by
        rw [z] at lp
        cases lp
      obtain ⟨aw, rfl, sw⟩ := id f1
      have ec : cnt qs j = j + 1 := if_pos j2
      refine ⟨_, rfl, _, rfl, a3, ss, _, .ref aw, rfl, rfl, SqL.of g3, atI_neg1 sne (by rw [lss]; exact e1), aw, _, 0, _, rfl, rfl, sw, atI_nat (j := 0) rfl, _, _, rfl, rfl, _, rfl, ?_⟩
      have fin2 : Clm qs j → ∃ (J : Nat) (v4' v5' v6' v8' : Option V), Bst K H H2 qs a1 a2 a3 (cnt qs J) (cnt qs J) J ∧ Clm qs J ∧ [some (V.ref b), some (V.ref a1), some (V.ref a2), some (V.ref a3), v4, v5, v6, none, v8] = [some (V.ref b), some (V.ref a1), some (V.ref a2), some (V.ref a3), v4', v5', v6', none, v8'] := fun D => ⟨j, v4, v5, v6, v8, by rw [ec]; exact C, D, rfl⟩
      refine ite2 (fun cc1 => ?_) (fun cc1 => fin2 ⟨fun i hi => (hp i hi).1, fun i hi => (hp i hi).2, fun h z => ?_⟩)
      · refine ⟨_, rfl, a2, ps, rfl, .inl (SqL.of g2), _, _, rfl, rfl, .inl ⟨by decide, by decide⟩, _, rfl, b, xs, rfl, .inr (Bs.Same.t C.same sx), _, _, rfl, rfl, _, rfl, ?_⟩
        refine ite2 (fun cc2 => ?_) (fun cc2 => fin2 ⟨fun i hi => (hp i hi).1, fun i hi => (hp i hi).2, fun h => absurd (decide_eq_true (by omega)) cc2⟩)
        have b2 := of_decide_eq_true cc2
        have bj : 2 * j + 1 < qs.length := by omega
        have nj : 0 < nor (rv qs) j := rf_top_pos.mp (of_decide_eq_true cc1)
        have np : ∀ i, i ≤ j → 0 < nor (rv qs) i := fun i hi => by
          rcases Nat.lt_or_ge i j with z | z
          · exact (hp i z).1
          · rw [Nat.le_antisymm hi z]
            exact nj
        have np' : ∀ i, i < j → 0 < nor (rv qs) i := fun i hi => np i (by omega)
        have hp' : ∀ i, i < j + 1 → 0 < nor (rv qs) i ∧ 2 * i + 1 < qs.length := fun i hi => by
          rcases Nat.lt_or_ge i j with z | z
          · exact hp i z
          · rw [show i = j by omega]
            exact ⟨nj, bj⟩
        obtain ⟨du, uu, EE, DD, na, nb, ne_, hA, bA, hl, bl, hs, hc, bT, he, be_, nf, hB, bB, hcs, bS2⟩ := law_turn R j3 np
        have bdM : Bd 256 30 := Bd.of (by decide) (N := 8) (by decide) (by decide) (by decide)
        clear fin2 cc1 cc2 hp f1
        refine ⟨fun σ' H' => ∃ (v4 v5 v6 v8 : Option V), 2 * (j + 1) < qs.length ∧ Bst K H H' qs a1 a2 a3 (j + 1 + 1) (j + 1 + 1) (j + 1) ∧ σ' = [some (V.ref b), some (V.ref a1), some (V.ref a2), some (V.ref a3), v4, v5, v6, none, v8], fun σ' H' ⟨v4, v5, v6, v8, nl, C', e⟩ => ⟨9 - (j + 1), by omega, j + 1, v4, v5, v6, v8, rfl, by omega, nl, hp', C', e⟩, ?_⟩
        -- here
        obtain ⟨vh, h1, r, zs, rfl, gr, fr_, nr1, nr2, nr3⟩ := fp j (by omega)
        have lz := fr_.len
        rw [rg_len] at lz
        refine ⟨_, rfl, _, rfl, a2, ps, _, .ref r, rfl, rfl, SqL.of g2, atI_neg1 pne (by rw [lp]; exact h1), ?_⟩
        -- moved
        refine ⟨fun σ H3 => ∃ p zs2, Bst K H H3 qs a1 a2 a3 (j + 1) (j + 1) j ∧ H3 r = some (.lst zs) ∧ FrAll K H3 zs (rg (rv qs) j) ∧ H3 p = some (.lst zs2) ∧ p ≠ a1 ∧ p ≠ a2 ∧ p ≠ a3 ∧ FrAll K H3 zs2 ((0, 1) :: rg (rv qs) j) ∧ σ = [some (V.ref b), some (V.ref a1), some (V.ref a2), some (V.ref a3), some (V.ref r), some (V.ref p), v6, none, v8], ?_, ?_⟩
        · refine ⟨(by show 2 ≤ sizeLine; decide), fun t2 ht2 => ⟨(by show 1 ≤ sizeLine; decide), fun p1 hp1 => ?_⟩⟩
          have s3 := same_new (o := .tup [.int 0, .int 1]) ht2
          have s4 := same_new (o := .lst [V.ref t2]) hp1
          have s34 := s3.trans s4
          have fz : Fr K (upd (upd H2 t2 (.tup [.int 0, .int 1])) p1 (.lst [V.ref t2])) (.ref t2) (0, 1) := (Fr.of upd_same).mono s4
          have gp1 : upd (upd H2 t2 (.tup [.int 0, .int 1])) p1 (.lst [V.ref t2]) p1 = some (.lst [V.ref t2]) := upd_same
          generalize upd (upd H2 t2 (.tup [.int 0, .int 1])) p1 (.lst [V.ref t2]) = H3 at *
          refine ⟨_, rfl, p1, r, [.ref t2], zs, rfl, rfl, gp1, s34 _ _ gr, Nat.le_of_lt (small1000 (by rw [lz]; show 1 + _ ≤ 1000; omega)), fun p2 hp2 => ?_⟩
          have s5 := same_new (o := .lst ([V.ref t2] ++ zs)) hp2
          obtain ⟨m1, m2, m3⟩ := (C.mono s34).fresh hp2
          exact ⟨p2, _, C.mono (s34.trans s5), s5 _ _ (s34 _ _ gr), fr_.mono (s34.trans s5), upd_same, m1, m2, m3, .cons (fz.mono s5) (fr_.mono (s34.trans s5)), rfl⟩
        clear C fs lss sw e1 sne fp lp h1 pne g2 g3 gr fr_
        rintro σ H3 ⟨p, zs2, C, gr, fr_, gp, m1, m2, m3, fp2, rfl⟩
        have lz2 := fp2.len
        rw [List.length_cons, rg_len] at lz2
        -- the level
        refine ⟨fun σ H4 => Bst K H H4 qs a1 a2 a3 (j + 1) (j + 1) (j + 1) ∧ H4 r = some (.lst zs) ∧ FrAll K H4 zs (rg (rv qs) j) ∧ H4 p = some (.lst zs2) ∧ FrAll K H4 zs2 ((0, 1) :: rg (rv qs) j) ∧ σ = [some (V.ref b), some (V.ref a1), some (V.ref a2), some (V.ref a3), some (V.ref r), some (V.ref p), v6, none, v8], ?_, ?_⟩
        · obtain ⟨ls, g1, fl⟩ := C.g1
          have ll := fl.len
          rw [List.length_map, List.length_range] at ll
          obtain ⟨dd, k1, k2, k3, k4, k5⟩ := rg_dm R j3 np'
          have aj := aB_le j3
          have cs : Ca dd (aB j) ((0, 1) :: rg (rv qs) j) := fun q hq => by
            rcases List.mem_cons.mp hq with rfl | hq
            · exact Cb.zero
            · exact k1 q hq
          refine ⟨_, rfl, .inl ⟨rfl, _, SqL.of g1⟩, _, rfl, _, rfl, _, rfl, .ref p, .ref r, (0, 1) :: rg (rv qs) j, rg (rv qs) j, dd, dd, aB j, aB j, rfl, ⟨p, zs2, rfl, SqL.of gp, fp2⟩, ⟨r, zs, rfl, SqL.of gr, fr_⟩, cs, k1, k2, k2, k3, by rw [List.length_cons, rg_len]; omega, by rw [rg_len]; omega, fun H4 vp s4 fvp => ?_⟩
          have lpr : (prodL ((0, 1) :: rg (rv qs) j) (rg (rv qs) j)).length ≤ 9 := by
            refine Nat.le_trans prodL_len ?_
            rw [List.length_cons, rg_len]
            omega
          have cpr := prodL_ca cs k1
          rw [List.length_cons, rg_len] at cpr
          have hmul : (j + 1 + 1) * (j + 1) ≤ 20 := by
            have : (j + 1 + 1) * (j + 1) ≤ 5 * 4 := Nat.mul_le_mul (by omega) (by omega)
            omega
          refine ⟨.ref b, vp, prodL ((0, 1) :: rg (rv qs) j) (rg (rv qs) j), qs, dd * dd, 256, aB j + aB j + 20, 30, rfl, po0.mono (C.same.trans s4), fvp, cpr.mono (by omega), R.c, k3.mono (by omega), bdM, k4.mono (by omega), by omega, fun H5 u s5 fu => ?_⟩
          rw [mid_by R j3 np'] at fu
          have s45 := s4.trans s5
          obtain ⟨ss, g3, fs⟩ := (C.mono s45).g3
          have lss := fs.len
          rw [List.length_map, List.length_range] at lss
          obtain ⟨w1, q1, e1, e2, f1⟩ := fs.get (i := j) (by rw [List.length_map, List.length_range]; omega)
          rw [rng_get (by omega)] at e2
          cases e2
          have sne : ss ≠ [] := fun z => by
            rw [z] at lss
            cases lss
          refine ⟨_, rfl, _, rfl, a3, ss, _, w1, rfl, rfl, SqL.of g3, atI_neg1 sne (by rw [lss]; exact e1), u, w1, _, _, rfl, fu, f1, ⟨(gsq_dm R j3 np' 1).dl, (gsq_dm R j3 np' 0).dl, rf_top_pos.mpr nj⟩, fun p5 hp5 => ?_⟩
          have s6 := same_new (o := fr (divL (rf (mid (rv qs) j)) (nF qs j))) hp5
          have s46 := s45.trans s6
          have e : lF qs j = divL (rf (mid (rv qs) j)) (nF qs j) := (divL_rf nj).symm
          have g6 := s46 _ _ g1
          refine ⟨a1, ls, _, rfl, rfl, g6, small1000 (by omega), ?_⟩
          refine ⟨(C.mono s46).p1 g6 (by rw [e]; exact Fr.of upd_same) (fl.mono s46), (upd_ne nr1).trans (s46 _ _ gr), (fr_.mono s46).off g6, (upd_ne m1).trans (s46 _ _ gp), (fp2.mono s46).off g6, rfl⟩
        clear C gr fr_ gp fp2
        rintro σ H4 ⟨C, gr, fr_, gp, fp2, rfl⟩
        have cl := (R.c)
        obtain ⟨ls, g1, fl⟩ := C.g1
        have ll := fl.len
        rw [List.length_map, List.length_range] at ll
        have lne : ls ≠ [] := fun z => by
          rw [z] at ll
          cases ll
        obtain ⟨wl, ql, e1, e2, fwl⟩ := fl.get (i := j) (by rw [List.length_map, List.length_range]; omega)
        rw [rng_get (by omega)] at e2
        cases e2
        -- late
        refine ⟨fun σ H5 => ∃ y zs3, Bst K H H5 qs a1 a2 a3 (j + 1) (j + 1) (j + 1) ∧ H5 y = some (.lst zs3) ∧ y ≠ a1 ∧ y ≠ a2 ∧ y ≠ a3 ∧ FrAll K H5 zs3 (lsr ((0, 1) :: rg (rv qs) j) (scl (lF qs j) (rg (rv qs) j))) ∧ σ = [some (V.ref b), some (V.ref a1), some (V.ref a2), some (V.ref a3), some (V.ref r), some (V.ref p), some (V.ref y), none, v8], ?_, ?_⟩
        · refine ⟨_, rfl, _, rfl, r, rfl, ⟨_, SqL.of gr⟩, fun D hD => ?_⟩
          have lsc : (scl (lF qs j) (rg (rv qs) j)).length = j + 1 := by unfold scl; rw [List.length_map, rg_len]
          refine lc_list (K := K) (a := r) (xs := zs) (fun i H5 => Same H4 H5 ∧ ∃ bc, H5 D = some (.lst bc) ∧ FrAll K H5 bc ((scl (lF qs j) (rg (rv qs) j)).take i)) ⟨same_new hD, [], upd_same, .nil⟩ (fun i H5 _ z => SqL.of (z.1 _ _ gr)) ?_ ?_
          · rintro i x H5 hx ⟨s6, bc, hD5, fb⟩
            have hj : i < zs.length := (List.getElem?_eq_some_iff.mp hx).1
            obtain ⟨w2, g, e3, e4, fg⟩ := fr_.get (i := i) (by rw [rg_len]; omega)
            rw [hx] at e3
            cases e3
            have et : (scl (lF qs j) (rg (rv qs) j))[i]? = some (mul (lF qs j) g) := by
              unfold scl
              rw [List.getElem?_map, e4]
              rfl
            have lb : bc.length ≤ 6 := by
              rw [fb.len, List.length_take, lsc]
              omega
            refine ⟨rfl, ?_⟩
            refine iteT (B := Same H4 H5 ∧ ∃ bc, H5 D = some (.lst bc) ∧ FrAll K H5 bc ((scl (lF qs j) (rg (rv qs) j)).take (i + 1))) ?_
            refine ⟨_, rfl, _, rfl, a1, ls, _, wl, rfl, rfl, SqL.of (s6 _ _ g1), atI_neg1 lne (by rw [ll]; exact e1), _, rfl, wl, x, lF qs j, g, rfl, fwl.mono s6, fg.mono s6, ⟨cb_dl hl bl, cb_dl (hA g (List.mem_of_getElem? e4)) bA⟩, fun p3 hp3 => ?_⟩
            have s7 := same_new (o := fr (mul (lF qs j) g)) hp3
            refine ⟨bc, s7 _ _ hD5, small1000 (by omega), fun c o e => (upd_ne (ne_of_none e hD)).trans (s7 c o (s6 c o e)), bc ++ [.ref p3], upd_same, ?_⟩
            rw [take_one et]
            exact (FrAll.off (s7 _ _ hD5) (fb.mono s7)).snoc ((Fr.of upd_same).off (s7 _ _ hD5))
          · rintro H5 ⟨s6, bc, hD5, fb⟩
            rw [List.take_of_length_le (by rw [lsc]; omega)] at fb
            refine ⟨.ref p, .ref D, (0, 1) :: rg (rv qs) j, scl (lF qs j) (rg (rv qs) j), du * uu, du * uu, na + nb, na + nb, rfl, ⟨p, zs2, rfl, SqL.of (s6 _ _ gp), fp2.mono s6⟩, ⟨D, bc, rfl, SqL.of hD5, fb⟩, hs, hc, bT.mono (by omega), bT.mono (by omega), by rw [List.length_cons, rg_len]; omega, fun H6 y zs3 s8 n8 g8 f8 => ?_⟩
            obtain ⟨y1, y2, y3⟩ := (C.mono s6).fresh n8
            exact ⟨y, zs3, C.mono (s6.trans s8), g8, y1, y2, y3, f8, rfl⟩
        clear gr fr_ gp fp2 g1 fl fwl C
        rintro σ H5 ⟨y, zs3, C, gy, y1, y2, y3, fy3, rfl⟩
        -- the second lesser
        refine ⟨fun σ H6 => ∃ y zs3 v8, Bst K H H6 qs a1 a2 a3 (j + 1) (j + 1) (j + 1) ∧ H6 y = some (.lst zs3) ∧ y ≠ a1 ∧ y ≠ a2 ∧ y ≠ a3 ∧ FrAll K H6 zs3 (rg (rv qs) (j + 1)) ∧ σ = [some (V.ref b), some (V.ref a1), some (V.ref a2), some (V.ref a3), some (V.ref r), some (V.ref p), some (V.ref y), none, v8], ?_, ?_⟩
        · obtain ⟨ps, g2, lp, fp⟩ := C.g2
          refine ⟨_, rfl, a2, ps, rfl, .inl (SqL.of g2), _, _, rfl, rfl, _, rfl, ?_⟩
          refine ite2 (fun cc => ?_) (fun cc => ?_)
          · have jp : 1 ≤ j := by
              have := of_decide_eq_true cc
              omega
            obtain ⟨k, rfl⟩ : ∃ k, j = k + 1 := ⟨j - 1, by omega⟩
            refine ⟨fun σ H6 => ∃ st, Bst K H H6 qs a1 a2 a3 (k + 1 + 1) (k + 1 + 1) (k + 1 + 1) ∧ H6 y = some (.lst zs3) ∧ FrAll K H6 zs3 (lsr ((0, 1) :: rg (rv qs) (k + 1)) (scl (lF qs (k + 1)) (rg (rv qs) (k + 1)))) ∧ Fr K H6 st (sF qs (k + 1)) ∧ σ = [some (V.ref b), some (V.ref a1), some (V.ref a2), some (V.ref a3), some (V.ref r), some (V.ref p), some (V.ref y), none, some st], ?_, ?_⟩
            · obtain ⟨ss, g3, fs⟩ := C.g3
              have lss := fs.len
              rw [List.length_map, List.length_range] at lss
              obtain ⟨w1, q1, e1, e2, f1⟩ := fs.get (i := k + 1) (by rw [List.length_map, List.length_range]; omega)
              rw [rng_get (by omega)] at e2
              cases e2
              obtain ⟨w2, q2, e3, e4, f2⟩ := fs.get (i := k) (by rw [List.length_map, List.length_range]; omega)
              rw [rng_get (by omega)] at e4
              cases e4
              have sne : ss ≠ [] := fun z => by
                rw [z] at lss
                cases lss
              refine ⟨_, rfl, _, rfl, a3, ss, _, w1, rfl, rfl, SqL.of g3, atI_neg1 sne (by rw [lss]; exact e1), _, rfl, _, rfl, a3, ss, _, w2, rfl, rfl, SqL.of g3, atI_neg2 (n := k) lss e3, w1, w2, _, _, rfl, f1, f2, ⟨(gsq_dm R j3 np' 0).dl, (gsq_dm R (j := k) (by omega) (fun i hi => np i (by omega)) 0).dl, rf_top_pos.mpr (np k (by omega))⟩, fun p6 hp6 => ?_⟩
              have s6 := same_new (o := fr (divL (nF qs (k + 1)) (nF qs k))) hp6
              refine ⟨.ref p6, C.mono s6, s6 _ _ gy, fy3.mono s6, ?_, rfl⟩
              have e : sF qs (k + 1) = divL (nF qs (k + 1)) (nF qs k) := (divL_rf (np k (by omega))).symm
              rw [e]
              exact Fr.of upd_same
            clear C gy fy3 g2 fp lp
            rintro σ H6 ⟨st, C, gy, fy3, fst_, rfl⟩
            obtain ⟨ps, g2, lp, fp⟩ := C.g2
            obtain ⟨vh, h1, r2, zs4, rfl, gr, fr_, _⟩ := fp k (by omega)
            have lz := fr_.len
            rw [rg_len] at lz
            have lsc : (scl (sF qs (k + 1)) (rg (rv qs) k)).length = k + 1 := by unfold scl; rw [List.length_map, rg_len]
            refine ⟨_, rfl, _, rfl, _, rfl, a2, ps, _, .ref r2, rfl, rfl, SqL.of g2, atI_neg2 (n := k) lp h1, r2, rfl, ⟨_, SqL.of gr⟩, fun D hD => ?_⟩
            refine lc_list (K := K) (a := r2) (xs := zs4) (fun i H7 => Same H6 H7 ∧ ∃ bc, H7 D = some (.lst bc) ∧ FrAll K H7 bc ((scl (sF qs (k + 1)) (rg (rv qs) k)).take i)) ⟨same_new hD, [], upd_same, .nil⟩ (fun i H5 _ z => SqL.of (z.1 _ _ gr)) ?_ ?_
            · rintro i x H7 hx ⟨s6, bc, hD5, fb⟩
              have hj : i < zs4.length := (List.getElem?_eq_some_iff.mp hx).1
              obtain ⟨w2, g, e3, e4, fg⟩ := fr_.get (i := i) (by rw [rg_len]; omega)
              rw [hx] at e3
              cases e3
              have et : (scl (sF qs (k + 1)) (rg (rv qs) k))[i]? = some (mul (sF qs (k + 1)) g) := by
                unfold scl
                rw [List.getElem?_map, e4]
                rfl
              have lb : bc.length ≤ 6 := by
                rw [fb.len, List.length_take, lsc]
                omega
              refine ⟨rfl, ?_⟩
              refine iteT (B := Same H6 H7 ∧ ∃ bc, H7 D = some (.lst bc) ∧ FrAll K H7 bc ((scl (sF qs (k + 1)) (rg (rv qs) k)).take (i + 1))) ?_
              refine ⟨_, rfl, _, rfl, st, x, sF qs (k + 1), g, rfl, fst_.mono s6, fg.mono s6, ⟨cb_dl he be_, cb_dl (hB g (List.mem_of_getElem? e4)) bB⟩, fun p3 hp3 => ?_⟩
              have s7 := same_new (o := fr (mul (sF qs (k + 1)) g)) hp3
              refine ⟨bc, s7 _ _ hD5, small1000 (by omega), fun c o e => (upd_ne (ne_of_none e hD)).trans (s7 c o (s6 c o e)), bc ++ [.ref p3], upd_same, ?_⟩
              rw [take_one et]
              exact (FrAll.off (s7 _ _ hD5) (fb.mono s7)).snoc ((Fr.of upd_same).off (s7 _ _ hD5))
            · rintro H7 ⟨s6, bc, hD5, fb⟩
              rw [List.take_of_length_le (by rw [lsc]; omega)] at fb
              refine ⟨.ref y, .ref D, lsr ((0, 1) :: rg (rv qs) (k + 1)) (scl (lF qs (k + 1)) (rg (rv qs) (k + 1))), scl (sF qs (k + 1)) (rg (rv qs) k), du * uu, DD * EE, na + nb + 1, nf + ne_, rfl, ⟨y, zs3, rfl, SqL.of (s6 _ _ gy), fy3.mono s6⟩, ⟨D, bc, rfl, SqL.of hD5, fb⟩, lsr_ca hs hc, hcs, bT, bS2, by rw [lsr_len, List.length_cons, rg_len]; omega, fun H8 y' zs5 s8 n8 g8 f8 => ?_⟩
              obtain ⟨y1', y2', y3'⟩ := (C.mono s6).fresh n8
              refine ⟨y', zs5, some st, C.mono (s6.trans s8), g8, y1', y2', y3', ?_, rfl⟩
              rw [← late_rg]
              exact f8
          · have jz : j = 0 := Classical.byContradiction fun z => cc (decide_eq_true (by omega))
            subst jz
            refine ⟨y, zs3, v8, C, gy, y1, y2, y3, ?_, rfl⟩
            rw [← late_zero]
            exact fy3
        clear C gy fy3 y1 y2 y3
        clear y zs3 v8
        rintro σ H6 ⟨y, zs3, v8, C, gy, y1, y2, y3, fy3, rfl⟩
        have D1 : ¬ 2 * (j + 1) + 1 < qs.length → Clm qs (j + 1) := fun z => ⟨fun i hi => (hp' i hi).1, fun i hi => (hp' i hi).2, fun h => absurd h z⟩
        -- the end of the row
        refine ⟨fun σ H7 => 2 * (j + 1) < qs.length ∧ Bst K H H7 qs a1 a2 a3 (j + 1) (j + 1) (j + 1) ∧ H7 y = some (.lst zs3) ∧ FrAll K H7 zs3 (rg (rv qs) (j + 1)) ∧ σ = [some (V.ref b), some (V.ref a1), some (V.ref a2), some (V.ref a3), some (V.ref r), some (V.ref p), some (V.ref y), none, v8], ?_, ?_⟩
        · obtain ⟨ps, g2, lp, fp⟩ := C.g2
          refine ⟨_, rfl, a2, ps, rfl, .inl (SqL.of g2), _, _, rfl, rfl, .inl ⟨by decide, by decide⟩, _, rfl, b, xs, rfl, .inr (Bs.Same.t C.same sx), _, _, rfl, rfl, _, rfl, ?_⟩
          refine ite2 (fun cc => ?_) (fun cc => ⟨Classical.byContradiction fun z => cc (decide_eq_true (by omega)), C, gy, fy3, rfl⟩)
          have b3 := of_decide_eq_true cc
          have nl : ¬ 2 * (j + 1) < qs.length := by omega
          refine ⟨_, rfl, _, rfl, _, rfl, (by show 3 ≤ sizeLine; decide), fun p7 hp7 => fin H6 (j + 1) ?_ (D1 (by omega)) p7 hp7⟩
          rw [show cnt qs (j + 1) = j + 1 from if_neg nl]
          exact C
        clear C gy fy3
        rintro σ H7 ⟨nl, C, gy, fy3, rfl⟩
        -- the rung
        refine ⟨fun σ H8 => Bst K H H8 qs a1 a2 a3 (j + 2) (j + 1) (j + 1) ∧ H8 y = some (.lst zs3) ∧ FrAll K H8 zs3 (rg (rv qs) (j + 1)) ∧ σ = [some (V.ref b), some (V.ref a1), some (V.ref a2), some (V.ref a3), some (V.ref r), some (V.ref p), some (V.ref y), none, v8], ?_, ?_⟩
        · obtain ⟨ps, g2, lp, fp⟩ := C.g2
          refine ⟨_, rfl, .inl ⟨rfl, _, SqL.of g2⟩, _, rfl, a2, ps, _, rfl, rfl, g2, small1000 (by omega), ?_⟩
          exact ⟨C.p2 g2 lp ⟨y, zs3, rfl, gy, fy3, y1, y2, y3⟩ fp, (upd_ne y2).trans gy, fy3.off g2, rfl⟩
        clear C gy fy3
        rintro σ H8 ⟨C, gy, fy3, rfl⟩
        -- the norm
        obtain ⟨ss, g3, fs⟩ := C.g3
        have lss := fs.len
        rw [List.length_map, List.length_range] at lss
        have j13 : j + 1 ≤ 3 := by omega
        have npn : ∀ i, i < j + 1 → 0 < nor (rv qs) i := fun i hi => (hp' i hi).1
        obtain ⟨dd, k1, k2, k3, k4, k5⟩ := rg_dm R j13 npn
        have aj := aB_le j13
        have lpr : (prodL (rg (rv qs) (j + 1)) (rg (rv qs) (j + 1))).length ≤ 9 := by
          refine Nat.le_trans prodL_len ?_
          rw [rg_len]
          omega
        have cpr := prodL_ca k1 k1
        rw [rg_len] at cpr
        have hmul : (j + 1 + 1) * (j + 1 + 1) ≤ 20 := by
          have : (j + 1 + 1) * (j + 1 + 1) ≤ 4 * 4 := Nat.mul_le_mul (by omega) (by omega)
          omega
        refine ⟨_, rfl, .inl ⟨rfl, _, SqL.of g3⟩, _, rfl, _, rfl, _, rfl, .ref y, .ref y, rg (rv qs) (j + 1), rg (rv qs) (j + 1), dd, dd, aB (j + 1), aB (j + 1), rfl, ⟨y, zs3, rfl, SqL.of gy, fy3⟩, ⟨y, zs3, rfl, SqL.of gy, fy3⟩, k1, k1, k2, k2, k3, by rw [rg_len]; omega, by rw [rg_len]; omega, fun H9 vp s4 fvp => ?_⟩
        refine ⟨.ref b, vp, prodL (rg (rv qs) (j + 1)) (rg (rv qs) (j + 1)), qs, dd * dd, 256, aB (j + 1) + aB (j + 1) + 20, 30, rfl, po0.mono (C.same.trans s4), fvp, cpr.mono (by omega), R.c, k3.mono (by omega), bdM, k4.mono (by omega), by omega, fun H10 u s5 fu => ?_⟩
        rw [nor_by R j13 npn] at fu
        have s45 := s4.trans s5
        have g6 := s45 _ _ g3
        refine ⟨a3, ss, _, rfl, rfl, g6, small1000 (by omega), ?_⟩
        exact ⟨_, _, _, _, nl, (C.mono s45).p3 g6 fu (fs.mono s45), rfl⟩
      · exact cc1 (decide_eq_true (rf_top_pos.mpr z))
    · rintro σ H2 ⟨J, v4, v5, v6, v8, C, D, rfl⟩
      refine ⟨_, rfl, _, rfl, _, rfl, (by show 3 ≤ sizeLine; decide), fun p hp => fin H2 J C D p hp⟩
end
end Rs


set_option Elab.async false
set_option linter.all false
set_option maxRecDepth 100000
set_option maxHeartbeats 1000000
namespace Rs
open PySem L2 Bs Fq LamX RZ
/-! ### where a polynomial misses: both readings -/
theorem ws_shift (qs : List F) (s : Nat) (w : List F) : ws qs s ((0, 1) :: w) = ws qs (s + 1) w := by
  unfold ws wt
  rw [List.length_cons, sm_first, shift_val, if_pos rfl]
  have e : sm (fun i => val (co ((0, 1) :: w) (i + 1)) * rv qs (i + 1 + s)) w.length = sm (fun i => val (co w i) * rv qs (i + (s + 1))) w.length := by
    refine sm_congr fun i _ => ?_
    rw [shift_val, if_neg (by omega), Nat.add_sub_cancel, show i + 1 + s = i + (s + 1) by omega]
  rw [e]
  grind
theorem ws_rep (qs : List F) (w : List F) : ∀ k s, ws qs s (List.replicate k (0, 1) ++ w) = ws qs (s + k) w
  | 0, s => rfl
  | k + 1, s => by
    rw [List.replicate_succ, List.cons_append, ws_shift, ws_rep qs w k (s + 1)]
    congr 1
    omega
theorem misF_eq {D E : Int} {n m : Nat} {w qs : List F} (hw : Ca D n w) (hq : Ca E m qs) : misF w qs = (List.range (qs.length + 1 - w.length)).filter (miss qs w) := by
  unfold misF
  refine List.filter_congr fun k _ => ?_
  have hz : Ca D n (List.replicate k ((0, 1) : F) ++ w) := fun q h => by
    rcases List.mem_append.mp h with h | h
    · rw [(List.mem_replicate.mp h).2]
      exact Cb.zero
    · exact hw q h
  have e := sumBy_is hz hq 0
  rw [List.drop_zero, ws_rep, Nat.zero_add] at e
  rw [e]
  unfold miss
  by_cases c : rf (ws qs k w) = (0, 1)
  · rw [decide_eq_true c, decide_eq_false (fun z => z c)]
    rfl
  · rw [decide_eq_false c, decide_eq_true (show rf (ws qs k w) ≠ (0, 1) from c)]
    rfl
theorem misF_rest {D E : Int} {n m : Nat} {w qs : List F} (hw : Ca D n w) (hq : Ca E m qs) : (!(misF w qs).isEmpty) = (fRest qs w).isSome := by
  rw [misF_eq hw hq]
  unfold fRest
  cases e : (List.range (qs.length + 1 - w.length)).find? (miss qs w) with
  | none =>
    rw [List.filter_eq_nil_iff.mpr (List.find?_eq_none.mp e)]
    rfl
  | some k =>
    have h := List.find?_some e
    have m := List.mem_of_find?_eq_some e
    have := List.mem_filter.mpr ⟨m, h⟩
    cases l : (List.range (qs.length + 1 - w.length)).filter (miss qs w) with
    | nil =>
      rw [l] at this
      cases this
    | cons _ _ => rfl
/-! ### lists of whole numbers as data -/
def dI (ks : List Nat) : List PyData := ks.map fun k : Nat => PyData.int k
theorem can_dI : ∀ ks, PyData.canLayAll0 (dI ks) = true
  | [] => by simp [dI, PyData.canLayAll0]
  | k :: ks => by
    have := can_dI ks
    simp only [dI] at this
    simp [dI, PyData.canLayAll0, PyData.canLay0, this]
theorem dep_dI : ∀ ks, PyData.depthAll (dI ks) ≤ 2
  | [] => by simp [dI, PyData.depthAll]
  | k :: ks => by
    have := dep_dI ks
    simp only [dI] at this
    simp only [dI, List.map_cons, PyData.depthAll, PyData.depth]
    omega
theorem shaped_lI (ks : List Nat) : SeqAt.shaped (.list (dI ks)) = true := by
  unfold SeqAt.shaped
  rw [Bool.and_eq_true_iff]
  refine ⟨?_, decide_eq_true ?_⟩
  · simpa [PyData.canLay0] using can_dI ks
  · have := dep_dI ks
    simp only [PyData.depth]
    omega
theorem eqv_lI (ks : List Nat) : PyData.eqv (.list (dI ks)) (.list []) = ks.isEmpty := by
  cases ks <;> rfl
theorem dp_dI {K : PySem.W.Frag} {H : Hp} : ∀ ks : List Nat, DpAll K H (ks.map fun k : Nat => V.int k) (dI ks)
  | [] => .nil
  | k :: ks => .cons (.int _) (dp_dI ks)
/-! ### the ladder that a row has -/
def hadD (qs : List F) (J : Nat) : List PyData := if isLad qs J = true then [dLad qs J] else []
abbrev sHad : Stmt := top 78
/-- _law_had(row) -/
def spHad (K : PySem.W.Frag) : Sp := fun vs H Q _ => ∃ (x : V) (qs : List F), vs = [x] ∧ Po K H x qs ∧ RowOk qs ∧ ∀ (H' : Hp) (p : Addr) (ys : List V) (J : Nat), Same H H' → Clm qs J → SqL K H' p ys → DpAll K H' ys (hadD qs J) → Q (.ref p) H'
abbrev NHd : List Str := ["row", "levels", "rungs", "norms_so", "steps", "near", "far"]
section
variable {P : Program} {w : World} {K : PySem.W.Frag} {mg : Str → Option Value} {base : Heap} {f : Addr} {fd : FuncData}
theorem scHad : FnScope NHd ["row"] (defScope sHad) := ⟨rfl, rfl, rfl, by decide +kernel, rfl, by decide +kernel, by decide +kernel⟩
theorem ok_had (F : Fun K "_law_had" "_law_had" sHad f fd) (T : Blt mg) (zp : mg "zip" = none) (OV : Cal P w K mg base 2 "_law_over" (spOp K divL domLD)) (LB : Cal P w K mg base 5 "_law_built" (spLBuilt K)) (MI : Cal P w K mg base 5 "_law_misfits" (spMisfits K)) : FnOk P w K mg base CX0 6 f fd ["row"] (spHad K) := by
  refine F.ok scHad (fun vs H Q E h => ?_) (fun cdv A outer s H vs Q E hr h => ?_)
  · obtain ⟨x, qs, rfl, _⟩ := h
    rfl
  · obtain ⟨x, qs, rfl, px, R, kk⟩ := h
    obtain ⟨b, xs, rfl, sx, fx⟩ := id px
    have r8 := R.l
    refine ⟨_, C8.pss_cut (ps_asg (pe_n LB hr (by decide) (by rfl) (pa_cons (pv 0) pa_nil)) (pg_tup rfl (pgs_cons (pg_name (i := 1) scHad.nd rfl (.inl rfl)) (pgs_cons (pg_name (i := 2) scHad.nd rfl (.inl rfl)) (pgs_cons (pg_name (i := 3) scHad.nd rfl (.inl rfl)) pgs_nil)))))
      (C8.pss_cut (ps_if (PW.pt (pw_or (pt_cmpR op_lt (pe_ix ix_tup (pe_ix ix_list (pv 3) (pe_un un_neg pe_int) (fun _ _ => rfl)) pe_int (fun _ _ => rfl)) pe_int (nomark _))
          (pw_or1 (PW.pt (pw_and (pt_cmpR op_eq (pe_ix ix_tup (pe_ix ix_list (pv 3) (pe_un un_neg pe_int) (fun _ _ => rfl)) pe_int (fun _ _ => rfl)) pe_int (nomark _))
            (pw_and1 (pt_cmpR (op_neD hr.units) (pe_n MI hr (by decide) (by rfl) (pa_cons (pv 0) (pa_cons (pe_ix ix_list (pv 2) (pe_un un_neg pe_int) (fun _ _ => rfl)) pa_nil))) (pe_lst pa_nil) (nomark _)))))))) (pss_one (ps_ret (pe_lst pa_nil))) pss_nil)
      (C8.pss_cut (ps_setLc (i := 4) (own := [("near", 5), ("far", 6)]) (g := gTup K 2 (gCons (gName 5) (gCons (gName 6) gNil))) (tt := tYes) (by rfl) scHad.nd rfl rfl (sw_true rfl rfl rfl (by decide +kernel)) (pi_zipA (by rfl) zp (pa_cons (pv 3) (pa_cons (pe_slice sl_list (pv 3) (po_some pe_int) po_none) pa_nil))) (blkOk_by (N := NHd) (sc := defScope sHad) (by decide +kernel))
          (fun _ _ _ _ _ => pg_tup rfl (pgs_cons (pg_name (i := 5) scHad.nd rfl (Or.inl rfl)) (pgs_cons (pg_name (i := 6) scHad.nd rfl (Or.inl rfl)) pgs_nil))) (fun _ _ _ _ _ => pts_nil)
          (fun _ _ _ _ _ => pe_n OV hr (by decide) (by rfl) (pa_cons (pv 6) (pa_cons (pv 5) pa_nil))))
      (pss_one (ps_ret (pe_lst (pa_cons (pe_tup (pa_cons (pe_ix ix_tup (pv 0) pe_int (fun _ _ => rfl)) (pa_cons (pe_callTy call_tuple_of (by rfl) T.tuple (by decide +kernel) (pa_cons (pv 1) pa_nil)) (pa_cons (pe_callTy call_tuple_of (by rfl) T.tuple (by decide +kernel) (pa_cons (pv 4) pa_nil)) pa_nil)))) pa_nil)))))), ?_⟩
    refine ⟨fun σ H1 => ∃ (a1 a2 a3 : Addr) (J : Nat), Bst K H H1 qs a1 a2 a3 (cnt qs J) (cnt qs J) J ∧ Clm qs J ∧ σ = [some (V.ref b), some (V.ref a1), some (V.ref a2), some (V.ref a3), none, none, none], ?_, ?_⟩
    · refine ⟨_, rfl, .ref b, qs, rfl, px, R, fun H1 a a1 a2 a3 J s1 st C D => ⟨a, _, rfl, st, rfl, _, _, rfl, _, _, rfl, _, _, rfl, rfl, ?_⟩⟩
      exact ⟨a1, a2, a3, J, C, D, rfl⟩
    rintro σ H1 ⟨a1, a2, a3, J, C, D, rfl⟩
    obtain ⟨c1, c2, c3⟩ := clm_cnt R D
    refine ⟨fun σ H2 => isLad qs J = true ∧ Bst K H H2 qs a1 a2 a3 (cnt qs J) (cnt qs J) J ∧ σ = [some (V.ref b), some (V.ref a1), some (V.ref a2), some (V.ref a3), none, none, none], ?_, ?_⟩
    · obtain ⟨ss, g3, fs⟩ := C.g3
      have lss := fs.len
      rw [List.length_map, List.length_range] at lss
      obtain ⟨w1, q1, e1, e2, f1⟩ := fs.get (i := cnt qs J - 1) (by rw [List.length_map, List.length_range]; omega)
      rw [rng_get (by omega)] at e2
      cases e2
      have sne : ss ≠ [] := fun z => by
        rw [z] at lss
        have : (0 : Nat) = cnt qs J := lss
        omega
      obtain ⟨aw, rfl, sw⟩ := id f1
      refine ⟨_, rfl, _, rfl, a3, ss, _, .ref aw, rfl, rfl, SqL.of g3, atI_neg1 sne (by rw [lss]; exact e1), aw, _, 0, _, rfl, rfl, sw, atI_nat (j := 0) rfl, _, _, rfl, rfl, _, rfl, ?_⟩
      have out : ∀ H3, Same H H3 → isLad qs J = false → ∀ p, H3 p = none → Q (.ref p) (upd H3 p (.lst [])) := fun H3 s3 e p hp => by
        refine kk _ p [] J (s3.trans (same_new hp)) D (SqL.of upd_same) ?_
        unfold hadD
        rw [e]
        exact .nil
      refine ite2 (fun cc => ?_) (fun cc => ?_)
      · have neg : last qs J < 0 := rf_top_neg.mp (of_decide_eq_true cc)
        refine ⟨(by show 0 ≤ sizeLine; decide), fun p hp => out H1 C.same ?_ p hp⟩
        unfold isLad
        rw [decide_eq_true neg]
        rfl
      have nneg : ¬ last qs J < 0 := fun z => cc (decide_eq_true (rf_top_neg.mpr z))
      refine ⟨_, rfl, _, rfl, a3, ss, _, .ref aw, rfl, rfl, SqL.of g3, atI_neg1 sne (by rw [lss]; exact e1), aw, _, 0, _, rfl, rfl, sw, atI_nat (j := 0) rfl, rfl, _, rfl, ?_⟩
      refine ite2 (fun c0 => ?_) (fun c0 => ?_)
      · have t0 : (nF qs (cnt qs J - 1)).1 = 0 := by
          have := of_decide_eq_true c0
          simpa using this
        have e0 : last qs J = 0 := by
          have h1 : ¬ 0 < last qs J := fun z => by
            have := rf_top_pos.mpr z
            have h : (rf (last qs J)).1 = 0 := t0
            omega
          grind
        obtain ⟨x1, x2, x3, x4⟩ := clm_last R D (by rw [e0]; decide)
        obtain ⟨dd, k1, k2, k3, k4, k5⟩ := rg_dm R x2 D.pos
        have a0 := aB_le x2
        obtain ⟨ps, g2, lp, fp⟩ := C.g2
        obtain ⟨vh, h1, r, zs, rfl, gr, fr_, nr⟩ := fp (cnt qs J - 1) (by omega)
        rw [show cnt qs J - 1 = J by omega] at h1 fr_
        have pne : ps ≠ [] := fun z => by
          rw [z] at lp
          have : (0 : Nat) = cnt qs J := lp
          omega
        have bdM : Bd 256 30 := Bd.of (by decide) (N := 8) (by decide) (by decide) (by decide)
        have bd2 : Bd (dd * 256) (aB J + 30 + 50) := Bd.of (Int.mul_pos k5.p (by decide)) (natAbs_mul_le (m := 8) k5.l (by decide)) (by omega) (by omega)
        refine ⟨_, rfl, _, rfl, _, rfl, a2, ps, _, .ref r, rfl, rfl, SqL.of g2, atI_neg1 pne (by rw [lp, show cnt qs J - 1 = J by omega]; exact h1), .ref b, r, zs, rg (rv qs) J, qs, dd, 256, aB J, 30, rfl, px.mono C.same, .inl (SqL.of gr), fr_, k1, R.c, k2, bdM, bd2, by omega, by rw [rg_len]; omega, fun H2 p s2 sp => ?_⟩
        refine ⟨(by show 0 ≤ sizeLine; decide), fun p2 hp2 => ?_⟩
        have s3 := same_new (o := .lst []) hp2
        have s23 := s2.trans s3
        refine ⟨.list (dI (misF (rg (rv qs) J) qs)), .list [], .lst (s3.seq sp) (dp_dI _), .lst (SqL.of upd_same) .nil, shaped_lI _, rfl, _, rfl, ?_⟩
        rw [eqv_lI, misF_rest k1 R.c]
        have C3 := C.mono s23
        cases er : (fRest qs (rg (rv qs) J)).isSome with
        | true =>
          refine iteT ⟨(by show 0 ≤ sizeLine; decide), fun p hp => out _ C3.same ?_ p hp⟩
          unfold isLad
          rw [decide_eq_true e0, er]
          simp
        | false =>
          refine iteF ⟨?_, C3, rfl⟩
          unfold isLad
          rw [decide_eq_false nneg, er]
          simp
      · have e0 : last qs J ≠ 0 := fun z => by
          have h : nF qs (cnt qs J - 1) = (0, 1) := rf_eq0.mpr z
          rw [h] at c0
          exact c0 (by decide)
        refine ⟨?_, C, rfl⟩
        unfold isLad
        rw [decide_eq_false nneg, decide_eq_false e0]
        rfl
    clear C
    rintro σ H3 ⟨lad, C, rfl⟩
    -- steps
    refine ⟨fun σ H4 => Bst K H H4 qs a1 a2 a3 (cnt qs J) (cnt qs J) J ∧ ∃ (L : Addr) (ts : List V), H4 L = some (.lst ts) ∧ FrAll K H4 ts (stpsC qs J) ∧ σ = [some (V.ref b), some (V.ref a1), some (V.ref a2), some (V.ref a3), some (V.ref L), none, none], ?_, ?_⟩
    · obtain ⟨ss, g2, fs⟩ := C.g3
      have lss := fs.len
      rw [List.length_map, List.length_range] at lss
      refine ⟨_, rfl, _, rfl, 1, rfl, ?_⟩
      unfold tNoPart
      refine ⟨a3, ss, rfl, SqL.of g2, fun p hp => ?_⟩
      have ec : cutV ss (some 1) none = ss.drop 1 := by
        have e1 : HT.sIx ss.length 0 (some 1) = min 1 ss.length := HT.sIx_nat ss.length 0 1
        unfold cutV
        rw [e1, show HT.sIx ss.length ss.length none = ss.length from rfl, Nat.min_eq_left (by omega), List.take_of_length_le (by rw [List.length_drop]; omega)]
      rw [ec]
      have s4 := same_new (o := .lst (ss.drop 1)) hp
      refine ⟨a3, p, ss, ss.drop 1, rfl, .inl ⟨SqL.of (s4 _ _ g2), SqL.of upd_same, fun D2 hD2 => ?_⟩⟩
      refine lc_it (walk_zipL (xs := ss) (ys := ss.drop 1) (n := cnt qs J - 1) (by rw [List.length_drop]; omega)) (fun i H5 => Same H3 H5 ∧ (SqL K H5 a3 ss ∧ SqL K H5 p (ss.drop 1)) ∧ ∃ acc, H5 D2 = some (.lst acc) ∧ FrAll K H5 acc ((List.range i).map fun k => sF qs (k + 1)))
        ⟨s4.trans (same_new hD2), ⟨SqL.of (same_new hD2 _ _ (s4 _ _ g2)), SqL.of (same_new hD2 _ _ upd_same)⟩, [], upd_same, .nil⟩ (fun i H5 _ q => q.2.1) ?_ ?_
      · rintro i x H5 H6 hi ⟨s5, ⟨q1, q2⟩, acc, gD, fa⟩ ⟨T', x1, y1, rfl, hT, rfl, h1, h2⟩
        have h1' : ss[i]? = some x1 := h1
        have h2' : (ss.drop 1)[i]? = some y1 := h2
        rw [List.getElem?_drop] at h2'
        obtain ⟨w1, r1, e1, e2, f1⟩ := fs.get (i := i) (by rw [List.length_map, List.length_range]; omega)
        rw [rng_get (by omega)] at e2
        cases e2
        obtain ⟨w2, r2, e3, e4, f2⟩ := fs.get (i := i + 1) (by rw [List.length_map, List.length_range]; omega)
        rw [rng_get (by omega)] at e4
        cases e4
        rw [h1'] at e1
        cases e1
        rw [show 1 + i = i + 1 by omega, e3] at h2'
        cases h2'
        have s6 := same_new (o := .tup [x1, y1]) hT
        have s36 := s5.trans s6
        have ip : i + 1 ≤ 3 := by
          rcases c3 with e | ⟨e, e1⟩
          · have : 2 * J < qs.length := by
              unfold cnt at e
              split at e
              · assumption
              · omega
            omega
          · omega
        have np : ∀ k, k ≤ i → 0 < nor (rv qs) k := fun k hk => D.pos k (by omega)
        refine ⟨T', _, rfl, SqT.of upd_same, rfl, _, _, rfl, _, _, rfl, rfl, rfl, ?_⟩
        refine iteT (B := Same H3 (upd H5 T' (.tup [x1, y1])) ∧ (SqL K (upd H5 T' (.tup [x1, y1])) a3 ss ∧ SqL K (upd H5 T' (.tup [x1, y1])) p (ss.drop 1)) ∧ ∃ acc, upd H5 T' (.tup [x1, y1]) D2 = some (.lst acc) ∧ FrAll K (upd H5 T' (.tup [x1, y1])) acc ((List.range (i + 1)).map fun k => sF qs (k + 1))) ?_
        refine ⟨_, rfl, _, rfl, y1, x1, _, _, rfl, f2.mono s36, f1.mono s36, ⟨(gsq_dm R ip (fun k hk => np k (by omega)) 0).dl, (gsq_dm R (j := i) (by omega) (fun k hk => np k (by omega)) 0).dl, rf_top_pos.mpr (np i (Nat.le_refl _))⟩, fun p1 hp1 => ?_⟩
        have s7 := same_new (o := fr (divL (nF qs (i + 1)) (nF qs i))) hp1
        have s67 := s6.trans s7
        have nD : H3 D2 = none := by
          cases e : H3 D2 with
          | none => rfl
          | some o =>
            have := s4 _ _ e
            rw [hD2] at this
            cases this
        have gD7 := s67 _ _ gD
        have la := fa.len
        rw [List.length_map, List.length_range] at la
        have np2 : p ≠ D2 := ne_of_none (o := .lst (ss.drop 1)) upd_same hD2
        have na2 : a3 ≠ D2 := ne_of_none (s4 _ _ g2) hD2
        refine ⟨acc, gD7, small1000 (by omega), fun c o e => (upd_ne (ne_of_none e nD)).trans (s67 c o (s5 c o e)), ⟨sqL_ne na2 (s67.seq q1), sqL_ne np2 (s67.seq q2)⟩, acc ++ [.ref p1], upd_same, ?_⟩
        rw [rng_snoc (fun k => sF qs (k + 1))]
        refine (FrAll.off gD7 (fa.mono s67)).snoc (Fr.off ?_ gD7)
        have e : sF qs (i + 1) = divL (nF qs (i + 1)) (nF qs i) := (divL_rf (np i (Nat.le_refl _))).symm
        show Fr K _ (.ref p1) (sF qs (i + 1))
        rw [e]
        exact Fr.of upd_same
      · rintro H5 ⟨s5, _, acc, gD, fa⟩
        exact ⟨C.mono s5, D2, acc, gD, fa, rfl⟩
    clear C
    rintro σ H4 ⟨C, L, ts, gL, ft, rfl⟩
    have r1 := R.pos
    have lx := fx.len
    obtain ⟨w0, e0, f0⟩ : ∃ w, xs[0]? = some w ∧ Fr K H w (co qs 0) := by
      obtain ⟨w, q, e1, e2, e3⟩ := fx.get (i := 0) (by omega)
      exact ⟨w, e1, by rw [co_get e2]; exact e3⟩
    obtain ⟨ls, g3, fl⟩ := C.g1
    refine ⟨_, rfl, b, xs, 0, w0, rfl, rfl, Bs.Same.t C.same sx, atI_nat (j := 0) e0, _, rfl, a1, ls, rfl, .inl ⟨SqL.of g3, fun p1 hp1 => ?_⟩⟩
    have s5 := same_new (o := .tup ls) hp1
    refine ⟨_, rfl, L, ts, rfl, .inl ⟨SqL.of (s5 _ _ gL), fun p2 hp2 => ?_⟩⟩
    have s6 := same_new (o := .tup ts) hp2
    refine ⟨(by show 3 ≤ sizeLine; decide), fun p3 hp3 => ⟨(by show 1 ≤ sizeLine; decide), fun p4 hp4 => ?_⟩⟩
    have s7 := same_new (o := .tup [w0, V.ref p1, V.ref p2]) hp3
    have s8 := same_new (o := .lst [V.ref p3]) hp4
    have sa := s5.trans (s6.trans (s7.trans s8))
    refine kk _ p4 _ J (C.same.trans sa) D (SqL.of upd_same) ?_
    unfold hadD
    rw [if_pos lad]
    exact .cons (.tup (SqT.of (s8 _ _ upd_same)) (.cons (f0.mono (C.same.trans sa)).dp (.cons (Po.dp ⟨p1, ls, rfl, SqT.of (s8 _ _ (s7 _ _ (s6 _ _ upd_same))), fl.mono sa⟩) (.cons (Po.dp ⟨p2, ts, rfl, SqT.of (s8 _ _ (s7 _ _ upd_same)), ft.mono sa⟩) .nil)))) .nil
end
end Rs


set_option Elab.async false
set_option linter.all false
set_option maxRecDepth 100000
set_option maxHeartbeats 400000
namespace Rs
open PySem L2 Bs Fq LamX LmD Hd TA2
abbrev sHeard : Stmt := top 80
/-- the words, fields and classes of _law_heard -/
structure Cls where
  R : Addr
  P : Addr
  S : Addr
def rowsH (C : Cls) : List Row := [("row", "given", C.R), ("paper", "part", C.P), ("none", "paper", C.S)]
structure HeardK (K : PySem.W.Frag) (mg : Str → Option Value) (g : Addr) (C : Cls) : Prop where
  mgf : mg "_law_heard" = some (.ref g)
  kp : PySem.W.keepIn K (.ref g) = true
  ex : ∃ (oc : Value) (od : Option Addr) (kV doc pm : Value) (an : Option Addr) (cdv ct : Value) (osl : Array (Option Value)),
    K.lookup g = some ⟨oc, od, .func (PySem.W.fnOf "_law_heard" "_law_heard" (defArgs sHeard) (defBody sHeard) (defScope sHeard) .none kV doc pm an cdv ct), osl⟩ ∧ PySem.W.codeIn K cdv "_law_heard" = true
  mR : mg "BadRow" = some (.ref C.R)
  mP : mg "BadPaper" = some (.ref C.P)
  mS : mg "NoShare" = some (.ref C.S)
  xR : XfC K C.R
  xP : XfC K C.P
  xS : XfC K C.S
  nR : PySem.W.findIn K (.ref C.R) "given" = some none
  nP : PySem.W.findIn K (.ref C.P) "part" = some none
  nS : PySem.W.findIn K (.ref C.S) "paper" = some none
  xRR : PySem.W.exmOne K (.ref C.R) (.ref C.R) = some true
  xPR : PySem.W.exmOne K (.ref C.P) (.ref C.R) = some false
  xPP : PySem.W.exmOne K (.ref C.P) (.ref C.P) = some true
  xSR : PySem.W.exmOne K (.ref C.S) (.ref C.R) = some false
  xSP : PySem.W.exmOne K (.ref C.S) (.ref C.P) = some false
  xSS : PySem.W.exmOne K (.ref C.S) (.ref C.S) = some true
theorem scHeard : FnScope ["call", "error"] ["call"] (defScope sHeard) := ⟨rfl, rfl, rfl, by decide +kernel, rfl, by decide +kernel, by decide +kernel⟩
/-- where the lambdas of a def leave their code -/
structure TabOk (X : Cx) (Ts : List (Addr × Str)) (c P : Addr) : Prop where
  tb : TabB X.base X.mg c P
  code : X.env.code = .ref c
  mem : (P, X.env.qual ++ "<lambda>") ∈ Ts
  one : ∀ p ∈ Ts, p.1 = P → p.2 = X.env.qual ++ "<lambda>"
abbrev noA : Arguments := { posonlyargs := [], args := [], vararg := none, kwonlyargs := [], kw_defaults := [], kwarg := none, defaults := [] }
section
variable {X : Cx} {Ts : List (Addr × Str)} {g c P : Addr} {C : Cls} {k : Nat} {body : Expr} {scope : Scope} {t : XK → TE} {p lpos pos : Pos}
theorem heard_here (Hk : HeardK X.K X.mg g C) {q : Str} {cdv : Value} : GivesTo X ["call", "error"] "_law_heard" (defScope sHeard) g cdv (defBody sHeard) "call" q (TTh X.K (rowsH C)) := by
  refine heard_gives (i := 1) (l := rowsH C) scHeard.nd (by decide) (fun s H => ?_) (fun f => rfl)
  exact one_clause (i := 1) Hk.xR Hk.nR ⟨by rfl, by decide, .inl Hk.mR⟩ rfl rfl
    (one_clause (i := 1) Hk.xP Hk.nP ⟨by rfl, by decide, .inl Hk.mP⟩ rfl rfl
    (one_clause (i := 1) Hk.xS Hk.nS ⟨by rfl, by decide, .inl Hk.mS⟩ rfl rfl .stop))
theorem pe_hd (Hk : HeardK X.K X.mg g C) (Tk : TabOk X Ts c P) (hr : Room (k + 2) X.A) (hg : Gl X "_law_heard") (L : LamS X.env.scope scope)
    (hbody : ∀ (A : Around) (outer : List Env) (s : Shared) (H : Hp) (E : XK) (f c' : Addr), Room k (A.deeper (lamEnv X scope s.heap.objs.size f c')) → PE (lamCx X A outer s H E scope f c') body (t E)) :
    PE X (.Call (.Name "_law_heard" p) [.Lambda noA body scope lpos] [] pos) (tLam Ts (TTh X.K (rowsH C)) t) := by
  obtain ⟨oc, od, kV, doc, pm, an, cdv, ct, osl, lk, hc⟩ := Hk.ex
  have F := fun_mk (st := sHeard) lk hc Hk.kp
  have b := F.binds (ps := ["call"]) fun _ _ _ _ _ _ us hl => match us, hl with | [_], _ => rfl
  exact pe_lamcall (P := P) (c := c) hg Hk.mgf Hk.kp lk hc b scHeard rfl (.inl rfl) (heard_here Hk) Tk.tb Tk.code Tk.mem Tk.one hr L rfl (fun _ _ _ _ _ => rfl) hbody
theorem pe_hdD {x : Str} {n : Int} {j : Nat} {p1 p2 : Pos} (Hk : HeardK X.K X.mg g C) (Tk : TabOk X Ts c P) (hr : Room (k + 2) X.A) (hg : Gl X "_law_heard") (S : ScD X.env.scope scope x) (nx : ∀ i : Nat, X.N[i]? ≠ some x)
    (hbd : BindD x n (one x n p1 p2 j) body scope)
    (hbody : ∀ (A : Around) (outer : List Env) (s : Shared) (H : Hp) (E : XK) (f c' : Addr), Room k (A.deeper (lamEnv X scope s.heap.objs.size f c')) → PE (lamCx X A outer s H E scope f c') body (t E)) :
    PE X (.Call (.Name "_law_heard" p) [.Lambda (one x n p1 p2 j) body scope lpos] [] pos) (tLam Ts (TTh X.K (rowsH C)) t) := by
  obtain ⟨oc, od, kV, doc, pm, an, cdv, ct, osl, lk, hc⟩ := Hk.ex
  have F := fun_mk (st := sHeard) lk hc Hk.kp
  have b := F.binds (ps := ["call"]) fun _ _ _ _ _ _ us hl => match us, hl with | [_], _ => rfl
  exact pe_lamD (P := P) (c := c) hg Hk.mgf Hk.kp lk hc b scHeard rfl (.inl rfl) (heard_here Hk) Tk.tb Tk.code Tk.mem Tk.one hr S nx hbd hbody
end
theorem bindD {n : Int} {p1 p2 : Pos} {j : Nat} {body : Expr} {scope : Scope} : BindD "own" n (one "own" n p1 p2 j) body scope := fun _ _ _ _ _ _ _ => ⟨_, rfl, rfl⟩
/-! ### what stays where lambdas are made and the state is changed -/
def KE (p l : Addr) (H H' : Hp) : Prop := ∀ b o, H b = some o → b ≠ p → b ≠ l → (∀ ps, o ≠ .tbl ps) → H' b = some o
theorem KE.trans {p l : Addr} {H1 H2 H3 : Hp} (a : KE p l H1 H2) (b : KE p l H2 H3) : KE p l H1 H3 := fun x o e n1 n2 n3 => b x o (a x o e n1 n2 n3) n1 n2 n3
theorem Kp.ke {p l : Addr} {H H' : Hp} (k : Kp p l H H') : KE p l H H' := fun b o e n1 n2 _ => k b o e n1 n2
theorem ExtN.ke {p l : Addr} {H H' : Hp} (k : ExtN H H') : KE p l H H' := fun b o e _ _ n => k b o e n
theorem ExtN.same {H H' : Hp} (k : Same H H') : ExtN H H' := fun b o e _ => k b o e
theorem ExtN.t {K : PySem.W.Frag} {H H' : Hp} {a : Addr} {xs : List V} (e : ExtN H H') (h : SqT K H a xs) : SqT K H' a xs := by
  rcases h with (h | ⟨o, h⟩) | h
  · exact .inl (.inl (e _ _ h (by intro ps z; cases z)))
  · exact .inl (.inr ⟨o, e _ _ h (by intro ps z; cases z)⟩)
  · exact .inr h
theorem ExtN.fr {K : PySem.W.Frag} {H H' : Hp} {v : V} {q : F} (e : ExtN H H') (h : Fr K H v q) : Fr K H' v q := by
  obtain ⟨a, rfl, s⟩ := h
  exact ⟨a, rfl, ExtN.t e s⟩
theorem Sta.ext {H H' : Hp} {p c l : Addr} {n : Nat} {t : Int} (S : Sta H p c l n t) (e : ExtN H H') : Sta H' p c l n t := by
  obtain ⟨cs, a1, a2⟩ := S.cs
  obtain ⟨ls, b1, b2⟩ := S.ls
  exact ⟨e _ _ S.d (by intro ps z; cases z), ⟨cs, e _ _ a1 (by intro ps z; cases z), a2⟩, ⟨ls, e _ _ b1 (by intro ps z; cases z), b2⟩, S.ne, S.n1, S.n2, S.t0⟩
theorem Tabs.kp {Ts : List (Addr × Str)} {H H' : Hp} {p c l : Addr} {n : Nat} {t : Int} (T : Tabs Ts H) (S : Sta H p c l n t) (k : Kp p l H H') : Tabs Ts H' := by
  obtain ⟨ls, b1, _⟩ := S.ls
  intro q hq
  obtain ⟨ps, h1, h2, h3⟩ := T q hq
  refine ⟨ps, k _ _ h1 (ne_of h1 S.d (by intro z; cases z)) (ne_of h1 b1 (by intro z; cases z)), h2, fun pos cv hc => ?_⟩
  obtain ⟨c, e1, e2⟩ := h3 pos cv hc
  exact ⟨c, e1, k _ _ e2 (ne_of e2 S.d (by unfold CodeO; intro z; cases z)) (ne_of e2 b1 (by unfold CodeO; intro z; cases z))⟩
theorem Tabs.same {Ts : List (Addr × Str)} {H H' : Hp} (T : Tabs Ts H) (e : Same H H') : Tabs Ts H' := T.ext e
section
variable {K : PySem.W.Frag} {H H' : Hp}
theorem sqL_ext (e : ExtN H H') {a : Addr} {xs : List V} (h : SqL K H a xs) : SqL K H' a xs := by
  rcases h with (h | ⟨o, h⟩) | h
  · exact .inl (.inl (e _ _ h (by intro ps z; cases z)))
  · exact .inl (.inr ⟨o, e _ _ h (by intro ps z; cases z)⟩)
  · exact .inr h
mutual
theorem dp_ext (e : ExtN H H') : ∀ (d : PyData) (v : V), Dp K H v d → Dp K H' v d
  | .none, _, h => by
    cases h
    exact .non
  | .bool b, _, h => by
    cases h
    exact .bl _
  | .int i, _, h => by
    cases h
    exact .int _
  | .str x, _, h => by
    cases h
    exact .str _
  | .list ds, _, h => by
    cases h with
    | lst hs ha => exact .lst (sqL_ext e hs) (dpAll_ext e ds _ ha)
  | .tuple ds, _, h => by
    cases h with
    | tup hs ha => exact .tup (ExtN.t e hs) (dpAll_ext e ds _ ha)
  | .dict _, _, h => by cases h
theorem dpAll_ext (e : ExtN H H') : ∀ (ds : List PyData) (vs : List V), DpAll K H vs ds → DpAll K H' vs ds
  | [], _, h => by
    cases h
    exact .nil
  | d :: ds, _, h => by
    cases h with
    | cons h1 h2 => exact .cons (dp_ext e d _ h1) (dpAll_ext e ds _ h2)
end
end
/-- a def whose code object is known by its address -/
structure FunC (K : PySem.W.Frag) (x qual : Str) (st : Stmt) (f : Addr) (fd : FuncData) (c : Addr) : Prop where
  ex : ∃ (oc : Value) (od : Option Addr) (kV doc pm : Value) (an : Option Addr) (ct : Value) (osl : Array (Option Value)),
    fd = PySem.W.fnOf x qual (defArgs st) (defBody st) (defScope st) .none kV doc pm an (.ref c) ct ∧ K.lookup f = some ⟨oc, od, .func fd, osl⟩ ∧ PySem.W.codeIn K (.ref c) qual = true
structure DefC (K : PySem.W.Frag) (mg : Str → Option Value) (x : Str) (st : Stmt) (ps : List Str) (c : Addr) : Prop where
  ex : ∃ (f : Addr) (fd : FuncData), FunC K x x st f fd c ∧ mg x = some (.ref f) ∧ PySem.W.keepIn K (.ref f) = true ∧ Binds K fd ps []
section
variable {P : Program} {w : World} {K : PySem.W.Frag} {mg : Str → Option Value} {base : Heap} {k : Nat} {f c : Addr} {fd : FuncData} {sp : Sp} {x qual : Str} {st : Stmt} {N ps : List Str}
theorem DefC.calG (D : DefC K mg x st ps c) (h : ∀ f fd, FunC K x x st f fd c → FnG P w K mg base k f fd ps sp) : CalG P w K mg base k x sp := by
  obtain ⟨f, fd, F, m, kp, b⟩ := D.ex
  exact ⟨f, fd, ps, h f fd F, m, kp, b⟩
theorem FnG.okC (F : FunC K x qual st f fd c) (S : FnScope N ps (defScope st)) (len : ∀ vs H Q E, sp vs H Q E → vs.length = ps.length)
    (hbody : ∀ (A : Around) (outer : List Env) (s : Shared) (H : Hp) (vs : List V) (Q : VK) (E : XK), A.guards = some [] → Room k (A.deeper (PyProof.Rows.envOfC qual (defScope st) s.heap.objs.size f (.ref c))) → sp vs H Q E →
      ∃ t, PSs (cxOf CX0 P w K mg base N qual (defScope st) f (.ref c) A outer s H E).nox (defBody st) t ∧ t { nx := fun _ H' => Q .non H', rt := Q } (start N vs) H) : FnG P w K mg base (k + 1) f fd ps sp := by
  obtain ⟨oc, od, kV, doc, pm, an, ct, osl, rfl, lk, hcd⟩ := F.ex
  refine ⟨len, fun A outer s H args us vs Q E hg hr e0 hb r h => ?_⟩
  refine LamX.run_ofS lk hcd S hr e0 hb r (len _ _ _ _ h) (fun hr' => ?_)
  obtain ⟨t, a, b⟩ := hbody A outer s H vs Q E hg hr' h
  exact ⟨t, a.nox, b⟩
end
/-- what holds between the statements -/
structure Rel (Ts : List (Addr × Str)) (H H1 : Hp) (p c l : Addr) (n : Nat) (u : Int) : Prop where
  S : Sta H1 p c l n u
  T : Tabs Ts H1
  k : KE p l H H1
theorem Rel.kp {Ts : List (Addr × Str)} {H H1 H2 : Hp} {p c l : Addr} {n : Nat} {u v : Int} (R : Rel Ts H H1 p c l n u) (S : Sta H2 p c l n v) (k : Kp p l H1 H2) : Rel Ts H H2 p c l n v := ⟨S, Tabs.kp R.T R.S k, R.k.trans k.ke⟩
theorem Rel.same {Ts : List (Addr × Str)} {H H1 H2 : Hp} {p c l : Addr} {n : Nat} {u : Int} (R : Rel Ts H H1 p c l n u) (e : Same H1 H2) : Rel Ts H H2 p c l n u := R.kp (R.S.mono e) (Kp.of e)
theorem ExtN.t2 {K : PySem.W.Frag} {H H' : Hp} {v : V} {d : PyData} (e : ExtN H H') (h : Dp K H v d) : Dp K H' v d := dp_ext e d v h
theorem ExtN.l {H H' : Hp} {a : Addr} {xs : List V} (e : ExtN H H') (h : H a = some (.lst xs)) : H' a = some (.lst xs) := e _ _ h (by intro ps z; cases z)
theorem ExtN.tp {H H' : Hp} {a : Addr} {xs : List V} (e : ExtN H H') (h : H a = some (.tup xs)) : H' a = some (.tup xs) := e _ _ h (by intro ps z; cases z)
/-- a tuple of a word and data -/
theorem dp_word {K : PySem.W.Frag} {H : Hp} {a : Addr} {x : Str} {v : V} {d : PyData} (h : H a = some (.tup [.str x, v])) (hd : Dp K H v d) : Dp K H (.ref a) (.tuple [.str x, d]) := .tup (SqT.of h) (.cons (.str x) (.cons hd .nil))
theorem dp_lit {K : PySem.W.Frag} {H : Hp} {p : Addr} {a b : Int} : Dp K (upd H p (.tup [.int a, .int b])) (.ref p) (dF (a, b)) := .tup (SqT.of upd_same) (.cons (.int _) (.cons (.int _) .nil))
/-- conditions of a text, told of data without heap -/
def shB (d : PyData) : Bool := d.showable && !d.hasDict && decide (d.depth ≤ 60) && d.leavesShort 2600 && decide (d.weight ≤ 6000)
theorem sh_by {d : PyData} (h : shB d = true) : Sh.Ok d := by
  simp only [shB, Bool.and_eq_true, decide_eq_true_eq, Bool.not_eq_true'] at h
  obtain ⟨⟨⟨⟨h1, h2⟩, h3⟩, h4⟩, h5⟩ := h
  exact Sh.of h1 h2 h3 h4 h5
/-- all but the list at l -/
def KL (l : Addr) (H H' : Hp) : Prop := ∀ b o, H b = some o → b ≠ l → (∀ ps, o ≠ .tbl ps) → H' b = some o
theorem KL.of {l : Addr} {H H' : Hp} (e : ExtN H H') : KL l H H' := fun b o h _ n => e b o h n
theorem KL.trans {l : Addr} {H1 H2 H3 : Hp} (a : KL l H1 H2) (b : KL l H2 H3) : KL l H1 H3 := fun x o e n1 n2 => b x o (a x o e n1 n2) n1 n2
theorem KL.upd {l : Addr} {H : Hp} {o : HO} : KL l H (upd H l o) := fun b o e n _ => (upd_ne n).trans e
theorem KL.ext {l : Addr} {H0 H1 H2 : Hp} (e : ExtN H0 H1) (h : H0 l = none) (k : KL l H1 H2) : ExtN H0 H2 := fun b o z n => k b o (e b o z n) (ne_of_none z h) n
theorem KL.tp {l p : Addr} {H H' : Hp} {xs ys : List V} (k : KL l H H') (hl : H l = some (.lst ys)) (h : H p = some (.tup xs)) : H' p = some (.tup xs) := k p _ h (ne_of h hl (by intro z; cases z)) (by intro ps z; cases z)
theorem tabs_app {Ts : List (Addr × Str)} {H : Hp} {l : Addr} {xs ys : List V} (T : Tabs Ts H) (hl : H l = some (.lst xs)) : Tabs Ts (upd H l (.lst ys)) := by
  intro q hq
  obtain ⟨ps, h1, h2, h3⟩ := T q hq
  refine ⟨ps, (upd_ne (ne_of h1 hl (by intro z; cases z))).trans h1, h2, fun pos cv hc => ?_⟩
  obtain ⟨c, e1, e2⟩ := h3 pos cv hc
  exact ⟨c, e1, (upd_ne (ne_of e2 hl (by unfold CodeO; intro z; cases z))).trans e2⟩
theorem dpAll_app {K : PySem.W.Frag} {H : Hp} : ∀ {ds es : List PyData} {xs ys : List V}, DpAll K H xs ds → DpAll K H ys es → DpAll K H (xs ++ ys) (ds ++ es)
  | _, _, _, _, .nil, h => h
  | _, _, _, _, .cons h1 h2, h => .cons h1 (dpAll_app h2 h)
/-- the words of the classes -/
inductive RowOf (C : Cls) : Str → Str → Addr → Prop
  | r : RowOf C "row" "given" C.R
  | p : RowOf C "paper" "part" C.P
  | s : RowOf C "none" "paper" C.S
section
variable {P : Program} {w : World} {K : PySem.W.Frag} {mg : Str → Option Value} {g c : Addr} {C : Cls} {Q : VK} {H : Hp} {v : V} {wd fld : Str}
theorem out_of (Hk : HeardK K mg g C) (R : RowOf C wd fld c) (h : ∀ p H3, Same H H3 → H3 p = some (.tup [.str wd, v]) → Q (.ref p) H3) : OutW (Hd.hE K Q (rowsH C)) c fld v H := by
  intro d hd
  have s1 := same_new (o := .xd [(fld, v)]) hd
  cases R with
  | r => exact ⟨true, Hk.xRR, fun _ => ⟨rfl, d, _, v, rfl, upd_same, rfl, fun p hp => h p _ (s1.trans (same_new hp)) upd_same⟩, fun z => by cases z⟩
  | p => exact ⟨false, Hk.xPR, (fun z => by cases z), fun _ => ⟨true, Hk.xPP, fun _ => ⟨rfl, d, _, v, rfl, upd_same, rfl, fun p hp => h p _ (s1.trans (same_new hp)) upd_same⟩, fun z => by cases z⟩⟩
  | s => exact ⟨false, Hk.xSR, (fun z => by cases z), fun _ => ⟨false, Hk.xSP, (fun z => by cases z), fun _ => ⟨true, Hk.xSS, fun _ => ⟨rfl, d, _, v, rfl, upd_same, rfl, fun p hp => h p _ (s1.trans (same_new hp)) upd_same⟩, fun z => by cases z⟩⟩⟩
end
end Rs


set_option Elab.async false
set_option linter.all false
set_option maxRecDepth 100000
set_option maxHeartbeats 1000000
namespace Rs
open PySem L2 Bs Fq LamX RZ
abbrev sLIsPoly : Stmt := top 81
def lpB (n : Nat) (w : List F) : Bool := decide (2 * w.length ≤ n + 1) && decide (Pn w)
theorem eqv_fq {q r : F} : PyData.eqv (dF q) (dF r) = decide (q = r) := eqv_frac
theorem eqv_tup0 (qs : List F) : PyData.eqv (dP qs) (.tuple []) = qs.isEmpty := by
  cases qs <;> rfl
/-- _law_is_poly(row, thing) -/
def spLIsPoly (K : PySem.W.Frag) : Sp := fun vs H Q _ => ∃ (x y : V) (row w : List F) (D : Int) (n : Nat), vs = [x, y] ∧ Po K H x row ∧ Po K H y w ∧ Ca D n w ∧ Bd D n ∧ ∀ H', Same H H' → Q (.bl (lpB row.length w)) H'
section
variable {P : Program} {w : World} {K : PySem.W.Frag} {mg : Str → Option Value} {base : Heap} {f : Addr} {fd : FuncData}
theorem scLIsPoly : FnScope ["row", "thing", "one"] ["row", "thing"] (defScope sLIsPoly) := ⟨rfl, rfl, rfl, by decide +kernel, rfl, by decide +kernel, by decide +kernel⟩
theorem ok_lisPoly (F : Fun K "_law_is_poly" "_law_is_poly" sLIsPoly f fd) (T : Blt mg) (LR : Cal P w K mg base 1 "_law_ratio" spLRatio) : FnOk P w K mg base CX0 2 f fd ["row", "thing"] (spLIsPoly K) := by
  refine F.ok scLIsPoly (fun vs H Q E h => ?_) (fun cdv A outer s H vs Q E hr h => ?_)
  · obtain ⟨x, y, qs, ws, _, _, rfl, _⟩ := h
    rfl
  · obtain ⟨x, y, qs, ws, D, n, rfl, ⟨b, xs, rfl, sx, fx⟩, py, hw, bd, kk⟩ := h
    obtain ⟨c, ys, rfl, sy, fy⟩ := id py
    have lx := fx.len
    have ly := fy.len
    refine ⟨_, C8.pss_cut (ps_if (PW.pt (pw_or (pt_not (pt_val (pe_callB call_isi (by rfl) T.isinstance (by decide +kernel) (pa_cons (pv 1) (pa_cons (pe_bltn (v := .ty "tuple") (by rfl) T.tuple (by decide +kernel) rfl) pa_nil)))))
        (pw_or1 (pt_cmpR op_gt (pe_op op_mul pe_int (pe_callB call_len_seq (by rfl) T.len (by decide +kernel) (pa_cons (pv 1) pa_nil))) (pe_op op_add (pe_callB call_len_seq (by rfl) T.len (by decide +kernel) (pa_cons (pv 0) pa_nil)) pe_int) (nomark _))))) (pss_one (ps_ret pe_bl)) pss_nil)
      (C8.pss_cut (ps_for PassesOwn.never rfl (pi_tup (pv 1)) (pg_name (i := 2) scLIsPoly.nd rfl (.inl rfl))
        (pss_one (ps_if (PW.pt (pw_or (pt_not (pt_val (pe_callB call_isi (by rfl) T.isinstance (by decide +kernel) (pa_cons (pv 2) (pa_cons (pe_bltn (v := .ty "tuple") (by rfl) T.tuple (by decide +kernel) rfl) pa_nil)))))
          (pw_or (pt_cmpR op_ne (pe_callB call_len_seq (by rfl) T.len (by decide +kernel) (pa_cons (pv 2) pa_nil)) pe_int (nomark _))
          (pw_or (pt_cmpR op_lt (pe_ix ix_tup (pv 2) pe_int (fun _ _ => rfl)) pe_int (nomark _))
          (pw_or1 (pt_cmpR (op_neD hr.units) (pe_n LR hr (by decide) (by rfl) (pa_cons (pe_ix ix_tup (pv 2) pe_int (fun _ _ => rfl)) (pa_cons (pe_ix ix_tup (pv 2) pe_int (fun _ _ => rfl)) pa_nil))) (pv 2) (nomark _))))))) (pss_one (ps_ret pe_bl)) pss_nil)))
      (pss_one (ps_ret (pe_or (pe_cmpR (op_eqD hr.units) (pv 1) (pe_tup pa_nil) (nomark _)) (pe_one (pe_cmpR (op_neD hr.units) (pe_ix ix_tup (pv 1) (pe_un un_neg pe_int) (fun _ _ => rfl)) (pe_tup (pa_cons pe_int (pa_cons pe_int pa_nil))) (nomark _))))))), ?_⟩
    refine ⟨fun σ H1 => H1 = H ∧ 2 * ws.length ≤ qs.length + 1 ∧ σ = [some (V.ref b), some (V.ref c), none], ?_, ?_⟩
    · have hd := py.dp
      refine ⟨_, rfl, _, _, _, _, _, rfl, .ty _, hd.ty, kitT K _, _, rfl, ?_⟩
      refine iteF ⟨_, rfl, c, _, rfl, .inr sy, _, _, rfl, rfl, .inl ⟨by decide, by decide⟩, _, rfl, b, _, rfl, .inr sx, _, _, rfl, rfl, _, _, rfl, rfl, _, rfl, ?_⟩
      refine ite2 (fun cc => ?_) (fun cc => ⟨rfl, ?_, rfl⟩)
      · have h := of_decide_eq_true cc
        have e : lpB qs.length ws = false := by
          unfold lpB
          rw [decide_eq_false (by omega)]
          rfl
        have := kk H (fun _ _ z => z)
        rw [e] at this
        exact this
      · exact Classical.byContradiction fun z => cc (decide_eq_true (by omega))
    rintro σ H1 ⟨rfl, short, rfl⟩
    refine ⟨fun σ H2 => Same H1 H2 ∧ ∃ v2, σ = [some (V.ref b), some (V.ref c), v2], ?_, ?_⟩
    · refine ⟨_, rfl, c, rfl, ⟨_, sy⟩, for_tup (K := K) (a := c) (xs := ys) (fun i σ H2 => Same H1 H2 ∧ ∃ v2, σ = [some (V.ref b), some (V.ref c), v2]) ⟨fun _ _ z => z, none, rfl⟩ (fun i σ H2 _ q => Bs.Same.t q.1 sy) ?_ ?_⟩
      · rintro i u σ H2 hu ⟨s2, v2, rfl⟩
        have hi := (List.getElem?_eq_some_iff.mp hu).1
        obtain ⟨u', q, e1, e2, fq⟩ := fy.get (i := i) (by omega)
        rw [hu] at e1
        cases e1
        have cq := hw q (List.mem_of_getElem? e2)
        have dq := cb_dl cq bd
        have fq2 := fq.mono s2
        have hd := fq2.dp
        obtain ⟨a1, rfl, s1⟩ := id fq2
        refine ⟨_, rfl, _, _, _, _, _, rfl, .ty _, hd.ty, kitT K _, _, rfl, ?_⟩
        refine iteF ⟨_, rfl, a1, _, rfl, .inr s1, rfl, _, rfl, ?_⟩
        refine ite2 (fun cc => absurd cc (by simp)) (fun _ => ?_)
        refine ⟨_, rfl, a1, _, 1, _, rfl, rfl, s1, atI_nat (j := 1) rfl, _, _, rfl, rfl, _, rfl, ?_⟩
        refine ite2 (fun cc => ?_) (fun _ => ?_)
        · have := of_decide_eq_true cc
          have := dq.pos
          omega
        refine ⟨_, rfl, a1, _, 0, _, rfl, rfl, s1, atI_nat (j := 0) rfl, _, rfl, a1, _, 1, _, rfl, rfl, s1, atI_nat (j := 1) rfl, _, _, rfl, dq.pos, dq.low.mono (by decide), fun p hp => ?_⟩
        have s3 := same_new (o := fr (red q.1 q.2)) hp
        refine ⟨_, rfl, dF (red q.1 q.2), dF q, (Fr.of upd_same).dp, (fq2.mono s3).dp, shaped_dF _, shaped_dF _, _, rfl, ?_⟩
        rw [red_of cq.ok, eqv_fq, decide_eq_true rfl]
        exact iteF ⟨s2.trans (by rw [red_of cq.ok] at s3; exact s3), _, rfl⟩
      · rintro σ H2 h
        exact h
    rintro σ H2 ⟨s2, v2, rfl⟩
    have py2 := py.mono s2
    refine ⟨_, rfl, (by show 0 ≤ sizeLine; decide), fun p hp => ?_⟩
    have s3 := same_new (o := .tup []) hp
    refine ⟨dP ws, .tuple [], (py2.mono s3).dp, .tup (SqT.of upd_same) .nil, shaped_dP ws, rfl, _, rfl, ?_⟩
    rw [eqv_tup0]
    have k2 := kk _ (s2.trans s3)
    unfold lpB at k2
    rw [decide_eq_true short, Bool.true_and] at k2
    cases ws with
    | nil => exact iteT (by rw [decide_eq_true (show Pn [] from .inl rfl)] at k2; exact k2)
    | cons q qs' =>
      refine iteF ?_
      obtain ⟨u, r, g1, g2, g3⟩ := (fy.mono (s2.trans s3)).get (i := (q :: qs').length - 1) (by rw [List.length_cons]; omega)
      have yne : ys ≠ [] := fun z => by
        rw [z] at ly
        cases ly
      refine ⟨_, rfl, _, rfl, c, ys, _, u, rfl, rfl, Bs.Same.t (s2.trans s3) sy, atI_neg1 yne (by rw [ly]; exact g1), (by show 2 ≤ sizeLine; decide), fun p2 hp2 => ?_⟩
      have s4 := same_new (o := .tup [.int 0, .int 1]) hp2
      refine ⟨dF r, dF (0, 1), (g3.mono s4).dp, (Fr.of (q := (0, 1)) upd_same).dp, rfl, rfl, ?_⟩
      have k3 := kk _ ((s2.trans s3).trans s4)
      unfold lpB at k3
      rw [decide_eq_true short, Bool.true_and] at k3
      rw [eqv_nought]
      have er : co (q :: qs') ((q :: qs').length - 1) = r := co_get g2
      have e : (!decide (r = (0, 1))) = decide (Pn (q :: qs')) := by
        by_cases z : r = (0, 1)
        · rw [decide_eq_true z]
          refine (decide_eq_false ?_).symm
          rintro (y | y)
          · cases y
          · exact y (er.trans z)
        · rw [decide_eq_false z]
          exact (decide_eq_true (show Pn (q :: qs') from .inr (fun y => z (er.symm.trans y)))).symm
      rw [e]
      exact k3
end
end Rs


set_option Elab.async false
set_option linter.all false
set_option maxRecDepth 100000
set_option maxHeartbeats 1000000
namespace Rs
open PySem L2 Bs Fq LamX RZ
abbrev sDue : Stmt := top 82
/-- papers that the law judges -/
inductive Sheet : PyData → Prop
  | lad {p : PyData} : SeqAt.shaped (.list [p]) = true → Sheet (.tuple [.str wL, p])
  | sq {w : List F} : SqOk w → Pn w → Sheet (.tuple [.str wS, dP w])
  | rs {w : List F} {k : Nat} : SqOk w → Pn w → k < 16 → Sheet (.tuple [.str wR, dP w, .int k])
def wordD : PyData → Str
  | .tuple (.str x :: _) => x
  | _ => ""
def lawB (qs : List F) (J : Nat) : PyData → Bool
  | .tuple [.str x, p] => if x = wL then PyData.eqv (.list [p]) (.list (hadD qs J)) else lpB qs.length (unP p) && decide (sq2 qs 0 (unP p) (unP p) < 0)
  | .tuple [_, p, .int k] => lpB qs.length (unP p) && (!(unP p).isEmpty && (decide (sq2 qs 0 (unP p) (unP p) = 0) && decide (k.toNat ∈ misF (unP p) qs)))
  | _ => false
def dueD (qs : List F) (J : Nat) (d : PyData) : PyData := if lawB qs J d = true then .list [.str (wordD d)] else .tuple [.str "paper", .str (wordD d)]
/-- _law_due(row, paper) -/
def spDue (K : PySem.W.Frag) : Sp := fun vs H Q _ => ∃ (x y : V) (qs : List F) (d : PyData), vs = [x, y] ∧ Po K H x qs ∧ RowOk qs ∧ Dp K H y d ∧ Sheet d ∧ ∀ H' u J, Same H H' → Clm qs J → Dp K H' u (dueD qs J d) → Q u H'
def rRepI : List V → Hp → VK → Prop := fun xs H Q => ∃ i : Int, xs = [.int i] ∧ i.natAbs.log2 < 1920 ∧ Q (.str (toString i)) H
theorem str_int {i j : Nat} (hi : i < 16) (hj : j < 16) : decide (V.str (toString (i : Int)) = V.str (toString (j : Int))) = decide (i = j) := by
  have h : ∀ i j : Fin 16, decide (V.str (toString ((i : Nat) : Int)) = V.str (toString ((j : Nat) : Int))) = decide ((i : Nat) = (j : Nat)) := by decide +kernel
  exact h ⟨i, hi⟩ ⟨j, hj⟩
def restD : PyData → List PyData
  | .tuple (_ :: ds) => ds
  | _ => []
theorem log_int {i : Nat} (hi : i < 16) : ((i : Int)).natAbs.log2 < 1920 := by
  have h : ∀ i : Fin 16, (((i : Nat) : Int)).natAbs.log2 < 1920 := by decide +kernel
  exact h ⟨i, hi⟩
theorem tru {b c : Bool} (h : b = c) {A B : Prop} (hc : if c = true then A else B) : if b = true then A else B := h ▸ hc
theorem lawB_sq (qs w : List F) (J : Nat) : lawB qs J (.tuple [.str wS, dP w]) = (lpB qs.length w && decide (sq2 qs 0 w w < 0)) := by
  show (if wS = wL then PyData.eqv (.list [dP w]) (.list (hadD qs J)) else lpB qs.length (unP (dP w)) && decide (sq2 qs 0 (unP (dP w)) (unP (dP w)) < 0)) = _
  rw [if_neg (by decide +kernel), unP_dP]
theorem lawB_rs (qs w : List F) (J k : Nat) : lawB qs J (.tuple [.str wR, dP w, .int k]) = (lpB qs.length w && (!w.isEmpty && (decide (sq2 qs 0 w w = 0) && decide (k ∈ misF w qs)))) := by
  show (lpB qs.length (unP (dP w)) && (!(unP (dP w)).isEmpty && (decide (sq2 qs 0 (unP (dP w)) (unP (dP w)) = 0) && decide (((k : Nat) : Int).toNat ∈ misF (unP (dP w)) qs)))) = _
  rw [unP_dP, Int.toNat_natCast]
theorem lawB_lad (qs : List F) (p : PyData) (J : Nat) : lawB qs J (.tuple [.str wL, p]) = PyData.eqv (.list [p]) (.list (hadD qs J)) := by
  show (if wL = wL then PyData.eqv (.list [p]) (.list (hadD qs J)) else (lpB qs.length (unP p) && decide (sq2 qs 0 (unP p) (unP p) < 0))) = _
  rw [if_pos rfl]
theorem shaped_had (qs : List F) (J : Nat) : SeqAt.shaped (.list (hadD qs J)) = true := by
  unfold hadD
  split
  · rw [shaped_iff]
    have h1 := can_dP (lvlsC qs J)
    have h2 := can_dP (stpsC qs J)
    refine ⟨?_, ?_⟩
    · simp [PyData.canLay0, PyData.canLayAll0, dLad, dF, h1.1, h2.1]
    · simp only [PyData.depth, PyData.depthAll, dLad, dF]
      omega
  · rfl
theorem prod_self {D : Int} {a : Nat} {w qs : List F} (h : Ca D a w) (R : RowOk qs) : sumBy (prodL w w) qs = rf (sq2 qs 0 w w) := by
  by_cases n : w = []
  · subst n
    show sumF (0, 1) (List.zipWith mul [] qs) = rf (sm _ 0)
    exact rf_zero.symm
  · exact prodL_by h h n n R
theorem clm_ex {qs : List F} (R : RowOk qs) : ∃ J, Clm qs J := by
  have go : ∀ m j, m + 2 * j = 20 → (∀ i, i < j → 0 < nor (rv qs) i ∧ 2 * i + 1 < qs.length) → ∃ J, Clm qs J := by
    intro m
    induction m using Nat.strongRecOn with
    | _ m ih =>
      intro j e hp
      by_cases c : 2 * j + 1 < qs.length ∧ 0 < nor (rv qs) j
      · have r8 := R.l
        refine ih (m - 2) (by omega) (j + 1) (by omega) fun i hi => ?_
        rcases Nat.lt_or_ge i j with z | z
        · exact hp i z
        · rw [show i = j by omega]
          exact ⟨c.2, c.1⟩
      · exact ⟨j, fun i hi => (hp i hi).1, fun i hi => (hp i hi).2, fun h z => c ⟨h, z⟩⟩
  exact go 20 0 rfl fun i hi => absurd hi (by omega)
abbrev NDu : List Str := ["row", "paper", "holds", "square", "at", "k"]
section
variable {P : Program} {w : World} {K : PySem.W.Frag} {mg : Str → Option Value} {base : Heap} {f : Addr} {fd : FuncData}
theorem scDue : FnScope NDu ["row", "paper"] (defScope sDue) := ⟨rfl, rfl, rfl, by decide +kernel, rfl, by decide +kernel, by decide +kernel⟩
theorem ok_due (F : Fun K "_law_due" "_law_due" sDue f fd) (T : Blt mg) (HD : Cal P w K mg base 6 "_law_had" (spHad K)) (LIP : Cal P w K mg base 2 "_law_is_poly" (spLIsPoly K)) (SB : Cal P w K mg base 4 "_law_sum_by" (spLSumBy K)) (PR : Cal P w K mg base 3 "_law_product" (spLProd K)) (MI : Cal P w K mg base 5 "_law_misfits" (spMisfits K)) :
    FnOk P w K mg base CX0 7 f fd ["row", "paper"] (spDue K) := by
  refine F.ok scDue (fun vs H Q E h => ?_) (fun cdv A outer s H vs Q E hr h => ?_)
  · obtain ⟨x, y, qs, d, rfl, _⟩ := h
    rfl
  · obtain ⟨x, y, qs, d, rfl, px, R, hy, sh, kk⟩ := h
    obtain ⟨b, xs, rfl, sx, fx⟩ := id px
    obtain ⟨J, CJ⟩ := clm_ex R
    have r8 := R.l
    have lx := fx.len
    refine ⟨_, C8.pss_cut (ps_if (pt_cmpR op_eq (pe_ix ix_tup (pv 1) pe_int (fun _ _ => rfl)) pe_str (nomark _))
        (pss_one (ps_set (i := 2) scDue.nd rfl (Or.inl rfl) (pe_cmpR (op_eqD hr.units) (pe_lst (pa_cons (pe_ix ix_tup (pv 1) pe_int (fun _ _ => rfl)) pa_nil)) (pe_n HD hr (by decide) (by rfl) (pa_cons (pv 0) pa_nil)) (nomark _))))
        (pss_one (ps_if (pt_not (pt_val (pe_n LIP hr (by decide) (by rfl) (pa_cons (pv 0) (pa_cons (pe_ix ix_tup (pv 1) pe_int (fun _ _ => rfl)) pa_nil)))))
          (pss_one (ps_set (i := 2) scDue.nd rfl (Or.inl rfl) pe_bl))
          (C8.pss_cut (ps_set (i := 3) scDue.nd rfl (Or.inl rfl) (pe_n SB hr (by decide) (by rfl) (pa_cons (pv 0) (pa_cons (pe_n PR hr (by decide) (by rfl) (pa_cons (pe_callTy call_list_of (by rfl) T.list (by decide +kernel) (pa_cons (pe_ix ix_tup (pv 1) pe_int (fun _ _ => rfl)) pa_nil)) (pa_cons (pe_callTy call_list_of (by rfl) T.list (by decide +kernel) (pa_cons (pe_ix ix_tup (pv 1) pe_int (fun _ _ => rfl)) pa_nil)) pa_nil))) pa_nil))))
          (C8.pss_cut (ps_set (i := 2) scDue.nd rfl (Or.inl rfl) (pe_cmpR op_lt (pe_ix ix_tup (pv 3) pe_int (fun _ _ => rfl)) pe_int (nomark _)))
          (pss_one (ps_if (pt_cmpR op_eq (pe_ix ix_tup (pv 1) pe_int (fun _ _ => rfl)) pe_str (nomark _))
            (C8.pss_cut (ps_setLc (i := 4) (own := [("k", 5)]) (g := gName 5) (tt := tTest (tOp rEq (tCB rRepI (tCons (tVar 5) tNil)) (tCB rRepI (tCons (tOp (rIxT K) (tVar 1) (tC (.int 2))) tNil)))) (by rfl) scDue.nd rfl rfl (sw_true rfl rfl rfl (by decide +kernel)) (pi_list (pe_n MI hr (by decide) (by rfl) (pa_cons (pv 0) (pa_cons (pe_ix ix_tup (pv 1) pe_int (fun _ _ => rfl)) pa_nil)))) (blkOk_by (N := NDu) (sc := defScope sDue) (by decide +kernel))
              (fun _ _ _ _ _ => pg_name (i := 5) scDue.nd rfl (Or.inl rfl)) (fun _ _ _ _ _ => pts_one (pt_cmpR op_eq (pe_callB (r := rRepI) SkE.call_repr_int (by rfl) T.repr (by decide +kernel) (pa_cons (pv 5) pa_nil)) (pe_callB (r := rRepI) SkE.call_repr_int (by rfl) T.repr (by decide +kernel) (pa_cons (pe_ix (r := rIxT K) ix_tup (pv 1) pe_int (fun _ _ => rfl)) pa_nil)) (nomark _)))
              (fun _ _ _ _ _ => pv 5))
            (pss_one (ps_set (i := 2) scDue.nd rfl (Or.inl rfl) (pe_and (pe_cmpR (op_neD hr.units) (pe_ix ix_tup (pv 1) pe_int (fun _ _ => rfl)) (pe_tup pa_nil) (nomark _)) (pe_and (pe_cmpR (op_eqD hr.units) (pv 3) (pe_tup (pa_cons pe_int (pa_cons pe_int pa_nil))) (nomark _)) (pe_one (pe_cmpR (op_neD hr.units) (pv 4) (pe_lst pa_nil) (nomark _)))))))) pss_nil)))))))
      (pss_one (ps_ret (pe_ifExp (pt_val (pv 2)) (pe_lst (pa_cons (pe_ix ix_tup (pv 1) pe_int (fun _ _ => rfl)) pa_nil)) (pe_tup (pa_cons pe_str (pa_cons (pe_ix ix_tup (pv 1) pe_int (fun _ _ => rfl)) pa_nil)))))), ?_⟩
    obtain ⟨c, ys, x0, rfl, sy, ew, dy⟩ : ∃ (c : Addr) (ys : List V) (x0 : Str), y = .ref c ∧ SqT K H c (V.str x0 :: ys) ∧ wordD d = x0 ∧ DpAll K H ys (restD d) := by
      cases sh <;>
      · obtain ⟨a, ys, rfl, s, h⟩ := dp_word2 hy
        exact ⟨a, ys, _, rfl, s, rfl, h⟩
    have hs : ∀ {H' : Hp}, Same H H' → SqT K H' c (V.str x0 :: ys) := fun e => Bs.Same.t e sy
    refine ⟨fun σ H1 => ∃ v3 v4 v5, Same H H1 ∧ σ = [some (V.ref b), some (V.ref c), some (V.bl (lawB qs J d)), v3, v4, v5], ?_, ?_⟩
    · have main : (∃ p, d = .tuple [.str wL, p] ∧ SeqAt.shaped (.list [p]) = true) ∨ (∃ w : List Fq.F, SqOk w ∧ Pn w ∧ x0 ≠ wL ∧ ∃ ds, restD d = dP w :: ds ∧ ((x0 = wS ∧ d = .tuple [.str wS, dP w]) ∨ (x0 = wR ∧ ∃ k : Nat, k < 16 ∧ d = .tuple [.str wR, dP w, .int k]))) := by
        cases sh with
        | lad h => exact .inl ⟨_, rfl, h⟩
        | sq a1 a2 =>
          refine .inr ⟨_, a1, a2, ?_, _, rfl, .inl ⟨ew.symm, rfl⟩⟩
          rw [← ew]
          show wS ≠ wL
          decide +kernel
        | rs a1 a2 a3 =>
          refine .inr ⟨_, a1, a2, ?_, _, rfl, .inr ⟨ew.symm, _, a3, rfl⟩⟩
          rw [← ew]
          show wR ≠ wL
          decide +kernel
      rcases main with ⟨p, rfl, shp⟩ | ⟨ws, so, pn, nl, ds, er, fin⟩
      · have ew' : x0 = wL := ew.symm
        subst ew'
        cases dy with
        | cons h1 h2 =>
          cases h2
          rename_i v1
          refine ⟨_, rfl, c, _, 0, _, rfl, rfl, sy, atI_nat (j := 0) rfl, rfl, _, rfl, ?_⟩
          refine ite2 (fun _ => ?_) (fun cc => absurd (decide_eq_true rfl) cc)
          refine ⟨_, rfl, c, _, 1, v1, rfl, rfl, sy, atI_nat (j := 1) rfl, (by show 1 ≤ sizeLine; decide), fun p1 hp1 => ?_⟩
          have s1 := same_new (o := .lst [v1]) hp1
          refine ⟨_, rfl, .ref b, qs, rfl, px.mono s1, R, fun H2 p2 ys2 J' s2 CJ' sqq dp2 => ?_⟩
          obtain rfl := Clm.uniq CJ' CJ
          refine ⟨.list [p], .list (hadD qs J'), .lst (SqL.of (s2 _ _ upd_same)) (.cons (dps (s1.trans s2) h1) .nil), .lst sqq dp2, shp, shaped_had qs J', ?_⟩
          have el := lawB_lad qs p J'
          exact ⟨_, _, _, s1.trans s2, by rw [el]; rfl⟩
      · rw [er] at dy
        cases dy with
        | cons h1 h2 =>
          rename_i v1 ys'
          have pw := dp_po h1
          obtain ⟨a1, zs, rfl, sz, fz⟩ := id pw
          obtain ⟨D, a, ca, bd, bd2, bd3, bd4⟩ := so.ex
          refine ⟨_, rfl, c, _, 0, _, rfl, rfl, sy, atI_nat (j := 0) rfl, rfl, _, rfl, ?_⟩
          refine ite2 (fun cc => absurd (V.str.inj (of_decide_eq_true cc)) nl) (fun _ => ?_)
          refine ⟨_, rfl, _, rfl, c, _, 1, _, rfl, rfl, sy, atI_nat (j := 1) rfl, .ref b, .ref a1, qs, ws, D, a, rfl, px, pw, ca, bd, fun H1 s1 => ⟨_, rfl, ?_⟩⟩
          cases el : lpB qs.length ws with
          | false =>
            refine iteT ?_
            have e : lawB qs J d = false := by
              rcases fin with ⟨_, rfl⟩ | ⟨_, k, _, rfl⟩
              · rw [lawB_sq, el]
                rfl
              · rw [lawB_rs, el]
                rfl
            exact ⟨none, none, none, s1, by rw [e]; rfl⟩
          | true =>
            refine iteF ?_
            have ls : ws.length ≤ 4 := by
              unfold lpB at el
              rw [Bool.and_eq_true, decide_eq_true_eq] at el
              omega
            have bdM : Bd 256 30 := Bd.of (by decide) (N := 8) (by decide) (by decide) (by decide)
            -- the square
            refine ⟨fun σ H2 => ∃ u, Same H H2 ∧ Fr K H2 u (rf (sq2 qs 0 ws ws)) ∧ σ = [some (V.ref b), some (V.ref c), none, some u, none, none], ?_, ?_⟩
            · refine ⟨_, rfl, _, rfl, c, _, 1, _, rfl, rfl, hs s1, atI_nat (j := 1) rfl, a1, zs, rfl, .inr (Bs.Same.t s1 sz), fun p1 hp1 => ?_⟩
              have s2 := same_new (o := .lst zs) hp1
              have s12 := s1.trans s2
              refine ⟨_, rfl, c, _, 1, _, rfl, rfl, hs s12, atI_nat (j := 1) rfl, a1, zs, rfl, .inr (Bs.Same.t s12 sz), fun p2 hp2 => ?_⟩
              have s3 := same_new (o := .lst zs) hp2
              have s13 := s12.trans s3
              refine ⟨.ref p1, .ref p2, ws, ws, D, D, a, a, rfl, ⟨p1, zs, rfl, SqL.of (s3 _ _ upd_same), fz.mono s13⟩, ⟨p2, zs, rfl, SqL.of upd_same, fz.mono s13⟩, ca, ca, bd, bd, bd2, by omega, by omega, fun H4 vp s4 lvp => ?_⟩
              have cpr := prodL_ca ca ca
              have hmul : ws.length * ws.length ≤ 16 := Nat.mul_le_mul ls ls
              have lpr : (prodL ws ws).length ≤ 8 := Nat.le_trans prodL_len (by omega)
              refine ⟨.ref b, vp, prodL ws ws, qs, D * D, 256, a + a + 20, 30, rfl, px.mono (s13.trans s4), lvp, cpr.mono (by omega), R.c, bd2.mono (by omega), bdM, bd3.mono (by omega), by omega, fun H5 u s5 fu => ?_⟩
              rw [prod_self ca R] at fu
              exact ⟨u, (s13.trans s4).trans s5, fu, rfl⟩
            rintro σ H2 ⟨u, s2, fu, rfl⟩
            -- below nought
            refine ⟨fun σ H3 => H3 = H2 ∧ σ = [some (V.ref b), some (V.ref c), some (V.bl (decide (sq2 qs 0 ws ws < 0))), some u, none, none], ?_, ?_⟩
            · obtain ⟨au, rfl, su⟩ := id fu
              refine ⟨_, rfl, au, _, 0, _, rfl, rfl, su, atI_nat (j := 0) rfl, _, _, rfl, rfl, ?_⟩
              refine ⟨rfl, ?_⟩
              have e : decide ((rf (sq2 qs 0 ws ws)).1 < 0) = decide (sq2 qs 0 ws ws < 0) := decide_eq_decide.mpr rf_top_neg
              rw [← e]
              rfl
            rintro σ H3 ⟨rfl, rfl⟩
            refine ⟨_, rfl, c, _, 0, _, rfl, rfl, hs s2, atI_nat (j := 0) rfl, rfl, _, rfl, ?_⟩
            rcases fin with ⟨rfl, rfl⟩ | ⟨rfl, k, k16, rfl⟩
            · refine ite2 (fun cc => absurd cc (by decide +kernel)) (fun _ => ?_)
              have e : lawB qs J (.tuple [.str wS, dP ws]) = decide (sq2 qs 0 ws ws < 0) := by rw [lawB_sq, el, Bool.true_and]
              rw [e]
              exact ⟨_, _, _, s2, rfl⟩
            · refine ite2 (fun _ => ?_) (fun cc => absurd (decide_eq_true rfl) cc)
              have e : lawB qs J (.tuple [.str wR, dP ws, .int k]) = (!ws.isEmpty && (decide (sq2 qs 0 ws ws = 0) && decide (k ∈ misF ws qs))) := by rw [lawB_rs, el, Bool.true_and]
              rw [e]
              cases er
              cases h2 with
              | cons h3 h4 =>
                cases h4
                cases h3
                -- where it misses
                refine ⟨fun σ H4 => ∃ L, Same H3 H4 ∧ SqL K H4 L (((misF ws qs).filter fun j => decide (j = k)).map fun k : Nat => V.int k) ∧ σ = [some (V.ref b), some (V.ref c), some (V.bl (decide (sq2 qs 0 ws ws < 0))), some u, some (V.ref L), none], ?_, ?_⟩
                · refine ⟨_, rfl, _, rfl, c, _, 1, _, rfl, rfl, hs s2, atI_nat (j := 1) rfl, .ref b, a1, zs, ws, qs, D, 256, a, 30, rfl, px.mono s2, .inr (Bs.Same.t s2 sz), fz.mono s2, ca, R.c, bd, bdM, ⟨bd4.p, bd4.l, by have := bd3.n; omega⟩, by omega, by omega, fun H4 p s4 sp4 => ?_⟩
                  refine ⟨p, rfl, ⟨_, sp4⟩, fun D' hD => ?_⟩
                  refine lc_list (K := K) (a := p) (xs := (misF ws qs).map fun k : Nat => V.int k) (fun i H5 => Same H4 H5 ∧ H5 D' = some (.lst ((((misF ws qs).take i).filter fun j => decide (j = k)).map fun k : Nat => V.int k))) ⟨same_new hD, upd_same⟩ (fun i H5 _ z => z.1.seq sp4) ?_ ?_
                  · rintro i x H5 hx ⟨s5, hD5⟩
                    rw [List.getElem?_map] at hx
                    cases em : (misF ws qs)[i]? with
                    | none =>
                      rw [em] at hx
                      cases hx
                    | some m =>
                      rw [em] at hx
                      cases hx
                      have hm : m < 16 := by
                        have h := List.mem_filter.mp (List.mem_of_getElem? em)
                        have := List.mem_range.mp h.1
                        omega
                      have s25 := (s2.trans s4).trans s5
                      refine ⟨rfl, ?_⟩
                      refine ⟨_, rfl, (m : Int), rfl, log_int hm, _, rfl, c, _, 2, .int k, rfl, rfl, hs s25, atI_nat (j := 2) rfl, (k : Int), rfl, log_int k16, rfl, _, rfl, ?_⟩
                      rw [str_int hm k16, take_one em, List.filter_append, List.map_append]
                      by_cases cm : m = k
                      · rw [decide_eq_true cm]
                        refine iteT ⟨_, rfl, _, hD5, small1000 ?_, fun b' o e' => (upd_ne (ne_of_none e' hD)).trans (s5 b' o e'), ?_⟩
                        · rw [List.length_map]
                          refine Nat.le_trans (List.length_filter_le _ _) ?_
                          refine Nat.le_trans (List.length_take_le' _ _) ?_
                          refine Nat.le_trans (List.length_filter_le _ _) ?_
                          rw [List.length_range]
                          omega
                        · rw [upd_same, List.filter_cons_of_pos (by exact decide_eq_true cm)]
                          rfl
                      · rw [decide_eq_false cm]
                        refine iteF ⟨s5, ?_⟩
                        rw [List.filter_cons_of_neg (by rw [decide_eq_false cm]; decide), hD5]
                        show _ = some (HO.lst (_ ++ []))
                        rw [List.append_nil]
                  · rintro H5 ⟨s5, hD5⟩
                    rw [List.length_map, List.take_length] at hD5
                    exact ⟨D', s4.trans s5, SqL.of hD5, rfl⟩
                rintro σ H4 ⟨L, s4, sL, rfl⟩
                have s24 := s2.trans s4
                refine ⟨_, rfl, c, _, 1, _, rfl, rfl, hs s24, atI_nat (j := 1) rfl, (by show 0 ≤ sizeLine; decide), fun p5 hp5 => ?_⟩
                have s5 := same_new (o := .tup []) hp5
                refine ⟨dP ws, .tuple [], ((pw.mono s24).mono s5).dp, .tup (SqT.of upd_same) .nil, shaped_dP ws, rfl, _, rfl, ?_⟩
                rw [eqv_tup0]
                cases ee : ws.isEmpty with
                | true => exact iteF ⟨_, _, _, s24.trans s5, rfl⟩
                | false =>
                  refine iteT ?_
                  refine ⟨_, rfl, (by show 2 ≤ sizeLine; decide), fun p6 hp6 => ?_⟩
                  have s6 := same_new (o := .tup [.int 0, .int 1]) hp6
                  have s56 := s5.trans s6
                  refine ⟨dF (rf (sq2 qs 0 ws ws)), dF (0, 1), (fu.mono (s4.trans s56)).dp, (Fr.of (q := (0, 1)) upd_same).dp, rfl, rfl, _, rfl, ?_⟩
                  rw [eqv_nought, show decide (rf (sq2 qs 0 ws ws) = (0, 1)) = decide (sq2 qs 0 ws ws = 0) from decide_eq_decide.mpr rf_eq0]
                  cases e0 : decide (sq2 qs 0 ws ws = 0) with
                  | false => exact iteF ⟨_, _, _, s24.trans s56, rfl⟩
                  | true =>
                    refine iteT ?_
                    refine ⟨_, rfl, (by show 0 ≤ sizeLine; decide), fun p7 hp7 => ?_⟩
                    have s7 := same_new (o := .lst []) hp7
                    have s57 := s56.trans s7
                    refine ⟨.list (dI ((misF ws qs).filter fun j => decide (j = k))), .list [], .lst (s57.seq sL) (dp_dI _), .lst (SqL.of upd_same) .nil, shaped_lI _, rfl, ?_⟩
                    rw [eqv_lI]
                    have e1 : (!((misF ws qs).filter fun j => decide (j = k)).isEmpty) = decide (k ∈ misF ws qs) := by
                      by_cases ck : k ∈ misF ws qs
                      · rw [decide_eq_true ck]
                        have : k ∈ (misF ws qs).filter fun j => decide (j = k) := List.mem_filter.mpr ⟨ck, decide_eq_true rfl⟩
                        cases l : (misF ws qs).filter fun j => decide (j = k) with
                        | nil =>
                          rw [l] at this
                          cases this
                        | cons _ _ => rfl
                      · rw [decide_eq_false ck, List.filter_eq_nil_iff.mpr]
                        · rfl
                        · intro x hx hx2
                          rw [of_decide_eq_true hx2] at hx
                          exact ck hx
                    rw [e1]
                    exact ⟨_, _, _, s24.trans s57, rfl⟩
    · rintro σ H1 ⟨v3, v4, v5, s1, rfl⟩
      refine ⟨_, rfl, _, rfl, ?_⟩
      have k1 := fun H' u (s : Same H H') (h : Dp K H' u (dueD qs J d)) => kk H' u J s CJ h
      unfold dueD at k1
      rw [ew] at k1
      cases e : lawB qs J d with
      | true =>
        rw [e, if_pos rfl] at k1
        refine iteT ⟨_, rfl, c, _, 0, _, rfl, rfl, hs s1, atI_nat (j := 0) rfl, (by show 1 ≤ sizeLine; decide), fun p hp => ?_⟩
        exact k1 _ _ (s1.trans (same_new hp)) (.lst (SqL.of upd_same) (.cons (.str _) .nil))
      | false =>
        rw [e, if_neg (by decide)] at k1
        refine iteF ⟨_, rfl, c, _, 0, _, rfl, rfl, hs s1, atI_nat (j := 0) rfl, (by show 2 ≤ sizeLine; decide), fun p hp => ?_⟩
        exact k1 _ _ (s1.trans (same_new hp)) (.tup (SqT.of upd_same) (.cons (.str _) (.cons (.str _) .nil)))
end
end Rs


set_option Elab.async false
set_option linter.all false
set_option maxRecDepth 100000
set_option maxHeartbeats 1000000
namespace Rs
open PySem L2 Bs Fq LamX RZ
/-! ### what the law holds against what the program holds -/
def dL (T : F) (ls ss : List F) : PyData := .tuple [dF T, dP ls, dP ss]
theorem sqOk_rg {qs : List F} (R : RowOk qs) {J : Nat} (h : J ≤ 3) (n : ∀ i, i < J → 0 < nor (rv qs) i) : SqOk (rg (rv qs) J) := by
  obtain ⟨dd, k1, k2, k3, k4, k5⟩ := rg_dm R h n
  have a0 := aB_le h
  exact ⟨dd, aB J, k1, k2, k3, k4, Bd.of (Int.mul_pos k5.p (by decide)) (natAbs_mul_le (m := 8) k5.l (by decide)) (by omega) (by omega)⟩
theorem sqOk_s3 {w : List F} (h : ∀ q ∈ w, S3 q) : SqOk w := by
  refine ⟨6, 8, fun q hq => ?_, Bd.of (by decide) (N := 3) (by decide) (by decide) (by decide), Bd.of (by decide) (N := 6) (by decide) (by decide) (by decide), Bd.of (by decide) (N := 14) (by decide) (by decide) (by decide), Bd.of (by decide) (N := 11) (by decide) (by decide) (by decide)⟩
  have s := h q hq
  have := s.a
  exact cb_dvd (n := 4) (m := 3) s.ok s.d6 (by decide) (by omega) (by decide) |>.mono (by decide)
theorem lpB_poly {qs w : List F} (R : RowOk qs) (ok : OkA w) (pn : Pn w) : (polyD (dP w) && short qs w) = lpB qs.length w := by
  have r8 := R.l
  unfold lpB short
  rw [decide_eq_true pn, Bool.and_true]
  have e : fracsD 12 (dP w) = decide (w.length ≤ 12) := by
    show (decide (((w.map dF).length : Int) ≤ 12) && (w.map dF).all fracD) = _
    rw [all_frac_of ok, List.length_map, Bool.and_true]
    exact decide_eq_decide.mpr (by omega)
  have e2 : polyD (dP w) = (fracsD 12 (dP w) && lastNz (w.map dF)) := polyD_eq _
  rw [e2, e, lastNz_map, decide_eq_true pn, Bool.and_true]
  by_cases c : 2 * w.length ≤ qs.length + 1
  · rw [decide_eq_true c, decide_eq_true (show w.length ≤ 12 by omega), decide_eq_true (show 2 * (w.length : Int) - 1 ≤ qs.length by omega)]
    rfl
  · rw [decide_eq_false c, decide_eq_false (show ¬ 2 * (w.length : Int) - 1 ≤ qs.length by omega), Bool.and_false]
theorem hold_sq {qs w : List F} (R : RowOk qs) (ok : OkA w) (pn : Pn w) (J : Nat) : holdD qs J (.tuple [.str wS, dP w]) = lawB qs J (.tuple [.str wS, dP w]) := by
  rw [lawB_sq, ← lpB_poly R ok pn]
  show (if wS = wS then sqD qs (dP w) else ladderD (dP w) && PyData.eqv (papD qs J) (.tuple [.str wS, dP w])) = _
  rw [if_pos rfl]
  unfold sqD
  rw [unP_dP, Bool.and_assoc]
theorem hold_rs {qs w : List F} (R : RowOk qs) (so : SqOk w) (pn : Pn w) (J k : Nat) : holdD qs J (.tuple [.str wR, dP w, .int k]) = lawB qs J (.tuple [.str wR, dP w, .int k]) := by
  obtain ⟨D, a, ca, _⟩ := so.ex
  rw [lawB_rs, ← lpB_poly R ca.okA pn, misF_eq ca R.c]
  show rsD qs (dP w) (.int k) = _
  unfold rsD
  rw [unP_dP, rsN_int, Int.toNat_natCast]
  have e1 : (!decide (w.length = 0)) = !w.isEmpty := by
    cases w <;> rfl
  have e2 : decide (k ∈ (List.range (qs.length + 1 - w.length)).filter (miss qs w)) = (decide ((w.length : Int) + (k : Int) ≤ qs.length) && miss qs w k) := by
    by_cases c : (w.length : Int) + (k : Int) ≤ qs.length
    · rw [decide_eq_true c, Bool.true_and]
      cases m : miss qs w k with
      | true => exact decide_eq_true (List.mem_filter.mpr ⟨List.mem_range.mpr (by omega), m⟩)
      | false =>
        refine decide_eq_false fun z => ?_
        have := (List.mem_filter.mp z).2
        rw [m] at this
        cases this
    · rw [decide_eq_false c, Bool.false_and]
      refine decide_eq_false fun z => ?_
      have := List.mem_range.mp (List.mem_filter.mp z).1
      omega
  rw [e1, e2, decide_eq_true (show (0 : Int) ≤ (k : Int) by omega), Bool.true_and]
  cases polyD (dP w) <;> cases w.isEmpty <;> cases short qs w <;> cases decide ((w.length : Int) + (k : Int) ≤ qs.length) <;> cases decide (sq2 qs 0 w w = 0) <;> rfl
/-! ### ladders -/
theorem eqv_fracs : ∀ {w v : List F}, PyData.eqvAll (w.map dF) (v.map dF) = decide (w = v)
  | [], [] => rfl
  | [], _ :: _ => rfl
  | _ :: _, [] => rfl
  | q :: w, r :: v => by
    rw [List.map_cons, List.map_cons]
    show (PyData.eqv (dF q) (dF r) && PyData.eqvAll (w.map dF) (v.map dF)) = _
    rw [eqv_frac, eqv_fracs]
    by_cases c : q = r
    · subst c
      rw [decide_eq_true rfl, Bool.true_and]
      exact decide_eq_decide.mpr ⟨fun h => by rw [h], fun h => (List.cons.inj h).2⟩
    · rw [decide_eq_false c, Bool.false_and]
      exact (decide_eq_false fun h => c (List.cons.inj h).1).symm
theorem eqv_poly {w v : List F} : PyData.eqv (dP w) (dP v) = decide (w = v) := eqv_fracs
theorem eqv_pap_lad (p q : PyData) : PyData.eqv (.tuple [.str wL, p]) (.tuple [.str wL, q]) = PyData.eqv p q := by
  show (PyData.eqv (.str wL) (.str wL) && (PyData.eqv p q && true)) = _
  rw [show PyData.eqv (.str wL) (.str wL) = true from by decide +kernel, Bool.true_and, Bool.and_true]
theorem top_nor {qs : List F} {J k : Nat} (C : Clm qs J) (h : k + 1 < cnt qs J) : 0 < nor (rv qs) k := C.pos k (by
  unfold cnt at h
  split at h <;> omega)
theorem stp_succ (r : Nat → Rat) (k : Nat) : stp r (k + 1) = nor r (k + 1) / nor r k := if_neg (by omega)
theorem div_pos' {x y : Rat} (h : 0 < x) (k : 0 < y) : 0 < x / y := by
  rw [Rat.div_def]
  exact Rat.mul_pos h (Rat.inv_pos.mpr k)
theorem sF_pos {qs : List F} {k : Nat} (h : 0 < nor (rv qs) k) (h1 : 0 < nor (rv qs) (k + 1)) : 0 < (sF qs (k + 1)).1 := by
  refine rf_top_pos.mpr ?_
  rw [stp_succ]
  exact div_pos' h1 h
theorem above_stps {qs : List F} {n : Nat} (h : ∀ k, k < n + 1 → 0 < nor (rv qs) k) : above ((List.range n).map fun k => sF qs (k + 1)) = true := by
  unfold above
  rw [List.all_eq_true]
  intro q hq
  obtain ⟨k, hk, rfl⟩ := List.mem_map.mp hq
  have := List.mem_range.mp hk
  exact decide_eq_true (sF_pos (h k (by omega)) (h (k + 1) (by omega)))
theorem stps_co {qs : List F} {n k : Nat} (h : k < n) : co ((List.range n).map fun k => sF qs (k + 1)) k = sF qs (k + 1) := co_get (rng_get (f := fun k => sF qs (k + 1)) h)
theorem fracs5 {w : List F} (ok : OkA w) (l : w.length ≤ 5) : fracsD 5 (dP w) = true := by
  show (decide (((w.map dF).length : Int) ≤ 5) && (w.map dF).all fracD) = true
  rw [all_frac_of ok, List.length_map, decide_eq_true (by omega)]
  rfl
theorem pos_row {qs : List F} (R : RowOk qs) : posD (dF (co qs 0)) = true := by
  unfold posD
  rw [fracD_dF (R.c.co 0).ok]
  exact decide_eq_true R.p
theorem okA_lF (qs : List F) (n : Nat) : OkA ((List.range n).map (lF qs)) := fun q hq => by
  obtain ⟨k, _, rfl⟩ := List.mem_map.mp hq
  exact rf_ok _
theorem okA_sF (qs : List F) (n : Nat) : OkA ((List.range n).map fun k => sF qs (k + 1)) := fun q hq => by
  obtain ⟨k, _, rfl⟩ := List.mem_map.mp hq
  exact rf_ok _
theorem lad_ok {qs : List F} {J : Nat} (R : RowOk qs) (C : Clm qs J) (h : isLad qs J = true) : ladderD (dLad qs J) = true := by
  obtain ⟨c1, j4, c3⟩ := clm_cnt R C
  have h1 : ¬ last qs J < 0 := by
    unfold isLad at h
    rw [Bool.and_eq_true, Bool.not_eq_true', decide_eq_false_iff_not] at h
    exact h.1
  have ll : (lvlsC qs J).length = J := by unfold lvlsC; rw [List.length_map, List.length_range]
  have ls : (stpsC qs J).length = cnt qs J - 1 := by unfold stpsC; rw [List.length_map, List.length_range]
  show (posD (dF (co qs 0)) && (fracsD 5 (dP (lvlsC qs J)) && (fracsD 5 (dP (stpsC qs J)) && shapeD (dP (lvlsC qs J)) (dP (stpsC qs J))))) = true
  rw [pos_row R, fracs5 (w := lvlsC qs J) (okA_lF qs J) (by rw [ll]; omega), fracs5 (w := stpsC qs J) (okA_sF qs (cnt qs J - 1)) (by rw [ls]; omega), Bool.true_and, Bool.true_and, Bool.true_and]
  by_cases z : last qs J = 0
  · obtain ⟨x1, x2, x3, x4⟩ := clm_last R C (by rw [z]; decide)
    have z' : nor (rv qs) J = 0 := x4.symm.trans z
    have jp : J ≠ 0 := by
      rintro rfl
      have e : nor (rv qs) 0 = val (co qs 0) := by
        show sm (fun i => (if i = 0 then 1 else 0) * sm (fun j => (if j = 0 then 1 else 0) * rv qs (i + j + 0)) 1) 1 = _
        show (0 : Rat) + (1 : Rat) * ((0 : Rat) + (1 : Rat) * rv qs 0) = _
        show _ = rv qs 0
        grind
      have p : 0 < val (co qs 0) := (val_pos (R.c.co 0).ok).mpr R.p
      rw [z'] at e
      rw [← e] at p
      exact absurd p (by decide)
    obtain ⟨m, rfl⟩ : ∃ m, J = m + 1 := ⟨J - 1, by omega⟩
    have es : stpsC qs (m + 1) = (List.range (m + 1)).map fun k => sF qs (k + 1) := by
      unfold stpsC
      rw [x1, Nat.add_sub_cancel]
    have sn : stpsC qs (m + 1) ≠ [] := fun e => by
      rw [e] at ls
      rw [x1] at ls
      cases ls
    have e0 : co (stpsC qs (m + 1)) ((stpsC qs (m + 1)).length - 1) = (0, 1) := by
      rw [ls, x1, show m + 1 + 1 - 1 - 1 = m by omega, es, stps_co (by omega)]
      refine rf_eq0.mpr ?_
      rw [stp_succ, z', Rat.div_def, Rat.zero_mul]
    rw [shape_end sn e0, ll, ls, x1, decide_eq_true (by omega), Bool.true_and, show m + 1 + 1 - 1 - 1 = m by omega, es, ← List.map_take, List.take_range, Nat.min_eq_left (by omega)]
    exact above_stps fun k hk => C.pos k (by omega)
  · have lp : 0 < last qs J := by
      have : ¬ last qs J ≤ 0 := fun w => by
        rcases Rat.le_iff_lt_or_eq.mp w with w | w
        · exact h1 w
        · exact z w
      exact Rat.not_le.mp this
    have all : ∀ k, k < cnt qs J → 0 < nor (rv qs) k := fun k hk => by
      rcases Nat.lt_or_ge (k + 1) (cnt qs J) with w | w
      · exact top_nor C w
      · rw [show k = cnt qs J - 1 by omega]
        exact lp
    have ab : above (stpsC qs J) = true := above_stps fun k hk => all k (by omega)
    have pn : Pn (stpsC qs J) := by
      by_cases e : stpsC qs J = []
      · exact .inl e
      · have l := List.length_pos_iff.mpr e
        refine .inr fun w => ?_
        have e1 : co (stpsC qs J) ((stpsC qs J).length - 1) = sF qs ((cnt qs J - 1 - 1) + 1) := by
          rw [ls]
          exact stps_co (by omega)
        rw [e1] at w
        have := sF_pos (qs := qs) (k := cnt qs J - 1 - 1) (all _ (by omega)) (all _ (by omega))
        rw [w] at this
        exact absurd this (by decide)
    rw [shape_open pn, ll, ls, ab, decide_eq_true j4, Bool.and_true, Bool.true_and, Bool.or_eq_true, decide_eq_true_eq, decide_eq_true_eq]
    omega
end Rs


set_option Elab.async false
set_option linter.all false
set_option maxRecDepth 100000
set_option maxHeartbeats 1000000
namespace Rs
open PySem L2 Bs Fq LamX RZ
theorem eqv_head {x y : Str} {ds es : List PyData} (h : PyData.eqv (.str x) (.str y) = false) : PyData.eqv (.tuple (.str x :: ds)) (.tuple (.str y :: es)) = false := by
  show (PyData.eqv (.str x) (.str y) && PyData.eqvAll ds es) = false
  rw [h, Bool.false_and]
theorem hold_lad {qs : List F} {J : Nat} {p : PyData} (hp : isLad qs J = true → ladderD p = true) : holdD qs J (.tuple [.str wL, p]) = lawB qs J (.tuple [.str wL, p]) := by
  rw [lawB_lad]
  show (if wL = wS then sqD qs p else ladderD p && PyData.eqv (papD qs J) (.tuple [.str wL, p])) = _
  rw [if_neg (by decide +kernel)]
  cases e : isLad qs J with
  | true =>
    rw [hp e, Bool.true_and, papD_lad e, eqv_pap_lad]
    unfold hadD
    rw [if_pos e]
    show _ = (PyData.eqv p (dLad qs J) && true)
    rw [Bool.and_true, PySem.W.eqv_comm]
  | false =>
    have : PyData.eqv (papD qs J) (.tuple [.str wL, p]) = false := by
      rcases papD_not e with ⟨_, w⟩ | ⟨_, _, k, _, w⟩
      · rw [w]
        exact eqv_head (by decide +kernel)
      · rw [w]
        exact eqv_head (by decide +kernel)
    rw [this, Bool.and_false]
    unfold hadD
    rw [e]
    rfl
/-- what a sheet is to the law and to the program -/
structure Sht (qs : List F) (J : Nat) (d : PyData) : Prop where
  sh : Sheet d
  eq : holdD qs J d = lawB qs J d
  fm : formD d = some (wordD d)
  sq : SqOf qs (secD d)
  ok : SeqAt.shaped d = true
theorem form_lad (p : PyData) : formD (.tuple [.str wL, p]) = some wL := by
  show (if fm wL 2 wL 2 = true then some wL else if fm wL 2 wS 2 = true then some wS else if fm wL 2 wR 3 = true then some wR else none) = some wL
  rw [if_pos (by decide +kernel)]
theorem form_sq (p : PyData) : formD (.tuple [.str wS, p]) = some wS := by
  show (if fm wS 2 wL 2 = true then some wL else if fm wS 2 wS 2 = true then some wS else if fm wS 2 wR 3 = true then some wR else none) = some wS
  rw [if_neg (by decide +kernel), if_pos (by decide +kernel)]
theorem form_rs (p n : PyData) : formD (.tuple [.str wR, p, n]) = some wR := by
  show (if fm wR 3 wL 2 = true then some wL else if fm wR 3 wS 2 = true then some wS else if fm wR 3 wR 3 = true then some wR else none) = some wR
  rw [if_neg (by decide +kernel), if_neg (by decide +kernel), if_pos (by decide +kernel)]
theorem dL_dP {T : F} {ls ss w : List F} : dL T ls ss ≠ dP w := by
  intro e
  simp only [dL, dP, PyData.tuple.injEq] at e
  cases w with
  | nil => cases e
  | cons q1 w =>
    cases w with
    | nil =>
      rw [List.map_cons, List.map_nil] at e
      have := (List.cons.inj e).2
      cases this
    | cons q w =>
      rw [List.map_cons, List.map_cons] at e
      have e2 := (List.cons.inj (List.cons.inj e).2).1
      simp only [dF, PyData.tuple.injEq] at e2
      cases ls with
      | nil => cases e2
      | cons a l =>
        rw [List.map_cons] at e2
        have := (List.cons.inj e2).1
        cases this
theorem sqOf_dP {qs w : List F} (h : SqOk w) : SqOf qs (dP w) := fun v e _ _ => by
  rw [dP_inj e] at h
  exact h
theorem can_dL (T : F) (ls ss : List F) : (dL T ls ss).canLay0 = true ∧ (dL T ls ss).depth ≤ 6 := by
  have h1 := can_dP ls
  have h2 := can_dP ss
  refine ⟨?_, ?_⟩
  · simp [PyData.canLay0, PyData.canLayAll0, dL, dF, h1.1, h2.1]
  · simp only [PyData.depth, PyData.depthAll, dL, dF]
    omega
theorem sht_lad {qs : List F} {J : Nat} {T : F} {ls ss : List F} (h : isLad qs J = true → ladderD (dL T ls ss) = true) : Sht qs J (.tuple [.str wL, dL T ls ss]) := by
  have c := can_dL T ls ss
  refine ⟨.lad ?_, hold_lad h, form_lad _, fun w e => absurd e dL_dP, ?_⟩
  · rw [shaped_iff]
    refine ⟨?_, ?_⟩
    · simp [PyData.canLay0, PyData.canLayAll0, c.1]
    · simp only [PyData.depth, PyData.depthAll]
      omega
  · rw [shaped_iff]
    refine ⟨?_, ?_⟩
    · simp [PyData.canLay0, PyData.canLayAll0, c.1]
      decide +kernel
    · simp only [PyData.depth, PyData.depthAll]
      omega
theorem sht_sq {qs : List F} {J : Nat} {w : List F} (R : RowOk qs) (so : SqOk w) (pn : Pn w) : Sht qs J (.tuple [.str wS, dP w]) := by
  have c := can_dP w
  obtain ⟨D, a, ca, _⟩ := so.ex
  refine ⟨.sq so pn, hold_sq R ca.okA pn J, form_sq _, sqOf_dP so, ?_⟩
  rw [shaped_iff]
  refine ⟨?_, ?_⟩
  · simp [PyData.canLay0, PyData.canLayAll0, c.1]
    decide +kernel
  · simp only [PyData.depth, PyData.depthAll]
    omega
theorem sht_rs {qs : List F} {J k : Nat} {w : List F} (R : RowOk qs) (so : SqOk w) (pn : Pn w) (hk : k < 16) : Sht qs J (.tuple [.str wR, dP w, .int k]) := by
  have c := can_dP w
  refine ⟨.rs so pn hk, hold_rs R so pn J k, form_rs _ _, sqOf_dP so, ?_⟩
  rw [shaped_iff]
  refine ⟨?_, ?_⟩
  · simp [PyData.canLay0, PyData.canLayAll0, c.1]
    decide +kernel
  · simp only [PyData.depth, PyData.depthAll]
    omega
theorem rest_lt {qs w : List F} {k : Nat} (h : fRest qs w = some k) : k < qs.length + 1 - w.length ∧ miss qs w k = true :=
  ⟨List.mem_range.mp (List.mem_of_find?_eq_some h), List.find?_some h⟩
theorem lpB_rg {qs : List F} {J : Nat} (h : 2 * J < qs.length) : lpB qs.length (rg (rv qs) J) = true := by
  unfold lpB
  rw [rg_len, decide_eq_true (rg_pn _ _), decide_eq_true (by omega)]
  rfl
theorem two_lt {qs : List F} {J : Nat} (h : cnt qs J = J + 1) : 2 * J < qs.length := by
  unfold cnt at h
  split at h
  · assumption
  · omega
/-- the own paper -/
theorem sht_pap {qs : List F} {J : Nat} (R : RowOk qs) (C : Clm qs J) : Sht qs J (papD qs J) ∧ lawB qs J (papD qs J) = true := by
  have r8 := R.l
  cases e : isLad qs J with
  | true =>
    rw [papD_lad e]
    refine ⟨sht_lad (T := co qs 0) (ls := lvlsC qs J) (ss := stpsC qs J) fun _ => lad_ok R C e, ?_⟩
    rw [lawB_lad]
    unfold hadD
    rw [if_pos e]
    refine SeqAt.eqv_refl _ ?_
    have c := can_dL (co qs 0) (lvlsC qs J) (stpsC qs J)
    show PyData.canLay0 (.list [dL (co qs 0) (lvlsC qs J) (stpsC qs J)]) = true
    simp [PyData.canLay0, PyData.canLayAll0, c.1]
  | false =>
    rcases papD_not e with ⟨neg, w⟩ | ⟨nneg, z, k, ek, w⟩
    · obtain ⟨x1, x2, x3, x4⟩ := clm_last R C (by grind)
      rw [w]
      refine ⟨sht_sq R (sqOk_rg R x2 C.pos) (rg_pn _ _), ?_⟩
      rw [lawB_sq, lpB_rg (two_lt x1), Bool.true_and, sq2_rg]
      refine decide_eq_true ?_
      show nor (rv qs) J < 0
      rw [← x4]
      exact neg
    · obtain ⟨x1, x2, x3, x4⟩ := clm_last R C (by rw [z]; decide)
      obtain ⟨k1, k2⟩ := rest_lt ek
      have so := sqOk_rg R x2 C.pos
      obtain ⟨D, a, ca, _⟩ := so.ex
      rw [w]
      refine ⟨sht_rs R so (rg_pn _ _) (by omega), ?_⟩
      have ne : (rg (rv qs) J).isEmpty = false := by
        cases h : rg (rv qs) J with
        | nil =>
          have := rg_len (rv qs) J
          rw [h] at this
          cases this
        | cons _ _ => rfl
      rw [lawB_rs, lpB_rg (two_lt x1), Bool.true_and, ne, sq2_rg, misF_eq ca R.c]
      rw [decide_eq_true (show gsq (rv qs) (pol (rv qs) J) (pol (rv qs) J) (J + 1) 0 = 0 from x4.symm.trans z), decide_eq_true (List.mem_filter.mpr ⟨List.mem_range.mpr k1, k2⟩)]
      rfl
/-- a ladder of one level -/
theorem lad_one {qs : List F} (R : RowOk qs) {q : F} (h : Ok q) : ladderD (dL (co qs 0) [q] []) = true := by
  show (posD (dF (co qs 0)) && (fracsD 5 (dP [q]) && (fracsD 5 (dP []) && shapeD (dP [q]) (dP [])))) = true
  rw [pos_row R, fracs5 (w := [q]) (fun r hr => by rw [List.mem_singleton.mp hr]; exact h) (by show 1 ≤ 5; decide), fracs5 (w := []) (fun r hr => by cases hr) (by decide), Bool.true_and, Bool.true_and, Bool.true_and]
  rw [shape_open (.inl rfl)]
  rfl
theorem had_nil (qs : List F) (J : Nat) : PyData.eqv (.list (hadD qs J)) (.list []) = !isLad qs J := by
  unfold hadD
  cases isLad qs J <;> rfl
/-! ### data of tuples alone stay where only the state changes -/
mutual
def tupOnly : PyData → Bool
  | .none => true
  | .bool _ => true
  | .int _ => true
  | .str _ => true
  | .list _ => false
  | .tuple ds => tupAll ds
  | .dict _ => false
def tupAll : List PyData → Bool
  | [] => true
  | d :: ds => tupOnly d && tupAll ds
end
section
variable {K : PySem.W.Frag} {H H' : Hp} {p c l : Addr} {n : Nat} {t : Int}
mutual
theorem dp_kp (k : Kp p l H H') (S : Sta H p c l n t) : ∀ (d : PyData) (v : V), tupOnly d = true → Dp K H v d → Dp K H' v d
  | .none, _, _, h => by
    cases h
    exact .non
  | .bool b, _, _, h => by
    cases h
    exact .bl _
  | .int i, _, _, h => by
    cases h
    exact .int _
  | .str x, _, _, h => by
    cases h
    exact .str _
  | .list ds, _, e, h => by
    rw [tupOnly] at e
    cases e
  | .tuple ds, _, e, h => by
    rw [tupOnly] at e
    cases h with
    | tup hs ha => exact .tup (sqT_kp k S hs) (dpAll_kp k S ds _ e ha)
  | .dict _, _, _, h => by cases h
theorem dpAll_kp (k : Kp p l H H') (S : Sta H p c l n t) : ∀ (ds : List PyData) (vs : List V), tupAll ds = true → DpAll K H vs ds → DpAll K H' vs ds
  | [], _, _, h => by
    cases h
    exact .nil
  | d :: ds, _, e, h => by
    rw [tupAll, Bool.and_eq_true] at e
    cases h with
    | cons h1 h2 => exact .cons (dp_kp k S d _ e.1 h1) (dpAll_kp k S ds _ e.2 h2)
end
end
theorem tup_dFs : ∀ w : List F, tupAll (w.map dF) = true
  | [] => by rw [List.map_nil, tupAll]
  | q :: w => by
    rw [List.map_cons, tupAll, tup_dFs w, Bool.and_true]
    simp [dF, tupOnly, tupAll]
theorem tup_dP (w : List F) : tupOnly (dP w) = true := by
  show tupOnly (.tuple (w.map dF)) = true
  rw [tupOnly]
  exact tup_dFs w
theorem tup_papD (qs : List F) (J : Nat) : tupOnly (papD qs J) = true := by
  have h1 := tup_dP (lvlsC qs J)
  have h2 := tup_dP (stpsC qs J)
  have h3 := tup_dP (rg (rv qs) J)
  have lad : tupOnly (.tuple [.str "ladder", dLad qs J]) = true := by
    simp [tupOnly, tupAll, dLad, dF, h1, h2]
  unfold papD
  split
  · simp [tupOnly, tupAll, h3]
  · split
    · split
      · simp [tupOnly, tupAll, h3]
      · exact lad
    · exact lad
end Rs


set_option Elab.async false
set_option linter.all false
set_option maxRecDepth 100000
set_option maxHeartbeats 1000000
namespace Rs
open PySem L2 Bs Fq LamX RZ
abbrev sOther : Stmt := top 83
/-- _law_other(state, row, paper) -/
def spOther (K : PySem.W.Frag) : Sp := fun vs H Q _ => ∃ (p c l : Addr) (n : Nat) (t : Int) (x y : V) (qs : List F) (J : Nat), vs = [.ref p, x, y] ∧ Sta H p c l n t ∧ t ≤ 7500 ∧ Po K H x qs ∧ RowOk qs ∧ Clm qs J ∧ Dp K H y (papD qs J) ∧
  ∀ (H' : Hp) (u : V) (d : PyData) (t' : Int), t ≤ t' → t' ≤ t + 30 → Sta H' p c l n t' → Kp p l H H' → Dp K H' u d → Sht qs J d → Q u H'
abbrev NOt : List Str := ["state", "row", "paper", "some", "choice"]
theorem pap_word {qs : List F} {J : Nat} : ∃ ds, papD qs J = .tuple (.str (wordD (papD qs J)) :: ds) := by
  unfold papD
  split
  · exact ⟨_, rfl⟩
  · split
    · split
      · exact ⟨_, rfl⟩
      · exact ⟨_, rfl⟩
    · exact ⟨_, rfl⟩
theorem pap_rest {qs : List F} {J : Nat} (R : RowOk qs) (C : Clm qs J) (h : wordD (papD qs J) = wR) : ∃ k : Nat, papD qs J = .tuple [.str wR, dP (rg (rv qs) J), .int k] ∧ SqOk (rg (rv qs) J) := by
  cases e : isLad qs J with
  | true =>
    rw [papD_lad e] at h
    exact absurd h (by show wL ≠ wR; decide +kernel)
  | false =>
    rcases papD_not e with ⟨_, w⟩ | ⟨_, z, k, _, w⟩
    · rw [w] at h
      exact absurd h (by show wS ≠ wR; decide +kernel)
    · obtain ⟨x1, x2, x3, x4⟩ := clm_last R C (by rw [z]; decide)
      exact ⟨k, w, sqOk_rg R x2 C.pos⟩
section
variable {P : Program} {w : World} {K : PySem.W.Frag} {mg : Str → Option Value} {base : Heap} {f : Addr} {fd : FuncData}
theorem scOther : FnScope NOt ["state", "row", "paper"] (defScope sOther) := ⟨rfl, rfl, rfl, by decide +kernel, rfl, by decide +kernel, by decide +kernel⟩
theorem ok_other (F : Fun K "_law_other" "_law_other" sOther f fd) (T : Blt mg) (DR : Cal P w K mg base 2 "_law_draw" spDraw) (SM : Cal P w K mg base 3 "_law_small" spSmall) (LP : Cal P w K mg base 4 "_law_poly" (spLPoly K)) : FnOk P w K mg base CX0 5 f fd ["state", "row", "paper"] (spOther K) := by
  refine F.ok scOther (fun vs H Q E h => ?_) (fun cdv A outer s H vs Q E hr h => ?_)
  · obtain ⟨p, c, l, n, t, x, y, qs, J, rfl, _⟩ := h
    rfl
  · obtain ⟨p, c, l, n, t, x, y, qs, J, rfl, S, t7, px, R, C, hy, kk⟩ := h
    have r8 := R.l
    refine ⟨_, C8.pss_cut (ps_par (i := 3) (j := 4) (by rfl) scOther.nd rfl rfl (by decide) rfl rfl (pa_cons (pe_n LP hr (by decide) (by rfl) (pa_cons (pv 0) (pa_cons (pe_op op_add pe_int (pe_op op_fdiv (pe_callB call_len_seq (by rfl) T.len (by decide +kernel) (pa_cons (pv 1) pa_nil)) pe_int)) pa_nil))) (pa_cons (pe_n DR hr (by decide) (by rfl) (pa_cons (pv 0) (pa_cons pe_int pa_nil))) pa_nil)) (by rfl))
      (C8.pss_cut (ps_if (pt_cmpR op_eq (pv 4) pe_int (nomark _)) (pss_one (ps_ret (pe_tup (pa_cons pe_str (pa_cons (pe_tup (pa_cons (pe_ix ix_tup (pv 1) pe_int (fun _ _ => rfl)) (pa_cons (pe_tup (pa_cons (pe_n SM hr (by decide) (by rfl) (pa_cons (pv 0) pa_nil)) pa_nil)) (pa_cons (pe_tup pa_nil) pa_nil)))) pa_nil))))) pss_nil)
      (C8.pss_cut (ps_if (pt_cmpR op_eq (pv 4) pe_int (nomark _)) (pss_one (ps_ret (pe_tup (pa_cons pe_str (pa_cons (pv 3) pa_nil))))) pss_nil)
      (C8.pss_cut (ps_if (PW.pt (pw_or (pt_cmpR op_eq (pv 4) pe_int (nomark _)) (pw_or1 (pt_cmpR op_ne (pe_ix ix_tup (pv 2) pe_int (fun _ _ => rfl)) pe_str (nomark _))))) (pss_one (ps_ret (pe_tup (pa_cons pe_str (pa_cons (pv 3) (pa_cons (pe_n DR hr (by decide) (by rfl) (pa_cons (pv 0) (pa_cons pe_int pa_nil))) pa_nil)))))) pss_nil)
      (pss_one (ps_ret (pe_op op_catA (pe_slice sl_tupA (pv 2) po_none (po_some pe_int)) (pe_tup (pa_cons (pe_n DR hr (by decide) (by rfl) (pa_cons (pv 0) (pa_cons pe_int pa_nil))) pa_nil)))))))), ?_⟩
    refine ⟨fun σ H1 => ∃ (u : V) (ws : List Fq.F) (ch t1 : Int), t ≤ t1 ∧ t1 ≤ t + 18 ∧ Sta H1 p c l n t1 ∧ Kp p l H H1 ∧ Po K H1 x qs ∧ Dp K H1 y (papD qs J) ∧ Po K H1 u ws ∧ SqOk ws ∧ Pn ws ∧ σ = [some (V.ref p), some x, some y, some u, some (V.int ch)], ?_, ?_⟩
    · obtain ⟨b, xs, rfl, sx, fx⟩ := id px
      have lx := fx.len
      refine ⟨_, rfl, _, rfl, b, xs, rfl, .inr sx, _, _, rfl, rfl, ⟨by decide, by decide⟩, _, _, rfl, rfl, p, c, l, n, t, _, rfl, S, by omega, by omega, by omega, fun H1 u ws t1 po s3 pn lw ta tb S1 k1 => ?_⟩
      refine ⟨_, rfl, p, c, l, n, t1, 4, rfl, S1, by omega, by decide, by decide, fun H2 r r0 r1 S2 k2 => ?_⟩
      refine ⟨_, _, rfl, ?_⟩
      exact ⟨u, ws, r, t1 + 1, by omega, by omega, S2, k1.trans k2, (px.kp k1 S).kp k2 S1, dp_kp k2 S1 _ _ (tup_papD _ _) (dp_kp k1 S _ _ (tup_papD _ _) hy), po.kp k2 S1, sqOk_s3 s3, pn, rfl⟩
    rintro σ H1 ⟨u, ws, ch, t1, ta, tb, S1, k1, px1, hy1, pu, so, pn, rfl⟩
    -- a ladder
    refine ⟨fun σ H2 => H2 = H1 ∧ σ = [some (V.ref p), some x, some y, some u, some (V.int ch)], ?_, ?_⟩
    · refine ⟨_, rfl, rfl, _, rfl, ?_⟩
      refine ite2 (fun cc => ?_) (fun cc => ⟨rfl, rfl⟩)
      obtain ⟨b, xs, rfl, sx, fx⟩ := id px1
      have r1 := R.pos
      have lx := fx.len
      obtain ⟨w0, e0, f0⟩ : ∃ w, xs[0]? = some w ∧ Fr K H1 w (co qs 0) := by
        obtain ⟨w, q, e1, e2, e3⟩ := fx.get (i := 0) (by omega)
        exact ⟨w, e1, by rw [co_get e2]; exact e3⟩
      refine ⟨_, rfl, b, xs, 0, w0, rfl, rfl, sx, atI_nat (j := 0) e0, _, rfl, p, c, l, n, t1, rfl, S1, by omega, fun H2 b2 x2 y2 x0 x1 y0 y1 hb S2 k2 => ?_⟩
      refine ⟨(by show 1 ≤ sizeLine; decide), fun p3 hp3 => ⟨(by show 0 ≤ sizeLine; decide), fun p4 hp4 => ⟨(by show 3 ≤ sizeLine; decide), fun p5 hp5 => ⟨(by show 2 ≤ sizeLine; decide), fun p6 hp6 => ?_⟩⟩⟩⟩
      have s3 := same_new (o := .tup [V.ref b2]) hp3
      have s4 := same_new (o := .tup []) hp4
      have s5 := same_new (o := .tup [w0, V.ref p3, V.ref p4]) hp5
      have s6 := same_new (o := .tup [V.str "ladder", V.ref p5]) hp6
      have sa := s3.trans (s4.trans (s5.trans s6))
      have o := (s3_red x0 x1 y0 y1).ok
      have d0 : Dp K H2 w0 (dF (co qs 0)) := (k2.fr S1 f0).dp
      have d2 : Dp K H2 (.ref b2) (dF (red x2 y2)) := (Fr.of hb).dp
      refine kk _ _ (.tuple [.str wL, dL (co qs 0) [red x2 y2] []]) (t1 + 2) (by omega) (by omega) (S2.mono sa) ((k1.trans k2).trans (Kp.of sa)) ?_ (sht_lad fun _ => lad_one R o)
      exact .tup (SqT.of upd_same) (.cons (.str _) (.cons (.tup (SqT.of (s6 _ _ upd_same)) (.cons (dps sa d0) (.cons (dps (s4.trans (s5.trans s6)) (.tup (SqT.of upd_same) (.cons (dps s3 d2) .nil))) (.cons (dps (s5.trans s6) (.tup (SqT.of upd_same) .nil)) .nil)))) .nil))
    rintro σ H2 ⟨rfl, rfl⟩
    -- a square
    refine ⟨fun σ H3 => H3 = H2 ∧ σ = [some (V.ref p), some x, some y, some u, some (V.int ch)], ?_, ?_⟩
    · refine ⟨_, rfl, rfl, _, rfl, ?_⟩
      refine ite2 (fun cc => ?_) (fun cc => ⟨rfl, rfl⟩)
      refine ⟨_, rfl, (by show 2 ≤ sizeLine; decide), fun p3 hp3 => ?_⟩
      have s3 := same_new (o := .tup [V.str "square", u]) hp3
      exact kk _ _ (.tuple [.str wS, dP ws]) t1 (by omega) (by omega) (S1.mono s3) (k1.trans (Kp.of s3)) (.tup (SqT.of upd_same) (.cons (.str _) (.cons (pu.mono s3).dp .nil))) (sht_sq R so pn)
    rintro σ H3 ⟨rfl, rfl⟩
    obtain ⟨ds, epd⟩ := pap_word (qs := qs) (J := J)
    obtain ⟨a, ys, rfl, sy, dy⟩ := dp_word2 (epd ▸ hy1)
    refine ⟨fun σ H4 => H4 = H3 ∧ wordD (papD qs J) = wR ∧ σ = [some (V.ref p), some x, some (V.ref a), some u, some (V.int ch)], ?_, ?_⟩
    · have out : ∀ H4 (r : Int), 0 ≤ r → r < 4 → Sta H4 p c l n (t1 + 1) → Kp p l H3 H4 → ∀ p3, H4 p3 = none → Q (.ref p3) (upd H4 p3 (.tup [V.str "rest", u, V.int r])) := fun H4 r r0 r1 S4 k4 p3 hp3 => by
        have s3 := same_new (o := .tup [V.str "rest", u, V.int r]) hp3
        obtain ⟨k, rfl⟩ : ∃ k : Nat, r = (k : Int) := ⟨r.toNat, by omega⟩
        exact kk _ _ (.tuple [.str wR, dP ws, .int k]) (t1 + 1) (by omega) (by omega) (S4.mono s3) ((k1.trans k4).trans (Kp.of s3)) (.tup (SqT.of upd_same) (.cons (.str _) (.cons ((pu.kp k4 S1).mono s3).dp (.cons (.int _) .nil)))) (sht_rs R so pn (by omega))
      refine ⟨_, rfl, rfl, _, rfl, ?_⟩
      refine ite2 (fun cc => ?_) (fun cc => ?_)
      · exact ⟨_, rfl, _, rfl, p, c, l, n, t1, 4, rfl, S1, by omega, by decide, by decide, fun H4 r r0 r1 S4 k4 => ⟨(by show 3 ≤ sizeLine; decide), fun p3 hp3 => out H4 r r0 r1 S4 k4 p3 hp3⟩⟩
      · refine ⟨_, rfl, a, _, 0, _, rfl, rfl, sy, atI_nat (j := 0) rfl, rfl, _, rfl, ?_⟩
        refine ite2 (fun c2 => ?_) (fun c2 => ⟨rfl, ?_, rfl⟩)
        · exact ⟨_, rfl, _, rfl, p, c, l, n, t1, 4, rfl, S1, by omega, by decide, by decide, fun H4 r r0 r1 S4 k4 => ⟨(by show 3 ≤ sizeLine; decide), fun p3 hp3 => out H4 r r0 r1 S4 k4 p3 hp3⟩⟩
        · refine Classical.byContradiction fun z => c2 ?_
          rw [decide_eq_false fun e => z (V.str.inj e)]
          rfl
    rintro σ H4 ⟨rfl, ew, rfl⟩
    obtain ⟨k, ek, sr⟩ := pap_rest R C ew
    rw [ek] at hy1
    have e3 : ∃ v1, ys = [v1, .int k] ∧ Po K H4 v1 (rg (rv qs) J) := by
      rw [ek] at epd
      cases epd
      cases dy with
      | cons h1 h2 =>
        cases h2 with
        | cons h3 h4 =>
          cases h4
          cases h3
          exact ⟨_, rfl, dp_po h1⟩
    obtain ⟨v1, rfl, po1⟩ := e3
    refine ⟨_, rfl, 2, rfl, a, _, rfl, sy, (fun z => absurd z.2 (by show ¬ HT.sIx 3 3 (some 2) = 3; decide +kernel)), fun _ b3 hb3 => ?_⟩
    have s3 := same_new (o := .tup (cutV [V.str (wordD (papD qs J)), v1, V.int k] none (some 2))) hb3
    have ec : cutV [V.str (wordD (papD qs J)), v1, V.int k] none (some 2) = [V.str (wordD (papD qs J)), v1] := cut_to (k := 2) (xs := [V.str (wordD (papD qs J)), v1, V.int k]) (by show 2 ≤ 3; decide)
    refine ⟨_, rfl, p, c, l, n, t1, 6, rfl, S1.mono s3, by omega, by decide, by decide, fun H5 r r0 r1 S5 k5 => ?_⟩
    have sc := sqT_kp k5 (S1.mono s3) (SqT.of (a := b3) (K := K) upd_same)
    rw [ec] at sc
    refine ⟨(by show 1 ≤ sizeLine; decide), fun p4 hp4 => ?_⟩
    have s6 := same_new (o := .tup [V.int r]) hp4
    refine cat_any (Bs.Same.t s6 sc) (SqT.of upd_same) (by show 3 ≤ sizeLine; decide) (fun c7 H7 s7 sq7 => ?_)
    have s67 := s6.trans s7
    obtain ⟨m, rfl⟩ : ∃ m : Nat, r = (m : Int) := ⟨r.toNat, by omega⟩
    have po7 := ((po1.mono s3).kp k5 (S1.mono s3)).mono s67
    refine kk H7 _ (.tuple [.str wR, dP (rg (rv qs) J), .int m]) (t1 + 1) (by omega) (by omega) (S5.mono s67) (((k1.trans (Kp.of s3)).trans k5).trans (Kp.of s67)) (.tup sq7 (.cons ?_ (.cons po7.dp (.cons (.int _) .nil)))) (sht_rs R sr (rg_pn _ _) (by omega))
    rw [ew]
    exact .str _
end
end Rs


set_option Elab.async false
set_option linter.all false
set_option maxRecDepth 100000
set_option maxHeartbeats 1000000
namespace Rs
open PySem L2 Bs Fq LamX LmD RZ Hd TA2
abbrev sGood : Stmt := top 84
/-- repr of a truth -/
theorem call_repr_bl {X : Cx} : CallR X (.builtin "repr") (fun xs H Q => ∃ b, xs = [.bl b] ∧ Q (.str (if b then "True" else "False")) H) := by
  intro pins s σ H xs us Q I r h
  obtain ⟨b, rfl, q⟩ := h
  obtain ⟨u, rfl, r1⟩ := vals1 r
  obtain rfl : u = .bool b := r1
  exact PySem.P.repr_of_bool ⟨.str _, H, I.tok _, ⟨_, rfl⟩, q⟩
theorem nrow {qs : List F} (R : RowOk qs) {A : Prop} : rowD (dP qs) = false → A := fun e => by
  rw [rowD_of R] at e
  cases e
theorem row_fin {Rr : List F → Hp → VK → XK → Prop} {qs : List F} {H : Hp} {Q : VK} {E : XK} (R : RowOk qs) (h : Rr qs H Q E) : ∀ qs', dP qs = dP qs' → rowD (dP qs) = true → RowOk qs' ∧ Rr qs' H Q E := fun qs' e _ => by
  obtain rfl := dP_inj e
  exact ⟨R, h⟩
theorem word_three {qs : List F} {J : Nat} {d : PyData} (Sh : Sht qs J d) : wordD d = wL ∨ wordD d = wS ∨ wordD d = wR := by
  rcases form_cases Sh.fm with ⟨_, _, e⟩ | ⟨_, _, e⟩ | ⟨_, _, _, e⟩
  · exact .inl e
  · exact .inr (.inl e)
  · exact .inr (.inr e)
theorem shaped_due {qs : List F} {J : Nat} {d : PyData} (Sh : Sht qs J d) : SeqAt.shaped (dueD qs J d) = true := by
  unfold dueD
  rcases word_three Sh with e | e | e <;> rw [e] <;> split <;> decide +kernel
theorem can_of {d : PyData} (h : SeqAt.shaped d = true) : PyData.eqv d d = true := SeqAt.eqv_refl d (shaped_iff.mp h).1
theorem dp_due {K : PySem.W.Frag} {H : Hp} {qs : List F} {J : Nat} {d : PyData} : (lawB qs J d = true → ∀ {a : Addr}, H a = some (.lst [.str (wordD d)]) → Dp K H (.ref a) (dueD qs J d)) ∧ (lawB qs J d = false → ∀ {a : Addr}, H a = some (.tup [.str "paper", .str (wordD d)]) → Dp K H (.ref a) (dueD qs J d)) := by
  unfold dueD
  refine ⟨fun h a ha => ?_, fun h a ha => ?_⟩
  · rw [if_pos h]
    exact .lst (SqL.of ha) (.cons (.str _) .nil)
  · rw [h, if_neg (by decide)]
    exact .tup (SqT.of ha) (.cons (.str _) (.cons (.str _) .nil))
/-- _law_good(state) -/
def spGood (Ts : List (Addr × Str)) : Sp := fun vs H Q _ => ∃ (p c l : Addr) (n : Nat) (t : Int), vs = [.ref p] ∧ Sta H p c l n t ∧ t ≤ 5000 ∧ Tabs Ts H ∧ ∀ H' t', t ≤ t' → t' ≤ t + 60 → Sta H' p c l n t' → KE p l H H' → Tabs Ts H' → Q (.bl true) H'
abbrev NG : List Str := ["state", "row", "levels", "rungs", "norms_so", "had", "paper", "heard", "sheet"]
/-- what stays throughout -/
structure GI (K : PySem.W.Frag) (Ts : List (Addr × Str)) (qs : List F) (J : Nat) (H0 H : Hp) (p c l : Addr) (n : Nat) (u : Int) (x : V) (ah : Addr) (hs : List V) (y : V) : Prop where
  S : Sta H p c l n u
  k : KE p l H0 H
  T : Tabs Ts H
  px : Po K H x qs
  sh : SqL K H ah hs
  dh : DpAll K H hs (hadD qs J)
  dp : Dp K H y (papD qs J)
section
variable {K : PySem.W.Frag} {Ts : List (Addr × Str)} {qs : List F} {J : Nat} {H0 H H' : Hp} {p c l : Addr} {n : Nat} {u : Int} {x : V} {ah : Addr} {hs : List V} {y : V}
theorem po_ext {v : V} (e : ExtN H H') (h : Po K H v qs) : Po K H' v qs := by
  obtain ⟨a, xs, rfl, s, f⟩ := h
  refine ⟨a, xs, rfl, ExtN.t e s, ?_⟩
  clear s
  induction f with
  | nil => exact .nil
  | cons h1 _ ih => exact .cons (ExtN.fr e h1) ih
theorem GI.ext (G : GI K Ts qs J H0 H p c l n u x ah hs y) (e : ExtN H H') (T : Tabs Ts H') : GI K Ts qs J H0 H' p c l n u x ah hs y :=
  ⟨G.S.ext e, G.k.trans (ExtN.ke e), T, po_ext e G.px, sqL_ext e G.sh, dpAll_ext e _ _ G.dh, dp_ext e _ _ G.dp⟩
theorem GI.same (G : GI K Ts qs J H0 H p c l n u x ah hs y) (e : Same H H') : GI K Ts qs J H0 H' p c l n u x ah hs y := G.ext (ExtN.same e) (Tabs.same G.T e)
end
section
variable {P : Program} {w : World} {K : PySem.W.Frag} {mg : Str → Option Value} {base : Heap} {f c1 P1 g : Addr} {C : Cls} {fd : FuncData} {Ts : List (Addr × Str)}
theorem scGood : FnScope NG ["state"] (defScope sGood) := ⟨rfl, rfl, rfl, by decide +kernel, rfl, by decide +kernel, by decide +kernel⟩
theorem ok_good (F : FunC K "_law_good" "_law_good" sGood f fd c1) (T : Blt mg) (Hk : HeardK K mg g C)
    (Tk : ∀ A outer s H E, TabOk (cxOf CX0 P w K mg base NG "_law_good" (defScope sGood) f (.ref c1) A outer s H E).nox Ts c1 P1)
    (LRW : Cal P w K mg base 5 "_law_row" (spLRow K)) (LB : Cal P w K mg base 5 "_law_built" (spLBuilt K)) (HD : Cal P w K mg base 6 "_law_had" (spHad K)) (DU : Cal P w K mg base 7 "_law_due" (spDue K)) (OT : Cal P w K mg base 5 "_law_other" (spOther K))
    (RP : CalX P w K mg base 8 "row_paper" (spRow K C.R (rPap K))) (IS : CalX P w K mg base 9 "is_of_share" (spRow K C.R rShare)) (PV_ : CalX P w K mg base 7 "pivots" (spRow K C.R (rPiv K))) (LO : CalX P w K mg base 9 "ladder_of" (spRow K C.R (rLadOf K C.S))) (CH : CalX P w K mg base 9 "check_row" (spCheck K C.R C.P)) :
    FnG P w K mg base 12 f fd ["state"] (spGood Ts) := by
  refine FnG.okC F scGood (fun vs H Q E h => ?_) (fun A outer s H vs Q E hgd hr h => ?_)
  · obtain ⟨p, c, l, n, t, rfl, _⟩ := h
    rfl
  · obtain ⟨p, c, l, n, t, rfl, S, t5, TT, kk⟩ := h
    refine ⟨_, C8.pss_cut (ps_set (i := 1) scGood.nd rfl (Or.inr rfl) (pe_n LRW hr (by decide) (by rfl) (pa_cons (pv 0) pa_nil)))
      (C8.pss_cut (ps_asg (pe_n LB hr (by decide) (by rfl) (pa_cons (pv 1) pa_nil)) (pg_tup rfl (pgs_cons (pg_name (i := 2) scGood.nd rfl (.inl rfl)) (pgs_cons (pg_name (i := 3) scGood.nd rfl (.inl rfl)) (pgs_cons (pg_name (i := 4) scGood.nd rfl (.inl rfl)) pgs_nil)))))
      (C8.pss_cut (ps_par (i := 5) (j := 6) (by rfl) scGood.nd rfl rfl (by decide) rfl rfl (pa_cons (pe_n HD hr (by decide) (by rfl) (pa_cons (pv 1) pa_nil)) (pa_cons (pe_x RP hr (by decide) (by rfl) passL (pa_cons (pv 1) pa_nil)) pa_nil)) (by rfl))
      (C8.pss_cut (ps_if (PW.pt (pw_or (pt_cmpR op_ne (pe_callB call_repr_bl (by rfl) T.repr (by decide +kernel) (pa_cons (pe_x IS hr (by decide) (by rfl) passL (pa_cons (pv 1) pa_nil)) pa_nil)) (pe_callB call_repr_bl (by rfl) T.repr (by decide +kernel) (pa_cons (pe_cmpR (op_neD hr.units) (pv 5) (pe_lst pa_nil) (nomark _)) pa_nil)) (nomark _))
          (pw_or (pt_cmpR (op_neD hr.units) (pe_x PV_ hr (by decide) (by rfl) passL (pa_cons (pv 1) pa_nil)) (pe_callTy call_tuple_of (by rfl) T.tuple (by decide +kernel) (pa_cons (pv 4) pa_nil)) (nomark _))
          (pw_or1 (pt_cmpR (op_neD hr.units) (pe_x RP hr (by decide) (by rfl) passL (pa_cons (pv 1) pa_nil)) (pv 6) (nomark _)))))) (pss_one (ps_ret pe_bl)) pss_nil)
      (C8.pss_cut (ps_set (i := 7) scGood.nd rfl (Or.inl rfl) (pe_hd (k := 9) (t := (fun E => tCall (spRow K C.R (rLadOf K C.S)) [] E (tCons (tVar 1) tNil))) Hk (Tk A outer s H E) hr (by rfl) (lamS_by (sc := defScope sGood) (by decide +kernel)) (fun A' outer' s' H' E' f' c' hr' => pe_x LO hr' (by decide) (by rfl) (passes_call (takes_of rfl rfl rfl rfl) (fun _ _ _ _ h => h)) (pa_cons (pv 1) pa_nil))))
      (C8.pss_cut (ps_if (PW.pt (pw_and (pt_cmpR (op_neD hr.units) (pv 5) (pe_lst pa_nil) (nomark _)) (pw_and1 (PW.pt (pw_or (pt_cmpR (op_neD hr.units) (pv 7) (pv 5) (nomark _)) (pw_or1 (pt_cmpR (op_neD hr.units) (pv 6) (pe_tup (pa_cons pe_str (pa_cons (pe_ix ix_list (pv 5) pe_int (fun _ _ => rfl)) pa_nil))) (nomark _)))))))) (pss_one (ps_ret pe_bl)) pss_nil)
      (C8.pss_cut (ps_if (PW.pt (pw_and (pt_cmpR (op_eqD hr.units) (pv 5) (pe_lst pa_nil) (nomark _)) (pw_and1 (PW.pt (pw_or (pt_cmpR op_ne (pe_ix ix_tup (pv 7) pe_int (fun _ _ => rfl)) pe_str (nomark _)) (pw_or1 (pt_cmpR op_eq (pe_ix ix_tup (pe_ix ix_tup (pv 7) pe_int (fun _ _ => rfl)) pe_int (fun _ _ => rfl)) pe_str (nomark _)))))))) (pss_one (ps_ret pe_bl)) pss_nil)
      (C8.pss_cut (ps_if (PW.pt (pw_and (pt_cmpR (op_eqD hr.units) (pv 5) (pe_lst pa_nil) (nomark _)) (pw_and1 (pt_cmpR (op_neD hr.units) (pe_n DU hr (by decide) (by rfl) (pa_cons (pv 1) (pa_cons (pe_ix ix_tup (pv 7) pe_int (fun _ _ => rfl)) pa_nil))) (pe_lst (pa_cons (pe_ix ix_tup (pe_ix ix_tup (pv 7) pe_int (fun _ _ => rfl)) pe_int (fun _ _ => rfl)) pa_nil)) (nomark _))))) (pss_one (ps_ret pe_bl)) pss_nil)
      (C8.pss_cut (ps_for PassesOwn.never rfl (pi_tup (pe_tup (pa_cons (pv 6) (pa_cons (pe_n OT hr (by decide) (by rfl) (pa_cons (pv 0) (pa_cons (pv 1) (pa_cons (pv 6) pa_nil)))) pa_nil)))) (pg_name (i := 8) scGood.nd rfl (.inr rfl))
        (pss_one (ps_if (pt_cmpR (op_neD hr.units) (pe_hd (k := 9) (t := (fun E => tCall (spCheck K C.R C.P) [] E (tCons (tVar 1) (tCons (tVar 8) tNil)))) Hk (Tk A outer s H E) hr (by rfl) (lamS_by (sc := defScope sGood) (by decide +kernel)) (fun A' outer' s' H' E' f' c' hr' => pe_x CH hr' (by decide) (by rfl) (passes_call (takes_of rfl rfl rfl rfl) (fun _ _ _ _ h => h)) (pa_cons (pv 1) (pa_cons (pv 8) pa_nil)))) (pe_n DU hr (by decide) (by rfl) (pa_cons (pv 1) (pa_cons (pv 8) pa_nil))) (nomark _)) (pss_one (ps_ret pe_bl)) pss_nil)))
      (pss_one (ps_ret (pe_cmpR (op_eqD hr.units) (pe_n DU hr (by decide) (by rfl) (pa_cons (pv 1) (pa_cons (pv 6) pa_nil))) (pe_lst (pa_cons (pe_ix ix_tup (pv 6) pe_int (fun _ _ => rfl)) pa_nil)) (nomark _)))))))))))), ?_⟩
    have zero : (0 : Nat) ≤ sizeLine := by decide
    -- the row
    refine ⟨fun σ H1 => ∃ (x : V) (qs : List Fq.F) (t1 : Int), t ≤ t1 ∧ t1 ≤ t + 21 ∧ Sta H1 p c l n t1 ∧ Kp p l H H1 ∧ Po K H1 x qs ∧ RowOk qs ∧ σ = [some (V.ref p), some x, none, none, none, none, none, none, none], ?_, ?_⟩
    · exact ⟨_, rfl, p, c, l, n, t, rfl, S, by omega, fun H1 v qs t1 po rw_ l8 ta tb S1 k1 => ⟨v, qs, t1, ta, tb, S1, k1, po, rw_.ok, rfl⟩⟩
    rintro σ H1 ⟨x, qs, t1, ta, tb, S1, k1, po, R, rfl⟩
    obtain ⟨J, CJ⟩ := clm_ex R
    obtain ⟨Sp_, lp⟩ := sht_pap R CJ
    have T1 := Tabs.kp TT S k1
    have ke1 := Kp.ke k1
    -- the rungs
    refine ⟨fun σ H2 => ∃ a1 a2 a3, Bst K H1 H2 qs a1 a2 a3 (cnt qs J) (cnt qs J) J ∧ σ = [some (V.ref p), some x, some (V.ref a1), some (V.ref a2), some (V.ref a3), none, none, none, none], ?_, ?_⟩
    · refine ⟨_, rfl, x, qs, rfl, po, R, fun H2 a a1 a2 a3 J' s2 st B CJ' => ⟨a, _, rfl, st, rfl, _, _, rfl, _, _, rfl, _, _, rfl, rfl, ?_⟩⟩
      obtain rfl := Clm.uniq CJ' CJ
      exact ⟨a1, a2, a3, B, rfl⟩
    rintro σ H2 ⟨a1, a2, a3, B, rfl⟩
    -- the ladder had, the paper
    refine ⟨fun σ H3 => ∃ (ah : Addr) (hs : List V) (y : V), GI K Ts qs J H H3 p c l n t1 x ah hs y ∧ Same H2 H3 ∧ σ = [some (V.ref p), some x, some (V.ref a1), some (V.ref a2), some (V.ref a3), some (V.ref ah), some y, none, none], ?_, ?_⟩
    · refine ⟨_, rfl, x, qs, rfl, po.mono B.same, R, fun H3 ah hs J' s3 CJ' sqh dph => ?_⟩
      obtain rfl := Clm.uniq CJ' CJ
      refine ⟨_, rfl, x, dP qs, rfl, ((po.mono B.same).mono s3).dp, nrow R, row_fin (Rr := rPap K) R (fun H4 u J'' s4 C4 dp4 => ⟨_, _, rfl, ?_⟩)⟩
      obtain rfl := Clm.uniq C4 CJ
      have s14 := (B.same.trans s3).trans s4
      exact ⟨ah, hs, u, ⟨S1.mono s14, ke1.trans (Kp.ke (Kp.of s14)), Tabs.same T1 s14, po.mono s14, s4.seq sqh, dpAll_ext (ExtN.same s4) _ _ dph, dp4⟩, s3.trans s4, rfl⟩
    rintro σ H3 ⟨ah, hs, y, G, s23, rfl⟩
    obtain ⟨ns, g3, fs⟩ := (B.mono s23).g3
    clear B
    -- the first word
    refine ⟨fun σ H4 => GI K Ts qs J H H4 p c l n t1 x ah hs y ∧ σ = [some (V.ref p), some x, some (V.ref a1), some (V.ref a2), some (V.ref a3), some (V.ref ah), some y, none, none], ?_, ?_⟩
    · refine ⟨_, rfl, x, dP qs, rfl, G.px.dp, nrow R, row_fin (Rr := rShare) R (fun H4 J' s4 C4 => ?_)⟩
      obtain rfl := Clm.uniq C4 CJ
      have G4 := G.same s4
      refine ⟨_, rfl, _, rfl, zero, fun p5 hp5 => ?_⟩
      have s5 := same_new (o := .lst []) hp5
      have G5 := G4.same s5
      refine ⟨.list (hadD qs J'), .list [], .lst G5.sh G5.dh, .lst (SqL.of upd_same) .nil, shaped_had qs J', rfl, _, rfl, rfl, _, rfl, ?_⟩
      rw [had_nil, Bool.not_not, decide_eq_true rfl]
      refine iteF ?_
      refine ⟨_, rfl, x, dP qs, rfl, G5.px.dp, nrow R, row_fin (Rr := rPiv K) R (fun H6 u J2 s6 C6 po6 => ?_)⟩
      obtain rfl := Clm.uniq C6 C4
      have s46 := (s4.trans s5).trans s6
      refine ⟨_, rfl, a3, ns, rfl, .inl ⟨SqL.of (s46 _ _ g3), fun p7 hp7 => ?_⟩⟩
      have s7 := same_new (o := .tup ns) hp7
      have G7 := (G5.same s6).same s7
      refine ⟨dP (sumsC qs J2), dP (sumsC qs J2), (po6.mono s7).dp, Po.dp ⟨p7, ns, rfl, SqT.of upd_same, fs.mono (s46.trans s7)⟩, shaped_dP _, shaped_dP _, _, rfl, ?_⟩
      rw [eqv_poly, decide_eq_true rfl]
      refine iteF ?_
      refine ⟨_, rfl, x, dP qs, rfl, G7.px.dp, nrow R, row_fin (Rr := rPap K) R (fun H8 u8 J3 s8 C8 dp8 => ?_)⟩
      obtain rfl := Clm.uniq C8 C6
      have G8 := G7.same s8
      refine ⟨_, rfl, papD qs J3, papD qs J3, dp8, G8.dp, shaped_papD _ _, shaped_papD _ _, _, rfl, ?_⟩
      rw [can_of (shaped_papD _ _)]
      exact iteF ⟨G8, rfl⟩
    clear G s23 g3 fs
    rintro σ H4 ⟨G, rfl⟩
    -- what is heard
    refine ⟨fun σ H5 => ∃ (a5 : Addr) (u : V), GI K Ts qs J H H5 p c l n t1 x ah hs y ∧ ((isLad qs J = true ∧ H5 a5 = some (.lst [u]) ∧ Dp K H5 u (dLad qs J)) ∨ (isLad qs J = false ∧ H5 a5 = some (.tup [.str "none", u]) ∧ Dp K H5 u (papD qs J))) ∧ σ = [some (V.ref p), some x, some (V.ref a1), some (V.ref a2), some (V.ref a3), some (V.ref ah), some y, some (V.ref a5), none], ?_, ?_⟩
    · refine ⟨G.T, fun Ha xa Ta => ⟨_, rfl, x, dP qs, rfl, (G.ext xa Ta).px.dp, nrow R, row_fin (Rr := rLadOf K C.S) R ⟨fun H' u J' s' C' lad dp => fun p5 hp5 => ?_, fun H' u J' s' C' nlad dp => out_of Hk .s (fun p5 H5 s5 q5 => ?_)⟩⟩⟩
      · obtain rfl := Clm.uniq C' CJ
        have s5 := same_new (o := .lst [u]) hp5
        exact ⟨p5, u, ((G.ext xa Ta).same s').same s5, .inl ⟨lad, upd_same, dps s5 dp⟩, rfl⟩
      · obtain rfl := Clm.uniq C' CJ
        exact ⟨p5, u, ((G.ext xa Ta).same s').same s5, .inr ⟨nlad, q5, dps s5 dp⟩, rfl⟩
    clear G
    rintro σ H5 ⟨a5, u, G, hw, rfl⟩
    obtain ⟨pds, epd⟩ := pap_word (qs := qs) (J := J)
    -- the ladder told
    refine ⟨fun σ H6 => GI K Ts qs J H H6 p c l n t1 x ah hs y ∧ ((isLad qs J = true ∧ H6 a5 = some (.lst [u]) ∧ Dp K H6 u (dLad qs J)) ∨ (isLad qs J = false ∧ H6 a5 = some (.tup [.str "none", u]) ∧ Dp K H6 u (papD qs J))) ∧ σ = [some (V.ref p), some x, some (V.ref a1), some (V.ref a2), some (V.ref a3), some (V.ref ah), some y, some (V.ref a5), none], ?_, ?_⟩
    · refine ⟨_, rfl, zero, fun p6 hp6 => ?_⟩
      have s6 := same_new (o := .lst []) hp6
      have G6 := G.same s6
      refine ⟨.list (hadD qs J), .list [], .lst G6.sh G6.dh, .lst (SqL.of upd_same) .nil, shaped_had qs J, rfl, _, rfl, ?_⟩
      rw [had_nil, Bool.not_not]
      rcases hw with ⟨lad, g5, du⟩ | ⟨nlad, g5, du⟩
      · rw [lad]
        refine iteT ?_
        have eh : hadD qs J = [dLad qs J] := if_pos lad
        refine ⟨_, rfl, _, rfl, .list [dLad qs J], .list (hadD qs J), .lst (SqL.of (s6 _ _ g5)) (.cons (dps s6 du) .nil), .lst G6.sh G6.dh, (by rw [← eh]; exact shaped_had qs J), shaped_had qs J, _, rfl, ?_⟩
        rw [eh, can_of (by rw [← eh]; exact shaped_had qs J)]
        refine iteF ?_
        have dh6 := G6.dh
        rw [eh] at dh6
        obtain ⟨hv, rfl, dhv⟩ : ∃ hv, hs = [hv] ∧ Dp K _ hv (dLad qs J) := by
          cases dh6 with
          | cons h1 h2 =>
            cases h2
            exact ⟨_, rfl, h1⟩
        refine ⟨_, rfl, _, rfl, ah, _, _, hv, rfl, rfl, G6.sh, atI_nat (j := 0) rfl, (by show 2 ≤ sizeLine; decide), fun p7 hp7 => ?_⟩
        have s7 := same_new (o := .tup [V.str "ladder", hv]) hp7
        have G7 := G6.same s7
        have ep := papD_lad lad
        refine ⟨papD qs J, .tuple [.str "ladder", dLad qs J], G7.dp, .tup (SqT.of upd_same) (.cons (.str _) (.cons (dps s7 dhv) .nil)), shaped_papD _ _, (by rw [← ep]; exact shaped_papD _ _), _, rfl, ?_⟩
        rw [ep, can_of (by rw [← ep]; exact shaped_papD _ _)]
        exact iteF ⟨G7, .inl ⟨rfl, (s6.trans s7) _ _ g5, dps (s6.trans s7) du⟩, rfl⟩
      · rw [nlad]
        exact iteF ⟨G6, .inr ⟨rfl, s6 _ _ g5, dps s6 du⟩, rfl⟩
    clear G hw
    rintro σ H6 ⟨G, hw, rfl⟩
    -- no ladder told
    refine ⟨fun σ H7 => GI K Ts qs J H H7 p c l n t1 x ah hs y ∧ ((isLad qs J = true ∧ H7 a5 = some (.lst [u]) ∧ Dp K H7 u (dLad qs J)) ∨ (isLad qs J = false ∧ H7 a5 = some (.tup [.str "none", u]) ∧ Dp K H7 u (papD qs J))) ∧ σ = [some (V.ref p), some x, some (V.ref a1), some (V.ref a2), some (V.ref a3), some (V.ref ah), some y, some (V.ref a5), none], ?_, ?_⟩
    · refine ⟨_, rfl, zero, fun p6 hp6 => ?_⟩
      have s6 := same_new (o := .lst []) hp6
      have G6 := G.same s6
      refine ⟨.list (hadD qs J), .list [], .lst G6.sh G6.dh, .lst (SqL.of upd_same) .nil, shaped_had qs J, rfl, _, rfl, ?_⟩
      rw [had_nil]
      rcases hw with ⟨lad, g5, du⟩ | ⟨nlad, g5, du⟩
      · rw [lad]
        exact iteF ⟨G6, .inl ⟨rfl, s6 _ _ g5, dps s6 du⟩, rfl⟩
      · rw [nlad]
        refine iteT ?_
        have g6 := SqT.of (K := K) (s6 _ _ g5)
        refine ⟨_, rfl, a5, _, 0, _, rfl, rfl, g6, atI_nat (j := 0) rfl, rfl, _, rfl, ?_⟩
        refine ite2 (fun cc => absurd cc (by decide +kernel)) (fun _ => ?_)
        have du6 := dps s6 du
        obtain ⟨au, us, rfl, su, _⟩ := dp_word2 (epd ▸ du6)
        refine ⟨_, rfl, a5, _, 1, _, rfl, rfl, g6, atI_nat (j := 1) rfl, au, _, 0, _, rfl, rfl, su, atI_nat (j := 0) rfl, rfl, _, rfl, ?_⟩
        refine ite2 (fun cc => ?_) (fun _ => ⟨G6, .inr ⟨rfl, s6 _ _ g5, du6⟩, rfl⟩)
        have e := V.str.inj (of_decide_eq_true cc)
        rcases papD_not nlad with ⟨_, w⟩ | ⟨_, _, k, _, w⟩
        · rw [w] at e
          exact absurd e (by show wS ≠ wL; decide +kernel)
        · rw [w] at e
          exact absurd e (by show wR ≠ wL; decide +kernel)
    clear G hw
    rintro σ H7 ⟨G, hw, rfl⟩
    have edue : dueD qs J (papD qs J) = .list [.str (wordD (papD qs J))] := if_pos lp
    have shd := shaped_due Sp_
    rw [edue] at shd
    -- the paper told holds
    refine ⟨fun σ H8 => GI K Ts qs J H H8 p c l n t1 x ah hs y ∧ σ = [some (V.ref p), some x, some (V.ref a1), some (V.ref a2), some (V.ref a3), some (V.ref ah), some y, some (V.ref a5), none], ?_, ?_⟩
    · refine ⟨_, rfl, zero, fun p6 hp6 => ?_⟩
      have s6 := same_new (o := .lst []) hp6
      have G6 := G.same s6
      refine ⟨.list (hadD qs J), .list [], .lst G6.sh G6.dh, .lst (SqL.of upd_same) .nil, shaped_had qs J, rfl, _, rfl, ?_⟩
      rw [had_nil]
      rcases hw with ⟨lad, g5, du⟩ | ⟨nlad, g5, du⟩
      · rw [lad]
        exact iteF ⟨G6, rfl⟩
      · rw [nlad]
        refine iteT ?_
        have g6 := SqT.of (K := K) (s6 _ _ g5)
        have du6 := dps s6 du
        refine ⟨_, rfl, _, rfl, a5, _, 1, _, rfl, rfl, g6, atI_nat (j := 1) rfl, x, u, qs, papD qs J, rfl, G6.px, R, du6, Sp_.sh, fun H8 v8 J8 s8 C8 dp8 => ?_⟩
        obtain rfl := Clm.uniq C8 CJ
        have du8 := dps s8 du6
        obtain ⟨au, us, rfl, su, _⟩ := dp_word2 (epd ▸ du8)
        refine ⟨_, rfl, a5, _, 1, _, rfl, rfl, Bs.Same.t s8 g6, atI_nat (j := 1) rfl, au, _, 0, _, rfl, rfl, su, atI_nat (j := 0) rfl, (by show 1 ≤ sizeLine; decide), fun p9 hp9 => ?_⟩
        have s9 := same_new (o := .lst [V.str (wordD (papD qs J8))]) hp9
        rw [edue] at dp8
        refine ⟨.list [.str (wordD (papD qs J8))], .list [.str (wordD (papD qs J8))], dps s9 dp8, .lst (SqL.of upd_same) (.cons (.str _) .nil), shd, shd, _, rfl, ?_⟩
        rw [can_of shd]
        exact iteF ⟨(G6.same s8).same s9, rfl⟩
    clear G hw
    rintro σ H8 ⟨G, rfl⟩
    -- the sheets
    refine ⟨fun σ H9 => ∃ (u9 : Int) (v8 : Option V), t ≤ u9 ∧ u9 ≤ t + 60 ∧ Sta H9 p c l n u9 ∧ KE p l H H9 ∧ Tabs Ts H9 ∧ Po K H9 x qs ∧ Dp K H9 y (papD qs J) ∧ σ = [some (V.ref p), some x, some (V.ref a1), some (V.ref a2), some (V.ref a3), some (V.ref ah), some y, some (V.ref a5), v8], ?_, ?_⟩
    · refine ⟨_, rfl, _, rfl, _, rfl, _, rfl, p, c, l, n, t1, x, y, qs, J, rfl, G.S, by omega, G.px, R, CJ, G.dp, fun H9 v9 d u9 ua ub S9 k9 dv Sv => ⟨(by show 2 ≤ sizeLine; decide), fun pt hpt => ?_⟩⟩
      have s10 := same_new (o := .tup [y, v9]) hpt
      have px9 := (G.px.kp k9 G.S).mono s10
      have dp9 := dps s10 (dp_kp k9 G.S _ _ (tup_papD _ _) G.dp)
      have dv9 := dps s10 dv
      have T9 := Tabs.same (Tabs.kp G.T G.S k9) s10
      have k90 := (G.k.trans (Kp.ke k9)).trans (Kp.ke (Kp.of (p := p) (l := l) s10))
      refine ⟨pt, rfl, ⟨_, SqT.of upd_same⟩, for_tup (K := K) (a := pt) (xs := [y, v9]) (fun i σ H10 => ∃ (v8 : Option V), SqT K H10 pt [y, v9] ∧ Sta H10 p c l n u9 ∧ KE p l H H10 ∧ Tabs Ts H10 ∧ Po K H10 x qs ∧ Dp K H10 y (papD qs J) ∧ Dp K H10 v9 d ∧ σ = [some (V.ref p), some x, some (V.ref a1), some (V.ref a2), some (V.ref a3), some (V.ref ah), some y, some (V.ref a5), v8])
        ⟨none, SqT.of upd_same, S9.mono s10, k90, T9, px9, dp9, dv9, rfl⟩ (fun i σ H10 _ q => ?_) ?_ ?_⟩
      · obtain ⟨_, q, _⟩ := q
        exact q
      · rintro i sv σ H10 hx ⟨v8, sq, S10, k10, T10, px10, dp10, dv10, rfl⟩
        obtain ⟨e, Sh, de⟩ : ∃ e, Sht qs J e ∧ Dp K H10 sv e := by
          match i, hx with
          | 0, hx =>
            cases hx
            exact ⟨_, Sp_, dp10⟩
          | 1, hx =>
            cases hx
            exact ⟨_, Sv, dv10⟩
        have hd := shaped_due Sh
        refine ⟨T10, fun Ha xa Ta => ⟨_, rfl, _, rfl, x, sv, dP qs, e, rfl, (po_ext xa px10).dp, dp_ext xa _ _ de, nrow R, fun qs' ee _ => ?_⟩⟩
        obtain rfl := dP_inj ee
        refine ⟨R, fun z => (by rw [Sh.fm] at z; cases z), fun wd z => ⟨Sh.sq, Sh.ok, fun b hb => ?_⟩⟩
        obtain rfl : wordD e = wd := Option.some.inj (Sh.fm.symm.trans z)
        have eb := (hb J CJ).trans Sh.eq
        refine ⟨fun hb' H11 s11 => fun p5 hp5 => ?_, fun hb' H11 s11 => out_of Hk .p (fun p5 H12 s12 q5 => ?_)⟩
        · have hT := eb.symm.trans hb'
          have s12 := same_new (o := .lst [V.str (wordD e)]) hp5
          have xe : ExtN H10 _ := (xa.trans (ExtN.same s11)).trans (ExtN.same s12)
          have Te := Tabs.same (Tabs.same Ta s11) s12
          refine ⟨_, rfl, _, rfl, x, sv, qs, e, rfl, po_ext xe px10, R, dp_ext xe _ _ de, Sh.sh, fun H13 u13 J13 s13 C13 d13 => ?_⟩
          obtain rfl := Clm.uniq C13 CJ
          refine ⟨dueD qs J13 e, dueD qs J13 e, dps s13 (dp_due.1 hT upd_same), d13, hd, hd, _, rfl, ?_⟩
          rw [can_of hd]
          have xf := xe.trans (ExtN.same s13)
          exact iteF ⟨_, ExtN.t xf sq, S10.ext xf, k10.trans (ExtN.ke xf), Tabs.same Te s13, po_ext xf px10, dp_ext xf _ _ dp10, dp_ext xf _ _ dv10, rfl⟩
        · have hF := eb.symm.trans hb'
          have xe : ExtN H10 _ := (xa.trans (ExtN.same s11)).trans (ExtN.same s12)
          have Te := Tabs.same (Tabs.same Ta s11) s12
          refine ⟨_, rfl, _, rfl, x, sv, qs, e, rfl, po_ext xe px10, R, dp_ext xe _ _ de, Sh.sh, fun H13 u13 J13 s13 C13 d13 => ?_⟩
          obtain rfl := Clm.uniq C13 CJ
          refine ⟨dueD qs J13 e, dueD qs J13 e, dps s13 (dp_due.2 hF q5), d13, hd, hd, _, rfl, ?_⟩
          rw [can_of hd]
          have xf := xe.trans (ExtN.same s13)
          exact iteF ⟨_, ExtN.t xf sq, S10.ext xf, k10.trans (ExtN.ke xf), Tabs.same Te s13, po_ext xf px10, dp_ext xf _ _ dp10, dp_ext xf _ _ dv10, rfl⟩
      · rintro σ H10 ⟨v8, sq, S10, k10, T10, px10, dp10, dv10, rfl⟩
        exact ⟨u9, v8, by omega, by omega, S10, k10, T10, px10, dp10, rfl⟩
    clear G
    rintro σ H9 ⟨u9, v8, ua, ub, S9, k9, T9, px9, dp9, rfl⟩
    refine ⟨_, rfl, _, rfl, x, y, qs, papD qs J, rfl, px9, R, dp9, Sp_.sh, fun H10 v10 J10 s10 C10 d10 => ?_⟩
    obtain rfl := Clm.uniq C10 CJ
    have dp10 := dps s10 dp9
    obtain ⟨ay, ys, rfl, sy, _⟩ := dp_word2 (epd ▸ dp10)
    refine ⟨_, rfl, ay, _, 0, _, rfl, rfl, sy, atI_nat (j := 0) rfl, (by show 1 ≤ sizeLine; decide), fun p11 hp11 => ?_⟩
    have s11 := same_new (o := .lst [V.str (wordD (papD qs J10))]) hp11
    rw [edue] at d10
    refine ⟨.list [.str (wordD (papD qs J10))], .list [.str (wordD (papD qs J10))], dps s11 d10, .lst (SqL.of upd_same) (.cons (.str _) .nil), shd, shd, ?_⟩
    rw [can_of shd]
    have s9 := s10.trans s11
    exact kk _ u9 ua ub (S9.mono s9) (k9.trans (Kp.ke (Kp.of s9))) (Tabs.same T9 s9)
end
end Rs


set_option Elab.async false
set_option linter.all false
set_option maxRecDepth 100000
set_option maxHeartbeats 1000000
namespace Rs
open PySem L2 Bs Fq LamX LmD RZ Hd TA2
abbrev sRefused : Stmt := top 85
theorem nope {b : Bool} {α : Prop} (h : b = false) (z : b = true) : α := by
  rw [h] at z
  cases z
theorem dpAll_get {K : PySem.W.Frag} {H : Hp} : ∀ {ds : List PyData} {xs : List V} {i : Nat} {x : V}, DpAll K H xs ds → xs[i]? = some x → ∃ d, ds[i]? = some d ∧ d ∈ ds ∧ Dp K H x d
  | _, _, i, x, .nil, h => by simp at h
  | _, _, 0, x, .cons h1 h2, h => by
    simp only [List.getElem?_cons_zero, Option.some.injEq] at h
    rw [← h]
    exact ⟨_, rfl, List.mem_cons_self, h1⟩
  | _, _, i + 1, x, .cons h1 h2, h => by
    simp only [List.getElem?_cons_succ] at h
    obtain ⟨d, g, m, e⟩ := dpAll_get h2 h
    exact ⟨d, g, List.mem_cons_of_mem _ m, e⟩
theorem dpAll_rep {K : PySem.W.Frag} {H : Hp} {v : V} {d : PyData} (h : Dp K H v d) : ∀ n, DpAll K H (List.replicate n v) (List.replicate n d)
  | 0 => .nil
  | n + 1 => .cons h (dpAll_rep h n)
def dW (x : Str) (d : PyData) : PyData := .tuple [.str x, d]
def rs1 : List PyData := [.none, .tuple [], .tuple [.tuple [.int (0), .int (1)]], .list [.tuple [.int (1), .int (1)]], .tuple [.tuple [.int (1), .int (1)], .int (2)]]
def od2 : List PyData := [.none, .tuple [], .str "ladder", .tuple [.str "ladder"], .list [.str "square", .tuple []], .tuple [.str "square", .tuple [], .int (0)], .tuple [.str "rest", .tuple []], .tuple [.str "Ladder", .tuple []]]
def ex2 : List PyData := [.tuple [.none, .tuple []]]
def od3 : List PyData := [.tuple [.str "ladder", .none], .tuple [.str "square", .none], .tuple [.str "square", .tuple []], .tuple [.str "rest", .none, .int (0)], .tuple [.str "rest", .tuple [], .int (0)]]
def ex3 : List PyData := [.tuple [.str "rest", .tuple [.tuple [.int (0), .int (1)], .tuple [.int (1), .int (1)]], .bool true]]
def rw3 : List F := [(1, 1), (0, 1), (1, 1)]
theorem rs1_ok : ∀ d ∈ rs1, rowD d = false ∧ shB (.list (List.replicate 5 (dW "row" d))) = true := by decide +kernel
theorem rs2_ok : ∀ d ∈ od2 ++ ex2, formD d = none := by decide +kernel
theorem ok_lit {q : F} (h : Fq.Ok q) (b : q.2 ∣ 256) (a : q.1.natAbs ≤ 2 ^ 20) : Cb 256 30 q := (cb_dvd (n := 20) (m := 8) h b (by decide) a (by decide)).mono (by decide)
theorem rw3_ok : RowOk rw3 := ⟨fun q hq => by
    simp only [rw3, List.mem_cons, List.not_mem_nil, or_false] at hq
    rcases hq with rfl | rfl | rfl <;> exact ok_lit ⟨by decide, by decide⟩ (by decide) (by decide), by decide, by decide, by decide⟩
theorem rw3_clm : Clm rw3 1 := ⟨fun j h => by
    obtain rfl : j = 0 := by omega
    decide +kernel, fun j h => by
    obtain rfl : j = 0 := by omega
    decide, fun h => absurd h (by decide)⟩
theorem cl3 {J : Nat} (h : Clm rw3 J) : J = 1 := Clm.uniq h rw3_clm
def la3 : PyData := .tuple [.str "ladder", .tuple [.tuple [.int (1), .int (1)], .tuple [.tuple [.int (0), .int (1)]], .tuple [.tuple [.int (1), .int (1)]]]]
theorem la3_ok : formD la3 = some wL ∧ SeqAt.shaped la3 = true ∧ holdD rw3 1 la3 = true := by
  refine ⟨by decide +kernel, by decide +kernel, ?_⟩
  have e1 : last rw3 1 = 1 := by decide +kernel
  have e2 : papD rw3 1 = .tuple [.str "ladder", dLad rw3 1] := by
    unfold papD
    rw [if_neg (by rw [e1]; decide), if_neg (by rw [e1]; decide)]
  show (if wL = wS then sqD rw3 (.tuple [.tuple [.int 1, .int 1], .tuple [.tuple [.int 0, .int 1]], .tuple [.tuple [.int 1, .int 1]]]) else ladderD (.tuple [.tuple [.int 1, .int 1], .tuple [.tuple [.int 0, .int 1]], .tuple [.tuple [.int 1, .int 1]]]) && PyData.eqv (papD rw3 1) la3) = true
  rw [if_neg (by decide +kernel), e2]
  decide +kernel
theorem la3_sq : SqOf rw3 (secD la3) := fun w e => absurd e (dL_dP (T := (1, 1)) (ls := [(0, 1)]) (ss := [(1, 1)]))
theorem s3_lit {q : F} (h : Fq.Ok q) (b : q.2 ≤ 3) (a : q.1.natAbs < 16) : S3 q := ⟨h, b, a⟩
theorem sq_none : SqOf rw3 .none := fun w e => by cases e
theorem sq_nil : SqOf rw3 (dP []) := sqOf_dP (sqOk_s3 fun q h => by cases h)
theorem sq_line : SqOf rw3 (dP [(0, 1), (1, 1)]) := sqOf_dP (sqOk_s3 fun q h => by
  simp only [List.mem_cons, List.not_mem_nil, or_false] at h
  rcases h with rfl | rfl <;> exact ⟨⟨by decide, by decide⟩, by decide, by decide⟩)
theorem rs3_ok : ∀ d ∈ od3 ++ ex3, formD d = some (wordD d) ∧ SqOf rw3 (secD d) ∧ SeqAt.shaped d = true ∧ holdD rw3 1 d = false ∧ SeqAt.shaped (.tuple [.str "paper", .str (wordD d)]) = true ∧ ∃ ds, d = .tuple (.str (wordD d) :: ds) := by
  intro d hd
  simp only [od3, ex3, List.cons_append, List.nil_append, List.mem_cons, List.not_mem_nil, or_false] at hd
  rcases hd with rfl | rfl | rfl | rfl | rfl | rfl
  · exact ⟨by decide +kernel, sq_none, by decide +kernel, by decide +kernel, by decide +kernel, _, rfl⟩
  · exact ⟨by decide +kernel, sq_none, by decide +kernel, by decide +kernel, by decide +kernel, _, rfl⟩
  · exact ⟨by decide +kernel, sq_nil, by decide +kernel, by decide +kernel, by decide +kernel, _, rfl⟩
  · exact ⟨by decide +kernel, sq_none, by decide +kernel, by decide +kernel, by decide +kernel, _, rfl⟩
  · exact ⟨by decide +kernel, sq_nil, by decide +kernel, by decide +kernel, by decide +kernel, _, rfl⟩
  · exact ⟨by decide +kernel, sq_line, by decide +kernel, by decide +kernel, by decide +kernel, _, rfl⟩
theorem dps_all {K : PySem.W.Frag} {H H' : Hp} (e : Same H H') {ds : List PyData} {vs : List V} (h : DpAll K H vs ds) : DpAll K H' vs ds := dpAll_ext (ExtN.same e) _ _ h
abbrev NR_ : List Str := ["odd", "heard", "row", "odds"]
/-- _law_refused_good() -/
def spRefused (Ts : List (Addr × Str)) : Sp := fun vs H Q _ => vs = [] ∧ Tabs Ts H ∧ ∀ H', ExtN H H' → Tabs Ts H' → Q (.bl true) H'
theorem scRefused : FnScope NR_ [] (defScope sRefused) := ⟨rfl, rfl, rfl, by decide +kernel, rfl, by decide +kernel, by decide +kernel⟩
theorem nown : ∀ i : Nat, NR_[i]? ≠ some "own"
  | 0 => by decide
  | 1 => by decide
  | 2 => by decide
  | 3 => by decide
  | i + 4 => by simp
section
variable {P : Program} {w : World} {K : PySem.W.Frag} {mg : Str → Option Value} {base : Heap} {f c1 P1 g : Addr} {C : Cls} {fd : FuncData} {Ts : List (Addr × Str)}
theorem ok_refused (F : FunC K "_law_refused_good" "_law_refused_good" sRefused f fd c1) (T : Blt mg) (Hk : HeardK K mg g C)
    (Tk : ∀ A outer s H E, TabOk (cxOf CX0 P w K mg base NR_ "_law_refused_good" (defScope sRefused) f (.ref c1) A outer s H E).nox Ts c1 P1)
    (RP : CalX P w K mg base 8 "row_paper" (spRow K C.R (rPap K))) (IS : CalX P w K mg base 9 "is_of_share" (spRow K C.R rShare)) (PV_ : CalX P w K mg base 7 "pivots" (spRow K C.R (rPiv K))) (LO : CalX P w K mg base 9 "ladder_of" (spRow K C.R (rLadOf K C.S))) (CH : CalX P w K mg base 9 "check_row" (spCheck K C.R C.P)) :
    FnG P w K mg base 12 f fd [] (spRefused Ts) := by
  refine FnG.okC F scRefused (fun vs H Q E h => ?_) (fun A outer s H vs Q E hgd hr h => ?_)
  · obtain ⟨rfl, _⟩ := h
    rfl
  · obtain ⟨rfl, TT, kk⟩ := h
    refine ⟨_, (C8.pss_cut (ps_for PassesOwn.never rfl (pi_tup (pe_tup (pa_cons pe_non (pa_cons (pe_tup pa_nil) (pa_cons (pe_tup (pa_cons (pe_tup (pa_cons pe_int (pa_cons pe_int pa_nil))) pa_nil)) (pa_cons (pe_lst (pa_cons (pe_tup (pa_cons pe_int (pa_cons pe_int pa_nil))) pa_nil)) (pa_cons (pe_tup (pa_cons (pe_tup (pa_cons pe_int (pa_cons pe_int pa_nil))) (pa_cons pe_int pa_nil))) pa_nil))))))) (pg_name (i := 0) scRefused.nd rfl (Or.inr rfl))
        (C8.pss_cut (ps_set (i := 1) scRefused.nd rfl (Or.inl rfl) (pe_lst (pa_cons (pe_hd (k := 9) (t := (fun E => tCall (spRow K C.R rShare) [] E (tCons (tVar 0) tNil))) Hk (Tk A outer s H E) hr (by rfl) (lamS_by (sc := defScope sRefused) (by decide +kernel)) (fun A' outer' s' H' E' f' c' hr' => pe_x IS hr' (by decide) (by rfl) (passes_call (takes_of rfl rfl rfl rfl) (fun _ _ _ _ h => h)) (pa_cons (pv 0) pa_nil))) (pa_cons (pe_hdD (k := 9) (t := (fun E => tCall (spRow K C.R (rLadOf K C.S)) [] E (tCons (tVar 0) tNil))) Hk (Tk A outer s H E) hr (by rfl) (scD_by (sc := defScope sRefused) (by decide +kernel)) nown bindD (fun A' outer' s' H' E' f' c' hr' => pe_x LO hr' (by decide) (by rfl) (passes_call (takes_of rfl rfl rfl rfl) (fun _ _ _ _ h => h)) (pa_cons (pv 0) pa_nil))) pa_nil))))
        (C8.pss_cut (ps_set (i := 1) scRefused.nd rfl (Or.inl rfl) (pe_op op_cat (pv 1) (pe_lst (pa_cons (pe_hd (k := 9) (t := (fun E => tCall (spRow K C.R (rPap K)) [] E (tCons (tVar 0) tNil))) Hk (Tk A outer s H E) hr (by rfl) (lamS_by (sc := defScope sRefused) (by decide +kernel)) (fun A' outer' s' H' E' f' c' hr' => pe_x RP hr' (by decide) (by rfl) (passes_call (takes_of rfl rfl rfl rfl) (fun _ _ _ _ h => h)) (pa_cons (pv 0) pa_nil))) (pa_cons (pe_hdD (k := 9) (t := (fun E => tCall (spRow K C.R (rPiv K)) [] E (tCons (tVar 0) tNil))) Hk (Tk A outer s H E) hr (by rfl) (scD_by (sc := defScope sRefused) (by decide +kernel)) nown bindD (fun A' outer' s' H' E' f' c' hr' => pe_x PV_ hr' (by decide) (by rfl) (passes_call (takes_of rfl rfl rfl rfl) (fun _ _ _ _ h => h)) (pa_cons (pv 0) pa_nil))) pa_nil)))))
        (pss_one (ps_if (pt_cmpR op_ne (pe_callB (call_repr hgd hr.units) (by rfl) T.repr (by decide +kernel) (pa_cons (pe_op op_cat (pv 1) (pe_lst (pa_cons (pe_hd (k := 9) (t := (fun E => tCall (spCheck K C.R C.P) [] E (tCons (tVar 0) (tCons (tC .non) tNil)))) Hk (Tk A outer s H E) hr (by rfl) (lamS_by (sc := defScope sRefused) (by decide +kernel)) (fun A' outer' s' H' E' f' c' hr' => pe_x CH hr' (by decide) (by rfl) (passes_call (takes_of rfl rfl rfl rfl) (fun _ _ _ _ h => h)) (pa_cons (pv 0) (pa_cons pe_non pa_nil)))) pa_nil))) pa_nil)) (pe_callB (call_repr hgd hr.units) (by rfl) T.repr (by decide +kernel) (pa_cons (pe_op op_rep (pe_lst (pa_cons (pe_tup (pa_cons pe_str (pa_cons (pv 0) pa_nil))) pa_nil)) pe_int) pa_nil)) (nomark _)) (pss_one (ps_ret pe_bl)) pss_nil)))))
      (C8.pss_cut (ps_set (i := 2) scRefused.nd rfl (Or.inr rfl) (pe_tup (pa_cons (pe_tup (pa_cons pe_int (pa_cons pe_int pa_nil))) (pa_cons (pe_tup (pa_cons pe_int (pa_cons pe_int pa_nil))) (pa_cons (pe_tup (pa_cons pe_int (pa_cons pe_int pa_nil))) pa_nil)))))
      (C8.pss_cut (ps_set (i := 3) scRefused.nd rfl (Or.inl rfl) (pe_lst (pa_cons pe_non (pa_cons (pe_tup pa_nil) (pa_cons pe_str (pa_cons (pe_tup (pa_cons pe_str pa_nil)) (pa_cons (pe_lst (pa_cons pe_str (pa_cons (pe_tup pa_nil) pa_nil))) (pa_cons (pe_tup (pa_cons pe_str (pa_cons (pe_tup pa_nil) (pa_cons pe_int pa_nil)))) (pa_cons (pe_tup (pa_cons pe_str (pa_cons (pe_tup pa_nil) pa_nil))) (pa_cons (pe_tup (pa_cons pe_str (pa_cons (pe_tup pa_nil) pa_nil))) pa_nil))))))))))
      (C8.pss_cut (ps_for PassesOwn.never rfl (pi_list (pe_op op_cat (pv 3) (pe_lst (pa_cons (pe_tup (pa_cons pe_non (pa_cons (pe_tup pa_nil) pa_nil))) pa_nil)))) (pg_name (i := 0) scRefused.nd rfl (Or.inr rfl))
        (pss_one (ps_if (pt_cmpR (op_neD hr.units) (pe_hd (k := 9) (t := (fun E => tCall (spCheck K C.R C.P) [] E (tCons (tVar 2) (tCons (tVar 0) tNil)))) Hk (Tk A outer s H E) hr (by rfl) (lamS_by (sc := defScope sRefused) (by decide +kernel)) (fun A' outer' s' H' E' f' c' hr' => pe_x CH hr' (by decide) (by rfl) (passes_call (takes_of rfl rfl rfl rfl) (fun _ _ _ _ h => h)) (pa_cons (pv 2) (pa_cons (pv 0) pa_nil)))) (pe_tup (pa_cons pe_str (pa_cons pe_str pa_nil))) (nomark _)) (pss_one (ps_ret pe_bl)) pss_nil)))
      (C8.pss_cut (ps_set (i := 3) scRefused.nd rfl (Or.inl rfl) (pe_lst (pa_cons (pe_tup (pa_cons pe_str (pa_cons pe_non pa_nil))) (pa_cons (pe_tup (pa_cons pe_str (pa_cons pe_non pa_nil))) (pa_cons (pe_tup (pa_cons pe_str (pa_cons (pe_tup pa_nil) pa_nil))) (pa_cons (pe_tup (pa_cons pe_str (pa_cons pe_non (pa_cons pe_int pa_nil)))) (pa_cons (pe_tup (pa_cons pe_str (pa_cons (pe_tup pa_nil) (pa_cons pe_int pa_nil)))) pa_nil)))))))
      (C8.pss_cut (ps_for PassesOwn.never rfl (pi_list (pe_op op_cat (pv 3) (pe_lst (pa_cons (pe_tup (pa_cons pe_str (pa_cons (pe_tup (pa_cons (pe_tup (pa_cons pe_int (pa_cons pe_int pa_nil))) (pa_cons (pe_tup (pa_cons pe_int (pa_cons pe_int pa_nil))) pa_nil))) (pa_cons pe_bl pa_nil)))) pa_nil)))) (pg_name (i := 0) scRefused.nd rfl (Or.inr rfl))
        (pss_one (ps_if (pt_cmpR (op_neD hr.units) (pe_hd (k := 9) (t := (fun E => tCall (spCheck K C.R C.P) [] E (tCons (tVar 2) (tCons (tVar 0) tNil)))) Hk (Tk A outer s H E) hr (by rfl) (lamS_by (sc := defScope sRefused) (by decide +kernel)) (fun A' outer' s' H' E' f' c' hr' => pe_x CH hr' (by decide) (by rfl) (passes_call (takes_of rfl rfl rfl rfl) (fun _ _ _ _ h => h)) (pa_cons (pv 2) (pa_cons (pv 0) pa_nil)))) (pe_tup (pa_cons pe_str (pa_cons (pe_ix ix_tup (pv 0) pe_int (fun _ _ => rfl)) pa_nil))) (nomark _)) (pss_one (ps_ret pe_bl)) pss_nil)))
      (pss_one (ps_ret (pe_cmpR op_eq (pe_x CH hr (by decide) (by rfl) passL (pa_cons (pv 2) (pa_cons (pe_tup (pa_cons pe_str (pa_cons (pe_tup (pa_cons (pe_tup (pa_cons pe_int (pa_cons pe_int pa_nil))) (pa_cons (pe_tup (pa_cons (pe_tup (pa_cons pe_int (pa_cons pe_int pa_nil))) pa_nil)) (pa_cons (pe_tup (pa_cons (pe_tup (pa_cons pe_int (pa_cons pe_int pa_nil))) pa_nil)) pa_nil)))) pa_nil))) pa_nil))) pe_str (nomark _)))))))))), ?_⟩
    have big : ∀ n : Nat, n ≤ 1000 → n ≤ sizeLine := fun n h => Nat.le_of_lt (small1000 h)

    refine ⟨fun σ H3 => ∃ v0 v1 : Option V, ExtN H H3 ∧ Tabs Ts H3 ∧ σ = [v0, v1, none, none], ?_, ?_⟩
    · refine ⟨(by show 0 ≤ sizeLine; decide), fun a0 ha0 => ⟨(by show 2 ≤ sizeLine; decide), fun a1 ha1 => ⟨(by show 1 ≤ sizeLine; decide), fun a2 ha2 => ⟨(by show 2 ≤ sizeLine; decide), fun a3 ha3 => ⟨(by show 1 ≤ sizeLine; decide), fun a4 ha4 => ⟨(by show 2 ≤ sizeLine; decide), fun a5 ha5 => ⟨(by show 2 ≤ sizeLine; decide), fun a6 ha6 => ⟨(by show 5 ≤ sizeLine; decide), fun a7 ha7 => ?_⟩⟩⟩⟩⟩⟩⟩⟩
      have ua0 := same_new (o := .tup []) ha0
      have ua1 := same_new (o := .tup [.int (0), .int (1)]) ha1
      have ua2 := same_new (o := .tup [.ref a1]) ha2
      have ua3 := same_new (o := .tup [.int (1), .int (1)]) ha3
      have ua4 := same_new (o := .lst [.ref a3]) ha4
      have ua5 := same_new (o := .tup [.int (1), .int (1)]) ha5
      have ua6 := same_new (o := .tup [.ref a5, .int (2)]) ha6
      have ua7 := same_new (o := .tup [.non, .ref a0, .ref a2, .ref a4, .ref a6]) ha7
      have mm := (ua0.trans (ua1.trans (ua2.trans (ua3.trans (ua4.trans (ua5.trans (ua6.trans ua7)))))))
      have dA : DpAll K _ [.non, .ref a0, .ref a2, .ref a4, .ref a6] rs1 := (.cons .non (.cons (dps (ua1.trans (ua2.trans (ua3.trans (ua4.trans (ua5.trans (ua6.trans ua7)))))) (show Dp K _ (.ref a0) (.tuple []) from (.tup (SqT.of upd_same) .nil))) (.cons (dps (ua3.trans (ua4.trans (ua5.trans (ua6.trans ua7)))) (show Dp K _ (.ref a2) (.tuple [.tuple [.int (0), .int (1)]]) from (.tup (SqT.of upd_same) (.cons (dps ua2 (show Dp K _ (.ref a1) (.tuple [.int (0), .int (1)]) from (.tup (SqT.of upd_same) (.cons (.int _) (.cons (.int _) .nil))))) .nil)))) (.cons (dps (ua5.trans (ua6.trans ua7)) (show Dp K _ (.ref a4) (.list [.tuple [.int (1), .int (1)]]) from (.lst (SqL.of upd_same) (.cons (dps ua4 (show Dp K _ (.ref a3) (.tuple [.int (1), .int (1)]) from (.tup (SqT.of upd_same) (.cons (.int _) (.cons (.int _) .nil))))) .nil)))) (.cons (dps ua7 (show Dp K _ (.ref a6) (.tuple [.tuple [.int (1), .int (1)], .int (2)]) from (.tup (SqT.of upd_same) (.cons (dps ua6 (show Dp K _ (.ref a5) (.tuple [.int (1), .int (1)]) from (.tup (SqT.of upd_same) (.cons (.int _) (.cons (.int _) .nil))))) (.cons (.int _) .nil))))) .nil)))))
      refine ⟨a7, rfl, ⟨_, SqT.of upd_same⟩, for_tup (K := K) (a := a7) (xs := [.non, .ref a0, .ref a2, .ref a4, .ref a6]) (fun i σ H4 => ∃ v0 v1 : Option V, ExtN H H4 ∧ Tabs Ts H4 ∧ SqT K H4 a7 [.non, .ref a0, .ref a2, .ref a4, .ref a6] ∧ DpAll K H4 [.non, .ref a0, .ref a2, .ref a4, .ref a6] rs1 ∧ σ = [v0, v1, none, none])
        ⟨none, none, ExtN.same mm, Tabs.same TT mm, SqT.of upd_same, dA, rfl⟩ (fun i σ H4 _ q => ?_) ?_ ?_⟩
      · obtain ⟨_, _, _, _, q, _⟩ := q
        exact q
      · rintro i x σ H4 hx ⟨v0, v1, x4, T4, g4, d4, rfl⟩
        obtain ⟨d, _, md, dx⟩ := dpAll_get d4 hx
        obtain ⟨bf, shd0⟩ := rs1_ok d md
        have shd := sh_by shd0
        refine ⟨fun σ H5 => ∃ (l : Addr) (ys : List V), ExtN H4 H5 ∧ Tabs Ts H5 ∧ H5 l = some (.lst ys) ∧ DpAll K H5 ys (List.replicate 2 (dW "row" d)) ∧ σ = [some x, some (.ref l), none, none], ?_, ?_⟩
        · refine ⟨T4, fun Ha1 xa1 Ta1 => ⟨_, rfl, _, d, rfl, ExtN.t2 xa1 dx, (fun _ Hb1 sb1 => out_of Hk .r (fun p1 H5 s1 q1 => ?_)), (fun _ _ z => nope bf z)⟩⟩
          have y1 : ExtN H4 H5 := ExtN.trans xa1 (ExtN.same (sb1.trans s1))
          have T1 := Tabs.same Ta1 (sb1.trans s1)
          refine ⟨T1, fun Ha2 xa2 Ta2 => ⟨_, rfl, _, d, rfl, ExtN.t2 (ExtN.trans y1 xa2) dx, (fun _ Hb2 sb2 => out_of Hk .r (fun p2 H6 s2 q2 => ?_)), (fun _ _ z => nope bf z)⟩⟩
          have y2 : ExtN H5 H6 := ExtN.trans xa2 (ExtN.same (sb2.trans s2))
          have T2 := Tabs.same Ta2 (sb2.trans s2)
          refine ⟨big 2 (by decide), fun l hl => ?_⟩
          have s3 := same_new (o := .lst [.ref p1, .ref p2]) hl
          have e1 : Dp K H6 (.ref p1) (dW "row" d) := dp_word (ExtN.tp y2 q1) (ExtN.t2 (ExtN.trans y1 y2) dx)
          have e2 : Dp K H6 (.ref p2) (dW "row" d) := dp_word q2 (ExtN.t2 (ExtN.trans y1 y2) dx)
          exact ⟨l, _, ExtN.trans (ExtN.trans y1 y2) (ExtN.same s3), Tabs.same T2 s3, upd_same, .cons (dps s3 e1) (.cons (dps s3 e2) .nil), rfl⟩
        rintro σ H5 ⟨l, ys, x5, T5, g5, d5, rfl⟩
        have ln := dpAll_len d5
        rw [List.length_replicate] at ln
        refine ⟨fun σ H5 => ∃ (l : Addr) (ys : List V), ExtN H4 H5 ∧ Tabs Ts H5 ∧ H5 l = some (.lst ys) ∧ DpAll K H5 ys (List.replicate 4 (dW "row" d)) ∧ σ = [some x, some (.ref l), none, none], ?_, ?_⟩
        · refine ⟨_, rfl, T5, fun Ha1 xa1 Ta1 => ⟨_, rfl, _, d, rfl, ExtN.t2 (ExtN.trans x5 xa1) dx, (fun _ Hb1 sb1 => out_of Hk .r (fun p1 H6 s1 q1 => ?_)), (fun _ _ z => nope bf z)⟩⟩
          have y1 : ExtN H5 H6 := ExtN.trans xa1 (ExtN.same (sb1.trans s1))
          have T1 := Tabs.same Ta1 (sb1.trans s1)
          refine ⟨T1, fun Ha2 xa2 Ta2 => ⟨_, rfl, _, d, rfl, ExtN.t2 (ExtN.trans (ExtN.trans x5 y1) xa2) dx, (fun _ Hb2 sb2 => out_of Hk .r (fun p2 H7 s2 q2 => ?_)), (fun _ _ z => nope bf z)⟩⟩
          have y2 : ExtN H6 H7 := ExtN.trans xa2 (ExtN.same (sb2.trans s2))
          have T2 := Tabs.same Ta2 (sb2.trans s2)
          have y12 := ExtN.trans y1 y2
          have x7 := ExtN.trans x5 y12
          refine ⟨big 2 (by decide), fun l2 hl2 => ?_⟩
          have s3 := same_new (o := .lst [.ref p1, .ref p2]) hl2
          have e1 : Dp K H7 (.ref p1) (dW "row" d) := dp_word (ExtN.tp y2 q1) (ExtN.t2 x7 dx)
          have e2 : Dp K H7 (.ref p2) (dW "row" d) := dp_word q2 (ExtN.t2 x7 dx)
          refine ⟨l, l2, ys, _, rfl, rfl, s3 _ _ (ExtN.l y12 g5), upd_same, big _ (by rw [ln]; show 4 ≤ 1000; decide), fun l3 hl3 => ?_⟩
          have s4 := same_new (o := .lst (ys ++ [.ref p1, .ref p2])) hl3
          have s34 := s3.trans s4
          exact ⟨l3, _, ExtN.trans x7 (ExtN.same s34), Tabs.same T2 s34, upd_same, dpAll_app (ds := List.replicate 2 (dW "row" d)) (es := [dW "row" d, dW "row" d]) (dpAll_ext (ExtN.trans y12 (ExtN.same s34)) _ _ d5) (.cons (dps s34 e1) (.cons (dps s34 e2) .nil)), rfl⟩
        clear x5 T5 g5 d5 ln
        rintro σ H5 ⟨l, ys, x5, T5, g5, d5, rfl⟩
        have ln := dpAll_len d5
        rw [List.length_replicate] at ln
        refine ⟨_, rfl, T5, fun Ha1 xa1 Ta1 => ⟨_, rfl, _, _, d, .none, rfl, ExtN.t2 (ExtN.trans x5 xa1) dx, .non, (fun _ Hb1 sb1 => out_of Hk .r (fun p1 H6 s1 q1 => ?_)), (fun _ _ z => nope bf z)⟩⟩
        have y1 : ExtN H5 H6 := ExtN.trans xa1 (ExtN.same (sb1.trans s1))
        have T1 := Tabs.same Ta1 (sb1.trans s1)
        have x6 := ExtN.trans x5 y1
        refine ⟨big 1 (by decide), fun l2 hl2 => ?_⟩
        have s3 := same_new (o := .lst [.ref p1]) hl2
        have e1 : Dp K H6 (.ref p1) (dW "row" d) := dp_word q1 (ExtN.t2 x6 dx)
        refine ⟨l, l2, ys, _, rfl, rfl, s3 _ _ (ExtN.l y1 g5), upd_same, big _ (by rw [ln]; show 5 ≤ 1000; decide), fun l3 hl3 => ?_⟩
        have s4 := same_new (o := .lst (ys ++ [.ref p1])) hl3
        have s34 := s3.trans s4
        have dH : DpAll K _ (ys ++ [.ref p1]) (List.replicate 5 (dW "row" d)) := dpAll_app (ds := List.replicate 4 (dW "row" d)) (es := [dW "row" d]) (dpAll_ext (ExtN.trans y1 (ExtN.same s34)) _ _ d5) (.cons (dps s34 e1) .nil)
        refine ⟨l3, .list (List.replicate 5 (dW "row" d)), rfl, .lst (SqL.of upd_same) dH, shd.s, shd.n, shd.dep, shd.l, ?_⟩
        refine ⟨_, rfl, big 2 (by decide), fun p4 hp4 => ⟨big 1 (by decide), fun l4 hl4 => ?_⟩⟩
        have s7 := same_new (o := .tup [.str "row", x]) hp4
        have s8 := same_new (o := .lst [.ref p4]) hl4
        refine ⟨l4, 5, _, rfl, rfl, upd_same, by decide, by decide, (by show 5 ≤ sizeLine; decide), fun l5 hl5 => ?_⟩
        have s9 := same_new (o := .lst (List.replicate 5 (.ref p4))) hl5
        have x34 := ExtN.trans x6 (ExtN.same s34)
        have e4 := dps (s8.trans s9) (dp_word upd_same (dps s7 (ExtN.t2 x34 dx)))
        refine ⟨l5, .list (List.replicate 5 (dW "row" d)), rfl, .lst (SqL.of upd_same) (dpAll_rep e4 5), shd.s, shd.n, shd.dep, shd.l, rfl, false, by simp, ?_⟩
        have s79 := s7.trans (s8.trans s9)
        have xe := ExtN.trans x34 (ExtN.same s79)
        have Te := Tabs.same (Tabs.same T1 s34) s79
        exact ⟨some x, some (.ref l), ExtN.trans x4 xe, Te, ExtN.t xe g4, dpAll_ext xe _ _ d4, rfl⟩
      · rintro σ H4 ⟨v0, v1, x4, T4, _, _, rfl⟩
        exact ⟨v0, v1, x4, T4, rfl⟩
    rintro σ H1 ⟨v0, v1, x1, T1, rfl⟩
    refine ⟨fun σ H3 => ∃ (rr : Addr), ExtN H H3 ∧ Tabs Ts H3 ∧ Dp K H3 (.ref rr) (dP rw3) ∧ σ = [v0, v1, some (.ref rr), none], ?_, ?_⟩
    · refine ⟨(by show 2 ≤ sizeLine; decide), fun b0 hb0 => ⟨(by show 2 ≤ sizeLine; decide), fun b1 hb1 => ⟨(by show 2 ≤ sizeLine; decide), fun b2 hb2 => ⟨(by show 3 ≤ sizeLine; decide), fun b3 hb3 => ?_⟩⟩⟩⟩
      have ub0 := same_new (o := .tup [.int (1), .int (1)]) hb0
      have ub1 := same_new (o := .tup [.int (0), .int (1)]) hb1
      have ub2 := same_new (o := .tup [.int (1), .int (1)]) hb2
      have ub3 := same_new (o := .tup [.ref b0, .ref b1, .ref b2]) hb3
      have mm := (ub0.trans (ub1.trans (ub2.trans ub3)))
      exact ⟨b3, ExtN.trans x1 (ExtN.same mm), Tabs.same T1 mm, (show Dp K _ (.ref b3) (.tuple [.tuple [.int (1), .int (1)], .tuple [.int (0), .int (1)], .tuple [.int (1), .int (1)]]) from (.tup (SqT.of upd_same) (.cons (dps (ub1.trans (ub2.trans ub3)) (show Dp K _ (.ref b0) (.tuple [.int (1), .int (1)]) from (.tup (SqT.of upd_same) (.cons (.int _) (.cons (.int _) .nil))))) (.cons (dps (ub2.trans ub3) (show Dp K _ (.ref b1) (.tuple [.int (0), .int (1)]) from (.tup (SqT.of upd_same) (.cons (.int _) (.cons (.int _) .nil))))) (.cons (dps ub3 (show Dp K _ (.ref b2) (.tuple [.int (1), .int (1)]) from (.tup (SqT.of upd_same) (.cons (.int _) (.cons (.int _) .nil))))) .nil))))), rfl⟩
    rintro σ H2 ⟨rr, x2, T2, dr, rfl⟩
    clear x1 T1
    refine ⟨fun σ H3 => ∃ (Lo : Addr) (xo : List V), ExtN H H3 ∧ Tabs Ts H3 ∧ Dp K H3 (.ref rr) (dP rw3) ∧ H3 Lo = some (.lst xo) ∧ DpAll K H3 xo od2 ∧ σ = [v0, v1, some (.ref rr), some (.ref Lo)], ?_, ?_⟩
    · refine ⟨(by show 0 ≤ sizeLine; decide), fun c0 hc0 => ⟨(by show 1 ≤ sizeLine; decide), fun c1 hc1 => ⟨(by show 0 ≤ sizeLine; decide), fun c2 hc2 => ⟨(by show 2 ≤ sizeLine; decide), fun c3 hc3 => ⟨(by show 0 ≤ sizeLine; decide), fun c4 hc4 => ⟨(by show 3 ≤ sizeLine; decide), fun c5 hc5 => ⟨(by show 0 ≤ sizeLine; decide), fun c6 hc6 => ⟨(by show 2 ≤ sizeLine; decide), fun c7 hc7 => ⟨(by show 0 ≤ sizeLine; decide), fun c8 hc8 => ⟨(by show 2 ≤ sizeLine; decide), fun c9 hc9 => ⟨(by show 8 ≤ sizeLine; decide), fun c10 hc10 => ?_⟩⟩⟩⟩⟩⟩⟩⟩⟩⟩⟩
      have uc0 := same_new (o := .tup []) hc0
      have uc1 := same_new (o := .tup [.str "ladder"]) hc1
      have uc2 := same_new (o := .tup []) hc2
      have uc3 := same_new (o := .lst [.str "square", .ref c2]) hc3
      have uc4 := same_new (o := .tup []) hc4
      have uc5 := same_new (o := .tup [.str "square", .ref c4, .int (0)]) hc5
      have uc6 := same_new (o := .tup []) hc6
      have uc7 := same_new (o := .tup [.str "rest", .ref c6]) hc7
      have uc8 := same_new (o := .tup []) hc8
      have uc9 := same_new (o := .tup [.str "Ladder", .ref c8]) hc9
      have uc10 := same_new (o := .lst [.non, .ref c0, .str "ladder", .ref c1, .ref c3, .ref c5, .ref c7, .ref c9]) hc10
      have mm := (uc0.trans (uc1.trans (uc2.trans (uc3.trans (uc4.trans (uc5.trans (uc6.trans (uc7.trans (uc8.trans (uc9.trans uc10))))))))))
      exact ⟨c10, _, ExtN.trans x2 (ExtN.same mm), Tabs.same T2 mm, dps mm dr, upd_same, (show DpAll K _ _ od2 from (.cons .non (.cons (dps (uc1.trans (uc2.trans (uc3.trans (uc4.trans (uc5.trans (uc6.trans (uc7.trans (uc8.trans (uc9.trans uc10))))))))) (show Dp K _ (.ref c0) (.tuple []) from (.tup (SqT.of upd_same) .nil))) (.cons (.str _) (.cons (dps (uc2.trans (uc3.trans (uc4.trans (uc5.trans (uc6.trans (uc7.trans (uc8.trans (uc9.trans uc10)))))))) (show Dp K _ (.ref c1) (.tuple [.str "ladder"]) from (.tup (SqT.of upd_same) (.cons (.str _) .nil)))) (.cons (dps (uc4.trans (uc5.trans (uc6.trans (uc7.trans (uc8.trans (uc9.trans uc10)))))) (show Dp K _ (.ref c3) (.list [.str "square", .tuple []]) from (.lst (SqL.of upd_same) (.cons (.str _) (.cons (dps uc3 (show Dp K _ (.ref c2) (.tuple []) from (.tup (SqT.of upd_same) .nil))) .nil))))) (.cons (dps (uc6.trans (uc7.trans (uc8.trans (uc9.trans uc10)))) (show Dp K _ (.ref c5) (.tuple [.str "square", .tuple [], .int (0)]) from (.tup (SqT.of upd_same) (.cons (.str _) (.cons (dps uc5 (show Dp K _ (.ref c4) (.tuple []) from (.tup (SqT.of upd_same) .nil))) (.cons (.int _) .nil)))))) (.cons (dps (uc8.trans (uc9.trans uc10)) (show Dp K _ (.ref c7) (.tuple [.str "rest", .tuple []]) from (.tup (SqT.of upd_same) (.cons (.str _) (.cons (dps uc7 (show Dp K _ (.ref c6) (.tuple []) from (.tup (SqT.of upd_same) .nil))) .nil))))) (.cons (dps uc10 (show Dp K _ (.ref c9) (.tuple [.str "Ladder", .tuple []]) from (.tup (SqT.of upd_same) (.cons (.str _) (.cons (dps uc9 (show Dp K _ (.ref c8) (.tuple []) from (.tup (SqT.of upd_same) .nil))) .nil))))) .nil))))))))), rfl⟩
    clear x2 T2 dr
    rintro σ H3 ⟨Lo, xo, x3, T3, dr, go, do_, rfl⟩
    have lo : xo.length = 8 := dpAll_len do_
    refine ⟨fun σ H3 => ∃ v0 : Option V, ExtN H H3 ∧ Tabs Ts H3 ∧ Dp K H3 (.ref rr) (dP rw3) ∧ σ = [v0, v1, some (.ref rr), some (.ref Lo)], ?_, ?_⟩
    · refine ⟨_, rfl, (by show 0 ≤ sizeLine; decide), fun ce0 hce0 => ⟨(by show 2 ≤ sizeLine; decide), fun ce1 hce1 => ⟨(by show 1 ≤ sizeLine; decide), fun ce2 hce2 => ?_⟩⟩⟩
      have uce0 := same_new (o := .tup []) hce0
      have uce1 := same_new (o := .tup [.non, .ref ce0]) hce1
      have uce2 := same_new (o := .lst [.ref ce1]) hce2
      have mm := (uce0.trans (uce1.trans uce2))
      have de : DpAll K _ [.ref ce1] ex2 := (.cons (dps uce2 (show Dp K _ (.ref ce1) (.tuple [.none, .tuple []]) from (.tup (SqT.of upd_same) (.cons .non (.cons (dps uce1 (show Dp K _ (.ref ce0) (.tuple []) from (.tup (SqT.of upd_same) .nil))) .nil))))) .nil)
      refine ⟨Lo, ce2, _, _, rfl, rfl, mm _ _ go, upd_same, big _ (by rw [lo]; show 9 ≤ 1000; decide), fun L hL => ?_⟩
      have sL := same_new (o := .lst (xo ++ [.ref ce1])) hL
      have dA : DpAll K _ (xo ++ [.ref ce1]) (od2 ++ ex2) := dpAll_app (dps_all (mm.trans sL) do_) (dps_all sL de)
      have mL := mm.trans sL
      refine ⟨L, rfl, ⟨_, SqL.of upd_same⟩, for_list (xs := xo ++ [.ref ce1]) (fun i σ H4 => ∃ v0 : Option V, ExtN H H4 ∧ Tabs Ts H4 ∧ Dp K H4 (.ref rr) (dP rw3) ∧ H4 L = some (.lst (xo ++ [.ref ce1])) ∧ DpAll K H4 (xo ++ [.ref ce1]) (od2 ++ ex2) ∧ σ = [v0, v1, some (.ref rr), some (.ref Lo)])
        ⟨v0, ExtN.trans x3 (ExtN.same mL), Tabs.same T3 mL, dps mL dr, upd_same, dA, rfl⟩ (fun i σ H4 _ q => ?_) ?_ ?_⟩
      · obtain ⟨_, _, _, _, q, _⟩ := q
        exact SqL.of q
      · rintro i x σ H4 hx ⟨v0, x4, T4, dr4, g4, d4, rfl⟩
        obtain ⟨d, _, md, dx⟩ := dpAll_get d4 hx
        have fo := rs2_ok d md
        refine ⟨T4, fun Ha1 xa1 Ta1 => ⟨_, rfl, _, rfl, _, _, dP rw3, d, rfl, ExtN.t2 xa1 dr4, ExtN.t2 xa1 dx, nrow rw3_ok, fun qs' ee _ => ?_⟩⟩
        obtain rfl := dP_inj ee
        refine ⟨rw3_ok, fun _ Hb1 sb1 => out_of Hk .p (fun p1 H6 s6 q1 => ?_), fun wd z => (by rw [fo] at z; cases z)⟩
        have y1 : ExtN H4 H6 := ExtN.trans xa1 (ExtN.same (sb1.trans s6))
        have T6 := Tabs.same Ta1 (sb1.trans s6)
        refine ⟨(by show 2 ≤ sizeLine; decide), fun p7 hp7 => ?_⟩
        have s7 := same_new (o := .tup [.str "paper", .str "form"]) hp7
        refine ⟨.tuple [.str "paper", .str "form"], .tuple [.str "paper", .str "form"], dps s7 (.tup (SqT.of q1) (.cons (.str _) (.cons (.str _) .nil))), .tup (SqT.of upd_same) (.cons (.str _) (.cons (.str _) .nil)), by decide +kernel, by decide +kernel, false, by decide +kernel, ?_⟩
        have xe := ExtN.trans y1 (ExtN.same s7)
        exact iteF ⟨_, ExtN.trans x4 xe, Tabs.same T6 s7, ExtN.t2 xe dr4, ExtN.l xe g4, dpAll_ext xe _ _ d4, rfl⟩
      · rintro σ H4 ⟨v0, x4, T4, dr4, _, _, rfl⟩
        exact ⟨v0, x4, T4, dr4, rfl⟩
    clear x3 T3 dr go do_ lo
    clear v0
    rintro σ H2 ⟨v0, x2, T2, dr, rfl⟩
    refine ⟨fun σ H3 => ∃ (Lo : Addr) (xo : List V), ExtN H H3 ∧ Tabs Ts H3 ∧ Dp K H3 (.ref rr) (dP rw3) ∧ H3 Lo = some (.lst xo) ∧ DpAll K H3 xo od3 ∧ σ = [v0, v1, some (.ref rr), some (.ref Lo)], ?_, ?_⟩
    · refine ⟨(by show 2 ≤ sizeLine; decide), fun e0 he0 => ⟨(by show 2 ≤ sizeLine; decide), fun e1 he1 => ⟨(by show 0 ≤ sizeLine; decide), fun e2 he2 => ⟨(by show 2 ≤ sizeLine; decide), fun e3 he3 => ⟨(by show 3 ≤ sizeLine; decide), fun e4 he4 => ⟨(by show 0 ≤ sizeLine; decide), fun e5 he5 => ⟨(by show 3 ≤ sizeLine; decide), fun e6 he6 => ⟨(by show 5 ≤ sizeLine; decide), fun e7 he7 => ?_⟩⟩⟩⟩⟩⟩⟩⟩
      have ue0 := same_new (o := .tup [.str "ladder", .non]) he0
      have ue1 := same_new (o := .tup [.str "square", .non]) he1
      have ue2 := same_new (o := .tup []) he2
      have ue3 := same_new (o := .tup [.str "square", .ref e2]) he3
      have ue4 := same_new (o := .tup [.str "rest", .non, .int (0)]) he4
      have ue5 := same_new (o := .tup []) he5
      have ue6 := same_new (o := .tup [.str "rest", .ref e5, .int (0)]) he6
      have ue7 := same_new (o := .lst [.ref e0, .ref e1, .ref e3, .ref e4, .ref e6]) he7
      have mm := (ue0.trans (ue1.trans (ue2.trans (ue3.trans (ue4.trans (ue5.trans (ue6.trans ue7)))))))
      exact ⟨e7, _, ExtN.trans x2 (ExtN.same mm), Tabs.same T2 mm, dps mm dr, upd_same, (show DpAll K _ _ od3 from (.cons (dps (ue1.trans (ue2.trans (ue3.trans (ue4.trans (ue5.trans (ue6.trans ue7)))))) (show Dp K _ (.ref e0) (.tuple [.str "ladder", .none]) from (.tup (SqT.of upd_same) (.cons (.str _) (.cons .non .nil))))) (.cons (dps (ue2.trans (ue3.trans (ue4.trans (ue5.trans (ue6.trans ue7))))) (show Dp K _ (.ref e1) (.tuple [.str "square", .none]) from (.tup (SqT.of upd_same) (.cons (.str _) (.cons .non .nil))))) (.cons (dps (ue4.trans (ue5.trans (ue6.trans ue7))) (show Dp K _ (.ref e3) (.tuple [.str "square", .tuple []]) from (.tup (SqT.of upd_same) (.cons (.str _) (.cons (dps ue3 (show Dp K _ (.ref e2) (.tuple []) from (.tup (SqT.of upd_same) .nil))) .nil))))) (.cons (dps (ue5.trans (ue6.trans ue7)) (show Dp K _ (.ref e4) (.tuple [.str "rest", .none, .int (0)]) from (.tup (SqT.of upd_same) (.cons (.str _) (.cons .non (.cons (.int _) .nil)))))) (.cons (dps ue7 (show Dp K _ (.ref e6) (.tuple [.str "rest", .tuple [], .int (0)]) from (.tup (SqT.of upd_same) (.cons (.str _) (.cons (dps ue6 (show Dp K _ (.ref e5) (.tuple []) from (.tup (SqT.of upd_same) .nil))) (.cons (.int _) .nil)))))) .nil)))))), rfl⟩
    clear x2 T2 dr
    rintro σ H3 ⟨Lo, xo, x3, T3, dr, go, do_, rfl⟩
    have lo : xo.length = 5 := dpAll_len do_
    refine ⟨fun σ H3 => ∃ v0 : Option V, ExtN H H3 ∧ Tabs Ts H3 ∧ Dp K H3 (.ref rr) (dP rw3) ∧ σ = [v0, v1, some (.ref rr), some (.ref Lo)], ?_, ?_⟩
    · refine ⟨_, rfl, (by show 2 ≤ sizeLine; decide), fun ee0 hee0 => ⟨(by show 2 ≤ sizeLine; decide), fun ee1 hee1 => ⟨(by show 2 ≤ sizeLine; decide), fun ee2 hee2 => ⟨(by show 3 ≤ sizeLine; decide), fun ee3 hee3 => ⟨(by show 1 ≤ sizeLine; decide), fun ee4 hee4 => ?_⟩⟩⟩⟩⟩
      have uee0 := same_new (o := .tup [.int (0), .int (1)]) hee0
      have uee1 := same_new (o := .tup [.int (1), .int (1)]) hee1
      have uee2 := same_new (o := .tup [.ref ee0, .ref ee1]) hee2
      have uee3 := same_new (o := .tup [.str "rest", .ref ee2, .bl true]) hee3
      have uee4 := same_new (o := .lst [.ref ee3]) hee4
      have mm := (uee0.trans (uee1.trans (uee2.trans (uee3.trans uee4))))
      have de : DpAll K _ [.ref ee3] ex3 := (.cons (dps uee4 (show Dp K _ (.ref ee3) (.tuple [.str "rest", .tuple [.tuple [.int (0), .int (1)], .tuple [.int (1), .int (1)]], .bool true]) from (.tup (SqT.of upd_same) (.cons (.str _) (.cons (dps uee3 (show Dp K _ (.ref ee2) (.tuple [.tuple [.int (0), .int (1)], .tuple [.int (1), .int (1)]]) from (.tup (SqT.of upd_same) (.cons (dps (uee1.trans uee2) (show Dp K _ (.ref ee0) (.tuple [.int (0), .int (1)]) from (.tup (SqT.of upd_same) (.cons (.int _) (.cons (.int _) .nil))))) (.cons (dps uee2 (show Dp K _ (.ref ee1) (.tuple [.int (1), .int (1)]) from (.tup (SqT.of upd_same) (.cons (.int _) (.cons (.int _) .nil))))) .nil))))) (.cons (.bl _) .nil)))))) .nil)
      refine ⟨Lo, ee4, _, _, rfl, rfl, mm _ _ go, upd_same, big _ (by rw [lo]; show 6 ≤ 1000; decide), fun L hL => ?_⟩
      have sL := same_new (o := .lst (xo ++ [.ref ee3])) hL
      have dA : DpAll K _ (xo ++ [.ref ee3]) (od3 ++ ex3) := dpAll_app (dps_all (mm.trans sL) do_) (dps_all sL de)
      have mL := mm.trans sL
      refine ⟨L, rfl, ⟨_, SqL.of upd_same⟩, for_list (xs := xo ++ [.ref ee3]) (fun i σ H4 => ∃ v0 : Option V, ExtN H H4 ∧ Tabs Ts H4 ∧ Dp K H4 (.ref rr) (dP rw3) ∧ H4 L = some (.lst (xo ++ [.ref ee3])) ∧ DpAll K H4 (xo ++ [.ref ee3]) (od3 ++ ex3) ∧ σ = [v0, v1, some (.ref rr), some (.ref Lo)])
        ⟨v0, ExtN.trans x3 (ExtN.same mL), Tabs.same T3 mL, dps mL dr, upd_same, dA, rfl⟩ (fun i σ H4 _ q => ?_) ?_ ?_⟩
      · obtain ⟨_, _, _, _, q, _⟩ := q
        exact SqL.of q
      · rintro i x σ H4 hx ⟨v0, x4, T4, dr4, g4, d4, rfl⟩
        obtain ⟨d, _, md, dx⟩ := dpAll_get d4 hx
        obtain ⟨fo, sqo, sho, hold, shp, ds, ed⟩ := rs3_ok d md
        refine ⟨T4, fun Ha1 xa1 Ta1 => ⟨_, rfl, _, rfl, _, _, dP rw3, d, rfl, ExtN.t2 xa1 dr4, ExtN.t2 xa1 dx, nrow rw3_ok, fun qs' ee _ => ?_⟩⟩
        obtain rfl := dP_inj ee
        refine ⟨rw3_ok, fun z => (by rw [fo] at z; cases z), fun wd z => ⟨sqo, sho, fun b hb => ?_⟩⟩
        obtain rfl : wordD d = wd := Option.some.inj (fo.symm.trans z)
        have eb : b = false := (hb 1 rw3_clm).trans hold
        subst eb
        refine ⟨fun z => (by cases z), fun _ Hb1 sb1 => out_of Hk .p (fun p1 H6 s6 q1 => ?_)⟩
        have y1 : ExtN H4 H6 := ExtN.trans xa1 (ExtN.same (sb1.trans s6))
        have T6 := Tabs.same Ta1 (sb1.trans s6)
        have dx6 := ExtN.t2 y1 dx
        obtain ⟨ax, xs, rfl, sx, _⟩ := dp_word2 (ed ▸ dx6)
        refine ⟨_, rfl, ax, _, 0, _, rfl, rfl, sx, atI_nat (j := 0) rfl, (by show 2 ≤ sizeLine; decide), fun p7 hp7 => ?_⟩
        have s7 := same_new (o := .tup [.str "paper", .str (wordD d)]) hp7
        refine ⟨.tuple [.str "paper", .str (wordD d)], .tuple [.str "paper", .str (wordD d)], dps s7 (.tup (SqT.of q1) (.cons (.str _) (.cons (.str _) .nil))), .tup (SqT.of upd_same) (.cons (.str _) (.cons (.str _) .nil)), shp, shp, _, rfl, ?_⟩
        rw [can_of shp]
        have xe := ExtN.trans y1 (ExtN.same s7)
        exact iteF ⟨_, ExtN.trans x4 xe, Tabs.same T6 s7, ExtN.t2 xe dr4, ExtN.l xe g4, dpAll_ext xe _ _ d4, rfl⟩
      · rintro σ H4 ⟨v0, x4, T4, dr4, _, _, rfl⟩
        exact ⟨v0, x4, T4, dr4, rfl⟩
    clear x3 T3 dr go do_ lo
    clear v0
    rintro σ H2 ⟨v0, x2, T2, dr, rfl⟩
    refine ⟨_, rfl, (by show 2 ≤ sizeLine; decide), fun z0 hz0 => ⟨(by show 2 ≤ sizeLine; decide), fun z1 hz1 => ⟨(by show 1 ≤ sizeLine; decide), fun z2 hz2 => ⟨(by show 2 ≤ sizeLine; decide), fun z3 hz3 => ⟨(by show 1 ≤ sizeLine; decide), fun z4 hz4 => ⟨(by show 3 ≤ sizeLine; decide), fun z5 hz5 => ⟨(by show 2 ≤ sizeLine; decide), fun z6 hz6 => ?_⟩⟩⟩⟩⟩⟩⟩
    have uz0 := same_new (o := .tup [.int (1), .int (1)]) hz0
    have uz1 := same_new (o := .tup [.int (0), .int (1)]) hz1
    have uz2 := same_new (o := .tup [.ref z1]) hz2
    have uz3 := same_new (o := .tup [.int (1), .int (1)]) hz3
    have uz4 := same_new (o := .tup [.ref z3]) hz4
    have uz5 := same_new (o := .tup [.ref z0, .ref z2, .ref z4]) hz5
    have uz6 := same_new (o := .tup [.str "ladder", .ref z5]) hz6
    have mm := (uz0.trans (uz1.trans (uz2.trans (uz3.trans (uz4.trans (uz5.trans uz6))))))
    have dl : Dp K _ (.ref z6) la3 := (show Dp K _ (.ref z6) (.tuple [.str "ladder", .tuple [.tuple [.int (1), .int (1)], .tuple [.tuple [.int (0), .int (1)]], .tuple [.tuple [.int (1), .int (1)]]]]) from (.tup (SqT.of upd_same) (.cons (.str _) (.cons (dps uz6 (show Dp K _ (.ref z5) (.tuple [.tuple [.int (1), .int (1)], .tuple [.tuple [.int (0), .int (1)]], .tuple [.tuple [.int (1), .int (1)]]]) from (.tup (SqT.of upd_same) (.cons (dps (uz1.trans (uz2.trans (uz3.trans (uz4.trans uz5)))) (show Dp K _ (.ref z0) (.tuple [.int (1), .int (1)]) from (.tup (SqT.of upd_same) (.cons (.int _) (.cons (.int _) .nil))))) (.cons (dps (uz3.trans (uz4.trans uz5)) (show Dp K _ (.ref z2) (.tuple [.tuple [.int (0), .int (1)]]) from (.tup (SqT.of upd_same) (.cons (dps uz2 (show Dp K _ (.ref z1) (.tuple [.int (0), .int (1)]) from (.tup (SqT.of upd_same) (.cons (.int _) (.cons (.int _) .nil))))) .nil)))) (.cons (dps uz5 (show Dp K _ (.ref z4) (.tuple [.tuple [.int (1), .int (1)]]) from (.tup (SqT.of upd_same) (.cons (dps uz4 (show Dp K _ (.ref z3) (.tuple [.int (1), .int (1)]) from (.tup (SqT.of upd_same) (.cons (.int _) (.cons (.int _) .nil))))) .nil)))) .nil)))))) .nil))))
    refine ⟨_, _, dP rw3, la3, rfl, dps mm dr, dl, nrow rw3_ok, fun qs' ee _ => ?_⟩
    obtain rfl := dP_inj ee
    refine ⟨rw3_ok, fun z => (by rw [la3_ok.1] at z; cases z), fun wd z => ⟨la3_sq, la3_ok.2.1, fun b hb => ?_⟩⟩
    obtain rfl : wL = wd := Option.some.inj (la3_ok.1.symm.trans z)
    have eb : b = true := (hb 1 rw3_clm).trans la3_ok.2.2
    subst eb
    refine ⟨fun _ H5 s5 => ⟨rfl, ?_⟩, fun z => (by cases z)⟩
    rw [show decide (V.str wL = V.str "ladder") = true from decide_eq_true rfl]
    exact kk H5 (ExtN.trans x2 (ExtN.same (mm.trans s5))) (Tabs.same T2 (mm.trans s5))
end
end Rs


set_option Elab.async false
set_option linter.all false
set_option maxRecDepth 100000
set_option maxHeartbeats 1000000
namespace Rs
open PySem L2 Bs Fq LamX LmD RZ Hd TA2
abbrev sLaw : Stmt := top 86
abbrev NL : List Str := ["script", "flat", "bent", "line", "at", "state", "turn"]
/-- law(script) -/
def spLaw (K : PySem.W.Frag) (Ts : List (Addr × Str)) : Sp := fun vs H Q _ => ∃ (a : Addr) (ns : List Int), vs = [.ref a] ∧ SqL K H a (ns.map V.int) ∧ ns.length ≤ 63 ∧ Tabs Ts H ∧ ∀ H', Q (.bl true) H'
theorem scLaw : FnScope NL ["script"] (defScope sLaw) := ⟨rfl, rfl, rfl, by decide +kernel, rfl, by decide +kernel, by decide +kernel⟩
theorem tab_blk {X : Cx} {Ts : List (Addr × Str)} {c P D : Addr} {s : Shared} {H : Hp} {scope : Scope} {cl : List (Str × Addr)} {fp : List Addr} (T : TabOk X Ts c P) : TabOk (X.blk s H scope (compEnvC scope cl D X.env) fp) Ts c P := ⟨T.tb, T.code, T.mem, T.one⟩
theorem lamS_blk {X : Cx} {D : Addr} {s : Shared} {H : Hp} {scope lam : Scope} {cl : List (Str × Addr)} {fp : List Addr} (sc : Scope) (e : X.env.scope = sc) (h : lamSB (relS scope sc) lam = true) : LamS (X.blk s H scope (compEnvC scope cl D X.env) fp).env.scope lam := by
  subst e
  exact lamS_by h
def flatR : List F := [(1, 1), (2, 1), (4, 1), (9, 1)]
def bentR : List F := [(1, 1), (2, 1), (3, 1)]
def lineR : List F := [(-2, 1), (1, 1)]
def gmR : List F := [(1, 1), (2, 1), (4, 1), (8, 1)]
theorem row_lit {qs : List F} (h : (qs.all fun q => decide (0 < q.2) && decide (Nat.gcd q.1.natAbs q.2.natAbs = 1) && decide (256 % q.2 = 0) && decide (q.1.natAbs ≤ 85)) = true) (n : qs ≠ []) (l : qs.length ≤ 8) (p : 0 < (co qs 0).1) : RowOk qs := ⟨fun q hq => by
    have := List.all_eq_true.mp h q hq
    simp only [Bool.and_eq_true, decide_eq_true_eq] at this
    exact ok_lit ⟨this.1.1.1, this.1.1.2⟩ (Int.dvd_of_emod_eq_zero this.1.2) (Nat.le_trans this.2 (by decide)), n, l, p⟩
theorem dpAll_same {K : PySem.W.Frag} {H : Hp} {d : PyData} : ∀ {vs : List V}, (∀ v ∈ vs, Dp K H v d) → DpAll K H vs (List.replicate vs.length d)
  | [], _ => .nil
  | v :: vs, h => .cons (h v List.mem_cons_self) (dpAll_same fun u hu => h u (List.mem_cons_of_mem _ hu))
theorem flat_ok : RowOk flatR := row_lit (by decide +kernel) (by decide) (by decide) (by decide)
theorem bent_ok : RowOk bentR := row_lit (by decide +kernel) (by decide) (by decide) (by decide)
theorem gm_ok : RowOk gmR := row_lit (by decide +kernel) (by decide) (by decide) (by decide)
theorem clm_one {qs : List F} (h0 : 0 < nor (rv qs) 0) (l : 1 < qs.length) (h1 : 3 < qs.length → ¬ 0 < nor (rv qs) 1) : Clm qs 1 := ⟨fun j h => by
    obtain rfl : j = 0 := by omega
    exact h0, fun j h => by
    obtain rfl : j = 0 := by omega
    omega, h1⟩
theorem flat_clm : Clm flatR 1 := clm_one (by decide +kernel) (by decide) (fun _ => by decide +kernel)
theorem bent_clm : Clm bentR 1 := clm_one (by decide +kernel) (by decide) (fun h => absurd h (by decide))
theorem gm_clm : Clm gmR 1 := clm_one (by decide +kernel) (by decide) (fun _ => by decide +kernel)
theorem line_sq (qs : List F) : SqOf qs (dP lineR) := sqOf_dP (sqOk_s3 fun q h => by
  simp only [lineR, List.mem_cons, List.not_mem_nil, or_false] at h
  rcases h with rfl | rfl <;> exact ⟨⟨by decide, by decide⟩, by decide, by decide⟩)
def dRest (k : Int) : PyData := .tuple [.str "rest", dP lineR, .int k]
def dSqr : PyData := .tuple [.str "square", dP lineR]
theorem rest_shaped (k : Int) : SeqAt.shaped (dRest k) = true := by
  have c := can_dP lineR
  rw [shaped_iff]
  refine ⟨?_, ?_⟩
  · simp [dRest, PyData.canLay0, PyData.canLayAll0, c.1]
    decide +kernel
  · simp only [dRest, PyData.depth, PyData.depthAll]
    omega
theorem hold_two : holdD flatR 1 (dRest 2) = true := by decide +kernel
theorem hold_bent : holdD bentR 1 dSqr = true := by decide +kernel
theorem hold_not : holdD flatR 1 (dRest 1) = false ∧ holdD flatR 1 (dRest (-1)) = false := by decide +kernel
theorem gm_lad : isLad gmR 1 = true := by decide +kernel
/-- what stays throughout the law -/
structure LI (K : PySem.W.Frag) (Ts : List (Addr × Str)) (H0 H1 : Hp) (fa ba : Addr) : Prop where
  x : ExtN H0 H1
  T : Tabs Ts H1
  df : Dp K H1 (.ref fa) (dP flatR)
  db : Dp K H1 (.ref ba) (dP bentR)
theorem LI.ext {K : PySem.W.Frag} {Ts : List (Addr × Str)} {H0 H1 H2 : Hp} {fa ba : Addr} (R : LI K Ts H0 H1 fa ba) (x : ExtN H1 H2) (T : Tabs Ts H2) : LI K Ts H0 H2 fa ba := ⟨ExtN.trans R.x x, T, ExtN.t2 x R.df, ExtN.t2 x R.db⟩
theorem LI.same {K : PySem.W.Frag} {Ts : List (Addr × Str)} {H0 H1 H2 : Hp} {fa ba : Addr} (R : LI K Ts H0 H1 fa ba) (s : Same H1 H2) : LI K Ts H0 H2 fa ba := R.ext (ExtN.same s) (Tabs.same R.T s)
section
variable {P : Program} {w : World} {K : PySem.W.Frag} {mg : Str → Option Value} {base : Heap} {f c1 P1 g : Addr} {C : Cls} {fd : FuncData} {Ts : List (Addr × Str)}
theorem ok_law (F : FunC K "law" "law" sLaw f fd c1) (T : Blt mg) (Hk : HeardK K mg g C)
    (Tk : ∀ A outer s H E, TabOk (cxOf CX0 P w K mg base NL "law" (defScope sLaw) f (.ref c1) A outer s H E).nox Ts c1 P1)
    (IS : CalX P w K mg base 9 "is_of_share" (spRow K C.R rShare)) (PV_ : CalX P w K mg base 7 "pivots" (spRow K C.R (rPiv K))) (LO : CalX P w K mg base 9 "ladder_of" (spRow K C.R (rLadOf K C.S))) (CH : CalX P w K mg base 9 "check_row" (spCheck K C.R C.P))
    (RF : CalG P w K mg base 12 "_law_refused_good" (spRefused Ts)) (BG : Cal P w K mg base 2 "_law_begin" (spBegin K)) (GD : CalG P w K mg base 12 "_law_good" (spGood Ts)) :
    FnG P w K mg base 13 f fd ["script"] (spLaw K Ts) := by
  refine FnG.okC F scLaw (fun vs H Q E h => ?_) (fun A outer s H vs Q E hgd hr h => ?_)
  · obtain ⟨a, ns, rfl, _⟩ := h
    rfl
  · obtain ⟨a, ns, rfl, sq, ln, TT, kk⟩ := h
    refine ⟨_, (C8.pss_cut (ps_asg (pe_tup (pa_cons (pe_tup (pa_cons (pe_tup (pa_cons pe_int (pa_cons pe_int pa_nil))) (pa_cons (pe_tup (pa_cons pe_int (pa_cons pe_int pa_nil))) (pa_cons (pe_tup (pa_cons pe_int (pa_cons pe_int pa_nil))) (pa_cons (pe_tup (pa_cons pe_int (pa_cons pe_int pa_nil))) pa_nil))))) (pa_cons (pe_tup (pa_cons (pe_tup (pa_cons pe_int (pa_cons pe_int pa_nil))) (pa_cons (pe_tup (pa_cons pe_int (pa_cons pe_int pa_nil))) (pa_cons (pe_tup (pa_cons pe_int (pa_cons pe_int pa_nil))) pa_nil)))) pa_nil))) (pg_tup rfl (pgs_cons (pg_name (i := 1) scLaw.nd rfl (.inr rfl)) (pgs_cons (pg_name (i := 2) scLaw.nd rfl (.inl rfl)) pgs_nil))))
      (C8.pss_cut (ps_if (pt_cmpR (op_neD hr.units) (pe_lst (pa_cons (pe_x IS hr (by decide) (by rfl) passL (pa_cons (pv 1) pa_nil)) (pa_cons (pe_x PV_ hr (by decide) (by rfl) passL (pa_cons (pv 1) pa_nil)) pa_nil))) (pe_lst (pa_cons pe_bl (pa_cons (pe_tup (pa_cons (pe_tup (pa_cons pe_int (pa_cons pe_int pa_nil))) (pa_cons (pe_tup (pa_cons pe_int (pa_cons pe_int pa_nil))) pa_nil))) pa_nil))) (nomark _)) (pss_one (ps_ret pe_bl)) pss_nil)
      (C8.pss_cut (ps_if (pt_cmpR (op_neD hr.units) (pe_lst (pa_cons (pe_x IS hr (by decide) (by rfl) passL (pa_cons (pv 2) pa_nil)) (pa_cons (pe_x PV_ hr (by decide) (by rfl) passL (pa_cons (pv 2) pa_nil)) pa_nil))) (pe_lst (pa_cons pe_bl (pa_cons (pe_tup (pa_cons (pe_tup (pa_cons pe_int (pa_cons pe_int pa_nil))) (pa_cons (pe_tup (pa_cons (pe_un un_neg pe_int) (pa_cons pe_int pa_nil))) pa_nil))) pa_nil))) (nomark _)) (pss_one (ps_ret pe_bl)) pss_nil)
      (C8.pss_cut (ps_set (i := 3) scLaw.nd rfl (Or.inr rfl) (pe_tup (pa_cons (pe_tup (pa_cons (pe_un un_neg pe_int) (pa_cons pe_int pa_nil))) (pa_cons (pe_tup (pa_cons pe_int (pa_cons pe_int pa_nil))) pa_nil))))
      (C8.pss_cut (ps_if (PW.pt (pw_or (pt_cmpR op_ne (pe_x CH hr (by decide) (by rfl) passL (pa_cons (pv 1) (pa_cons (pe_tup (pa_cons pe_str (pa_cons (pv 3) (pa_cons pe_int pa_nil)))) pa_nil))) pe_str (nomark _)) (pw_or1 (pt_cmpR op_ne (pe_x CH hr (by decide) (by rfl) passL (pa_cons (pv 2) (pa_cons (pe_tup (pa_cons pe_str (pa_cons (pv 3) pa_nil))) pa_nil))) pe_str (nomark _))))) (pss_one (ps_ret pe_bl)) pss_nil)
      (C8.pss_cut (ps_if (pt_cmpR (op_neD hr.units) (pe_lc (own := [("at", 4)]) (g := gName 4) (tt := tYes) (te := tLam Ts (TTh K (rowsH C)) (fun E => tCall (spCheck K C.R C.P) [] E (tCons (tVar 1) (tCons (tTup (tCons (tC (.str "rest")) (tCons (tVar 3) (tCons (tVar 4) tNil)))) tNil)))) rfl scLaw.nd (pi_tup (pe_tup (pa_cons pe_int (pa_cons (pe_un un_neg pe_int) pa_nil)))) (blkOk_by (N := NL) (sc := defScope sLaw) (by decide +kernel)) (fun _ _ _ _ _ => pg_name (i := 4) scLaw.nd rfl (Or.inr rfl)) (fun _ _ _ _ _ => pts_nil) (fun _ _ _ _ _ => (pe_hd (k := 10) (t := (fun E => tCall (spCheck K C.R C.P) [] E (tCons (tVar 1) (tCons (tTup (tCons (tC (.str "rest")) (tCons (tVar 3) (tCons (tVar 4) tNil)))) tNil)))) Hk (tab_blk (Tk A outer s H E)) hr (by rfl) (lamS_blk (defScope sLaw) rfl (by decide +kernel)) (fun A' outer' s' H' E' f' c' hr' => pe_x CH hr' (by decide) (by rfl) (passes_call (takes_of rfl rfl rfl rfl) (fun _ _ _ _ h => h)) (pa_cons (pv 1) (pa_cons (pe_tup (pa_cons pe_str (pa_cons (pv 3) (pa_cons (pv 4) pa_nil)))) pa_nil)))))) (pe_op op_rep (pe_lst (pa_cons (pe_tup (pa_cons pe_str (pa_cons pe_str pa_nil))) pa_nil)) pe_int) (nomark _)) (pss_one (ps_ret pe_bl)) pss_nil)
      (C8.pss_cut (ps_if (PW.pt (pw_or (pt_cmpR (op_neD hr.units) (pe_x LO hr (by decide) (by rfl) passL (pa_cons (pe_tup (pa_cons (pe_tup (pa_cons pe_int (pa_cons pe_int pa_nil))) (pa_cons (pe_tup (pa_cons pe_int (pa_cons pe_int pa_nil))) (pa_cons (pe_tup (pa_cons pe_int (pa_cons pe_int pa_nil))) (pa_cons (pe_tup (pa_cons pe_int (pa_cons pe_int pa_nil))) pa_nil))))) pa_nil)) (pe_tup (pa_cons (pe_tup (pa_cons pe_int (pa_cons pe_int pa_nil))) (pa_cons (pe_tup (pa_cons (pe_tup (pa_cons pe_int (pa_cons pe_int pa_nil))) pa_nil)) (pa_cons (pe_tup (pa_cons (pe_tup (pa_cons pe_int (pa_cons pe_int pa_nil))) pa_nil)) pa_nil)))) (nomark _)) (pw_or1 (pt_not (pt_val (pe_g0 RF hgd hr (by decide) (by rfl))))))) (pss_one (ps_ret pe_bl)) pss_nil)
      (C8.pss_cut (ps_set (i := 5) scLaw.nd rfl (Or.inl rfl) (pe_n BG hr (by decide) (by rfl) (pa_cons (pv 0) pa_nil)))
      (C8.pss_cut (ps_for PassesOwn.never rfl (pi_range1 rfl T.range (pa_cons (pe_op op_add pe_int (pe_callB (call_min2 rfl) (by rfl) T.min (by decide +kernel) (pa_cons (pe_callB call_len_seq (by rfl) T.len (by decide +kernel) (pa_cons (pv 0) pa_nil)) (pa_cons pe_int pa_nil)))) pa_nil)) (pg_name (i := 6) scLaw.nd rfl (Or.inl rfl)) (pss_one (ps_if (pt_not (pt_val ((pe_g GD hgd hr (by decide) (by rfl) (pa_cons (pv 5) pa_nil))))) (pss_one (ps_ret pe_bl)) pss_nil)))
      (pss_one (ps_ret pe_bl))))))))))), ?_⟩
    refine ⟨fun σ H1 => ∃ fa ba : Addr, LI K Ts H H1 fa ba ∧ σ = [some (.ref a), some (.ref fa), some (.ref ba), none, none, none, none], ?_, ?_⟩
    · refine ⟨(by show 2 ≤ sizeLine; decide), fun a0 ha0 => ⟨(by show 2 ≤ sizeLine; decide), fun a1 ha1 => ⟨(by show 2 ≤ sizeLine; decide), fun a2 ha2 => ⟨(by show 2 ≤ sizeLine; decide), fun a3 ha3 => ⟨(by show 4 ≤ sizeLine; decide), fun a4 ha4 => ⟨(by show 2 ≤ sizeLine; decide), fun a5 ha5 => ⟨(by show 2 ≤ sizeLine; decide), fun a6 ha6 => ⟨(by show 2 ≤ sizeLine; decide), fun a7 ha7 => ⟨(by show 3 ≤ sizeLine; decide), fun a8 ha8 => ⟨(by show 2 ≤ sizeLine; decide), fun a9 ha9 => ⟨a9, _, rfl, SqT.of upd_same, rfl, _, _, rfl, _, _, rfl, rfl, ?_⟩⟩⟩⟩⟩⟩⟩⟩⟩⟩⟩
      have ua0 := same_new (o := .tup [.int (1), .int (1)]) ha0
      have ua1 := same_new (o := .tup [.int (2), .int (1)]) ha1
      have ua2 := same_new (o := .tup [.int (4), .int (1)]) ha2
      have ua3 := same_new (o := .tup [.int (9), .int (1)]) ha3
      have ua4 := same_new (o := .tup [.ref a0, .ref a1, .ref a2, .ref a3]) ha4
      have ua5 := same_new (o := .tup [.int (1), .int (1)]) ha5
      have ua6 := same_new (o := .tup [.int (2), .int (1)]) ha6
      have ua7 := same_new (o := .tup [.int (3), .int (1)]) ha7
      have ua8 := same_new (o := .tup [.ref a5, .ref a6, .ref a7]) ha8
      have ua9 := same_new (o := .tup [.ref a4, .ref a8]) ha9
      have mm := (ua0.trans (ua1.trans (ua2.trans (ua3.trans (ua4.trans (ua5.trans (ua6.trans (ua7.trans (ua8.trans ua9)))))))))
      exact ⟨a4, a8, ⟨ExtN.same mm, Tabs.same TT mm, (dps (ua5.trans (ua6.trans (ua7.trans (ua8.trans ua9)))) (show Dp K _ (.ref a4) (.tuple [.tuple [.int (1), .int (1)], .tuple [.int (2), .int (1)], .tuple [.int (4), .int (1)], .tuple [.int (9), .int (1)]]) from (.tup (SqT.of upd_same) (.cons (dps (ua1.trans (ua2.trans (ua3.trans ua4))) (show Dp K _ (.ref a0) (.tuple [.int (1), .int (1)]) from (.tup (SqT.of upd_same) (.cons (.int _) (.cons (.int _) .nil))))) (.cons (dps (ua2.trans (ua3.trans ua4)) (show Dp K _ (.ref a1) (.tuple [.int (2), .int (1)]) from (.tup (SqT.of upd_same) (.cons (.int _) (.cons (.int _) .nil))))) (.cons (dps (ua3.trans ua4) (show Dp K _ (.ref a2) (.tuple [.int (4), .int (1)]) from (.tup (SqT.of upd_same) (.cons (.int _) (.cons (.int _) .nil))))) (.cons (dps ua4 (show Dp K _ (.ref a3) (.tuple [.int (9), .int (1)]) from (.tup (SqT.of upd_same) (.cons (.int _) (.cons (.int _) .nil))))) .nil))))))), (dps ua9 (show Dp K _ (.ref a8) (.tuple [.tuple [.int (1), .int (1)], .tuple [.int (2), .int (1)], .tuple [.int (3), .int (1)]]) from (.tup (SqT.of upd_same) (.cons (dps (ua6.trans (ua7.trans ua8)) (show Dp K _ (.ref a5) (.tuple [.int (1), .int (1)]) from (.tup (SqT.of upd_same) (.cons (.int _) (.cons (.int _) .nil))))) (.cons (dps (ua7.trans ua8) (show Dp K _ (.ref a6) (.tuple [.int (2), .int (1)]) from (.tup (SqT.of upd_same) (.cons (.int _) (.cons (.int _) .nil))))) (.cons (dps ua8 (show Dp K _ (.ref a7) (.tuple [.int (3), .int (1)]) from (.tup (SqT.of upd_same) (.cons (.int _) (.cons (.int _) .nil))))) .nil))))))⟩, rfl⟩
    rintro σ H1 ⟨fa, ba, R, rfl⟩
    refine ⟨fun σ H2 => LI K Ts H H2 fa ba ∧ σ = [some (.ref a), some (.ref fa), some (.ref ba), none, none, none, none], ?_, ?_⟩
    · refine ⟨_, rfl, _, dP flatR, rfl, R.df, nrow flat_ok, row_fin (Rr := rShare) flat_ok (fun H2 J2 s2 C2 => ?_)⟩
      obtain rfl := Clm.uniq C2 flat_clm
      refine ⟨_, rfl, _, dP flatR, rfl, dps s2 R.df, nrow flat_ok, row_fin (Rr := rPiv K) flat_ok (fun H3 u J3 s3 C3 po => ⟨(by show 2 ≤ sizeLine; decide), fun p3 hp3 => ?_⟩)⟩
      obtain rfl := Clm.uniq C3 flat_clm
      have s4 := same_new (o := .lst [V.bl (isLad flatR 1), u]) hp3
      refine ⟨(by show 2 ≤ sizeLine; decide), fun b0 hb0 => ⟨(by show 2 ≤ sizeLine; decide), fun b1 hb1 => ⟨(by show 2 ≤ sizeLine; decide), fun b2 hb2 => ⟨(by show 2 ≤ sizeLine; decide), fun b3 hb3 => ?_⟩⟩⟩⟩
      have ub0 := same_new (o := .tup [.int (1), .int (1)]) hb0
      have ub1 := same_new (o := .tup [.int (0), .int (1)]) hb1
      have ub2 := same_new (o := .tup [.ref b0, .ref b1]) hb2
      have ub3 := same_new (o := .lst [.bl false, .ref b2]) hb3
      have mm := (ub0.trans (ub1.trans (ub2.trans ub3)))
      refine ⟨.list [.bool (isLad flatR 1), dP (sumsC flatR 1)], .list [.bool false, .tuple [.tuple [.int (1), .int (1)], .tuple [.int (0), .int (1)]]], .lst (SqL.of (mm _ _ upd_same)) (.cons (.bl _) (.cons (dps (s4.trans mm) po.dp) .nil)), (show Dp K _ (.ref b3) (.list [.bool false, .tuple [.tuple [.int (1), .int (1)], .tuple [.int (0), .int (1)]]]) from (.lst (SqL.of upd_same) (.cons (.bl _) (.cons (dps ub3 (show Dp K _ (.ref b2) (.tuple [.tuple [.int (1), .int (1)], .tuple [.int (0), .int (1)]]) from (.tup (SqT.of upd_same) (.cons (dps (ub1.trans ub2) (show Dp K _ (.ref b0) (.tuple [.int (1), .int (1)]) from (.tup (SqT.of upd_same) (.cons (.int _) (.cons (.int _) .nil))))) (.cons (dps ub2 (show Dp K _ (.ref b1) (.tuple [.int (0), .int (1)]) from (.tup (SqT.of upd_same) (.cons (.int _) (.cons (.int _) .nil))))) .nil))))) .nil)))), by decide +kernel, by decide +kernel, false, by decide +kernel, ?_⟩
      exact iteF ⟨R.same (((s2.trans s3).trans s4).trans mm), rfl⟩
    clear R
    rintro σ H1 ⟨R, rfl⟩
    refine ⟨fun σ H2 => LI K Ts H H2 fa ba ∧ σ = [some (.ref a), some (.ref fa), some (.ref ba), none, none, none, none], ?_, ?_⟩
    · refine ⟨_, rfl, _, dP bentR, rfl, R.db, nrow bent_ok, row_fin (Rr := rShare) bent_ok (fun H2 J2 s2 C2 => ?_)⟩
      obtain rfl := Clm.uniq C2 bent_clm
      refine ⟨_, rfl, _, dP bentR, rfl, dps s2 R.db, nrow bent_ok, row_fin (Rr := rPiv K) bent_ok (fun H3 u J3 s3 C3 po => ⟨(by show 2 ≤ sizeLine; decide), fun p3 hp3 => ?_⟩)⟩
      obtain rfl := Clm.uniq C3 bent_clm
      have s4 := same_new (o := .lst [V.bl (isLad bentR 1), u]) hp3
      refine ⟨(by show 2 ≤ sizeLine; decide), fun c0 hc0 => ⟨_, rfl, (by show 2 ≤ sizeLine; decide), fun c1 hc1 => ⟨(by show 2 ≤ sizeLine; decide), fun c2 hc2 => ⟨(by show 2 ≤ sizeLine; decide), fun c3 hc3 => ?_⟩⟩⟩⟩
      have uc0 := same_new (o := .tup [.int (1), .int (1)]) hc0
      have uc1 := same_new (o := .tup [.int (-1), .int (1)]) hc1
      have uc2 := same_new (o := .tup [.ref c0, .ref c1]) hc2
      have uc3 := same_new (o := .lst [.bl false, .ref c2]) hc3
      have mm := (uc0.trans (uc1.trans (uc2.trans uc3)))
      refine ⟨.list [.bool (isLad bentR 1), dP (sumsC bentR 1)], .list [.bool false, .tuple [.tuple [.int (1), .int (1)], .tuple [.int (-1), .int (1)]]], .lst (SqL.of (mm _ _ upd_same)) (.cons (.bl _) (.cons (dps (s4.trans mm) po.dp) .nil)), (show Dp K _ (.ref c3) (.list [.bool false, .tuple [.tuple [.int (1), .int (1)], .tuple [.int (-1), .int (1)]]]) from (.lst (SqL.of upd_same) (.cons (.bl _) (.cons (dps uc3 (show Dp K _ (.ref c2) (.tuple [.tuple [.int (1), .int (1)], .tuple [.int (-1), .int (1)]]) from (.tup (SqT.of upd_same) (.cons (dps (uc1.trans uc2) (show Dp K _ (.ref c0) (.tuple [.int (1), .int (1)]) from (.tup (SqT.of upd_same) (.cons (.int _) (.cons (.int _) .nil))))) (.cons (dps uc2 (show Dp K _ (.ref c1) (.tuple [.int (-1), .int (1)]) from (.tup (SqT.of upd_same) (.cons (.int _) (.cons (.int _) .nil))))) .nil))))) .nil)))), by decide +kernel, by decide +kernel, false, by decide +kernel, ?_⟩
      exact iteF ⟨R.same (((s2.trans s3).trans s4).trans mm), rfl⟩
    clear R
    rintro σ H1 ⟨R, rfl⟩
    refine ⟨fun σ H2 => ∃ la : Addr, LI K Ts H H2 fa ba ∧ Dp K H2 (.ref la) (dP lineR) ∧ σ = [some (.ref a), some (.ref fa), some (.ref ba), some (.ref la), none, none, none], ?_, ?_⟩
    · refine ⟨_, rfl, (by show 2 ≤ sizeLine; decide), fun d0 hd0 => ⟨(by show 2 ≤ sizeLine; decide), fun d1 hd1 => ⟨(by show 2 ≤ sizeLine; decide), fun d2 hd2 => ?_⟩⟩⟩
      have ud0 := same_new (o := .tup [.int (-2), .int (1)]) hd0
      have ud1 := same_new (o := .tup [.int (1), .int (1)]) hd1
      have ud2 := same_new (o := .tup [.ref d0, .ref d1]) hd2
      have mm := (ud0.trans (ud1.trans ud2))
      exact ⟨d2, R.same mm, (show Dp K _ (.ref d2) (.tuple [.tuple [.int (-2), .int (1)], .tuple [.int (1), .int (1)]]) from (.tup (SqT.of upd_same) (.cons (dps (ud1.trans ud2) (show Dp K _ (.ref d0) (.tuple [.int (-2), .int (1)]) from (.tup (SqT.of upd_same) (.cons (.int _) (.cons (.int _) .nil))))) (.cons (dps ud2 (show Dp K _ (.ref d1) (.tuple [.int (1), .int (1)]) from (.tup (SqT.of upd_same) (.cons (.int _) (.cons (.int _) .nil))))) .nil)))), rfl⟩
    clear R
    rintro σ H1 ⟨la, R, dl, rfl⟩
    refine ⟨fun σ H2 => LI K Ts H H2 fa ba ∧ Dp K H2 (.ref la) (dP lineR) ∧ σ = [some (.ref a), some (.ref fa), some (.ref ba), some (.ref la), none, none, none], ?_, ?_⟩
    · refine ⟨_, rfl, _, rfl, (by show 3 ≤ sizeLine; decide), fun p2 hp2 => ?_⟩
      have s2 := same_new (o := .tup [.str "rest", .ref la, .int 2]) hp2
      refine ⟨_, _, dP flatR, dRest 2, rfl, dps s2 R.df, .tup (SqT.of upd_same) (.cons (.str _) (.cons (dps s2 dl) (.cons (.int _) .nil))), nrow flat_ok, fun qs' ee _ => ?_⟩
      obtain rfl := dP_inj ee
      refine ⟨flat_ok, fun z => (by rw [show formD (dRest 2) = some wR from form_rs _ _] at z; cases z), fun wd z => ⟨line_sq _, rest_shaped 2, fun b hb => ?_⟩⟩
      obtain rfl : wR = wd := Option.some.inj ((form_rs (dP lineR) (.int 2)).symm.trans z)
      have eb : b = true := (hb 1 flat_clm).trans hold_two
      subst eb
      refine ⟨fun _ H3 s3 => ⟨rfl, _, rfl, ?_⟩, fun z => (by cases z)⟩
      refine ite2 (fun cc => absurd cc (by decide +kernel)) (fun _ => ?_)
      have R3 := R.same (s2.trans s3)
      have dl3 := dps (s2.trans s3) dl
      refine ⟨_, rfl, _, rfl, (by show 2 ≤ sizeLine; decide), fun p4 hp4 => ?_⟩
      have s4 := same_new (o := .tup [.str "square", .ref la]) hp4
      refine ⟨_, _, dP bentR, dSqr, rfl, dps s4 R3.db, .tup (SqT.of upd_same) (.cons (.str _) (.cons (dps s4 dl3) .nil)), nrow bent_ok, fun qs' ee _ => ?_⟩
      obtain rfl := dP_inj ee
      refine ⟨bent_ok, fun z => (by rw [show formD dSqr = some wS from form_sq _] at z; cases z), fun wd z => ⟨line_sq _, by decide +kernel, fun b hb => ?_⟩⟩
      obtain rfl : wS = wd := Option.some.inj ((form_sq (dP lineR)).symm.trans z)
      have eb : b = true := (hb 1 bent_clm).trans hold_bent
      subst eb
      refine ⟨fun _ H5 s5 => ⟨rfl, _, rfl, ?_⟩, fun z => (by cases z)⟩
      exact ite2 (fun cc => absurd cc (by decide +kernel)) (fun _ => ⟨R3.same (s4.trans s5), dps (s4.trans s5) dl3, rfl⟩)
    clear R dl
    rintro σ H1 ⟨R, dl, rfl⟩
    refine ⟨fun σ H2 => ∃ v4, LI K Ts H H2 fa ba ∧ Dp K H2 (.ref la) (dP lineR) ∧ σ = [some (.ref a), some (.ref fa), some (.ref ba), some (.ref la), v4, none, none], ?_, ?_⟩
    · refine ⟨_, rfl, (by show 2 ≤ sizeLine; decide), fun pt hpt => ?_⟩
      have s2 := same_new (o := .tup [.int 1, .int (-1)]) hpt
      have R2 := R.same s2
      have dl2 := dps s2 dl
      have gt : upd H1 pt (.tup [.int 1, .int (-1)]) pt = some (.tup [.int 1, .int (-1)]) := upd_same
      generalize upd H1 pt (.tup [.int 1, .int (-1)]) = H2 at *
      refine ⟨pt, rfl, ⟨_, SqT.of gt⟩, fun D hD => ?_⟩
      have s3 := same_new (o := .lst []) hD
      refine lc_tup (K := K) (a := pt) (xs := [.int 1, .int (-1)]) (fun i H4 => ExtN H2 H4 ∧ Tabs Ts H4 ∧ ∃ acc, H4 D = some (.lst acc) ∧ acc.length = i ∧ ∀ v ∈ acc, ∃ b, v = V.ref b ∧ H4 b = some (.tup [V.str "paper", V.str "rest"])) ⟨ExtN.same s3, Tabs.same R2.T s3, [], upd_same, rfl, fun v hv => by cases hv⟩ (fun i H4 _ z => SqT.of (ExtN.tp z.1 gt)) ?_ ?_
      · rintro i x H4 hx ⟨x4, T4, acc, hD4, la4, ha⟩
        have hi : i < 2 := (List.getElem?_eq_some_iff.mp hx).1
        obtain ⟨k, rfl, hk⟩ : ∃ k : Int, x = .int k ∧ holdD flatR 1 (dRest k) = false := by
          match i, hx with
          | 0, hx =>
            cases hx
            exact ⟨1, rfl, hold_not.1⟩
          | 1, hx =>
            cases hx
            exact ⟨-1, rfl, hold_not.2⟩
        refine ⟨rfl, ?_⟩
        refine iteT (B := ExtN H2 H4 ∧ Tabs Ts H4 ∧ ∃ acc, H4 D = some (.lst acc) ∧ acc.length = i + 1 ∧ ∀ v ∈ acc, ∃ b, v = V.ref b ∧ H4 b = some (.tup [V.str "paper", V.str "rest"])) ?_
        refine ⟨T4, fun Ha xa Ta => ⟨_, rfl, _, rfl, _, rfl, (by show 3 ≤ sizeLine; decide), fun p5 hp5 => ?_⟩⟩
        have s5 := same_new (o := .tup [.str "rest", .ref la, .int k]) hp5
        have xb := ExtN.trans x4 xa
        refine ⟨_, _, dP flatR, dRest k, rfl, dps s5 (ExtN.t2 xb R2.df), .tup (SqT.of upd_same) (.cons (.str _) (.cons (dps s5 (ExtN.t2 xb dl2)) (.cons (.int _) .nil))), nrow flat_ok, fun qs' ee _ => ?_⟩
        obtain rfl := dP_inj ee
        refine ⟨flat_ok, fun z => (by rw [show formD (dRest k) = some wR from form_rs _ _] at z; cases z), fun wd z => ⟨line_sq _, rest_shaped k, fun b hb => ?_⟩⟩
        obtain rfl : wR = wd := Option.some.inj ((form_rs (dP lineR) (.int k)).symm.trans z)
        have eb : b = false := (hb 1 flat_clm).trans hk
        subst eb
        refine ⟨fun z => (by cases z), fun _ H6 s6 => out_of Hk .p (fun p7 H7 s7 q7 => ?_)⟩
        have s57 := s5.trans (s6.trans s7)
        have x7 : ExtN H4 H7 := ExtN.trans xa (ExtN.same s57)
        have hD7 := ExtN.l x7 hD4
        refine ⟨acc, hD7, small1000 (by omega), fun b o e n => (upd_ne (ne_of_none e hD)).trans (x7 b o (x4 b o e n) n), tabs_app (Tabs.same Ta s57) hD7, acc ++ [.ref p7], upd_same, by rw [List.length_append, la4]; rfl, fun v hv => ?_⟩
        rcases List.mem_append.mp hv with hv | hv
        · obtain ⟨b, rfl, gb⟩ := ha v hv
          have gb7 := ExtN.tp x7 gb
          exact ⟨b, rfl, (upd_ne (ne_of gb7 hD7 (by intro z; cases z))).trans gb7⟩
        · rw [List.mem_singleton.mp hv]
          exact ⟨p7, rfl, (upd_ne (ne_of q7 hD7 (by intro z; cases z))).trans q7⟩
      · rintro H4 ⟨x4, T4, acc, hD4, la4, ha⟩
        have la2 : acc.length = 2 := la4
        refine ⟨(by show 2 ≤ sizeLine; decide), fun p5 hp5 => ⟨(by show 1 ≤ sizeLine; decide), fun p6 hp6 => ?_⟩⟩
        have s5 := same_new (o := .tup [.str "paper", .str "rest"]) hp5
        have s6 := same_new (o := .lst [.ref p5]) hp6
        refine ⟨p6, 2, _, rfl, rfl, upd_same, by decide, by decide, (by show 2 ≤ sizeLine; decide), fun p7 hp7 => ?_⟩
        have s7 := same_new (o := .lst (List.replicate 2 (.ref p5))) hp7
        have mm := s5.trans (s6.trans s7)
        have da : DpAll K _ acc (List.replicate 2 (.tuple [.str "paper", .str "rest"])) := la2 ▸ dpAll_same fun v hv => by
          obtain ⟨b, rfl, gb⟩ := ha v hv
          exact dps mm (.tup (SqT.of gb) (.cons (.str _) (.cons (.str _) .nil)))
        have e5 := dps (s6.trans s7) (Dp.tup (K := K) (SqT.of (xs := [V.str "paper", V.str "rest"]) upd_same) (.cons (.str _) (.cons (.str _) .nil)))
        refine ⟨.list (List.replicate 2 (.tuple [.str "paper", .str "rest"])), .list (List.replicate 2 (.tuple [.str "paper", .str "rest"])), .lst (SqL.of (mm _ _ hD4)) da, .lst (SqL.of upd_same) (dpAll_rep e5 2), by decide +kernel, by decide +kernel, false, by decide +kernel, ?_⟩
        exact iteF ⟨_, (R2.ext x4 T4).same mm, dps mm (ExtN.t2 x4 dl2), rfl⟩
    clear R dl
    rintro σ H1 ⟨v4, R, dl, rfl⟩
    refine ⟨fun σ H2 => LI K Ts H H2 fa ba ∧ σ = [some (.ref a), some (.ref fa), some (.ref ba), some (.ref la), v4, none, none], ?_, ?_⟩
    · refine ⟨(by show 2 ≤ sizeLine; decide), fun e0 he0 => ⟨(by show 2 ≤ sizeLine; decide), fun e1 he1 => ⟨(by show 2 ≤ sizeLine; decide), fun e2 he2 => ⟨(by show 2 ≤ sizeLine; decide), fun e3 he3 => ⟨(by show 4 ≤ sizeLine; decide), fun e4 he4 => ?_⟩⟩⟩⟩⟩
      have ue0 := same_new (o := .tup [.int (1), .int (1)]) he0
      have ue1 := same_new (o := .tup [.int (2), .int (1)]) he1
      have ue2 := same_new (o := .tup [.int (4), .int (1)]) he2
      have ue3 := same_new (o := .tup [.int (8), .int (1)]) he3
      have ue4 := same_new (o := .tup [.ref e0, .ref e1, .ref e2, .ref e3]) he4
      have mm := (ue0.trans (ue1.trans (ue2.trans (ue3.trans ue4))))
      refine ⟨_, dP gmR, rfl, (show Dp K _ (.ref e4) (.tuple [.tuple [.int (1), .int (1)], .tuple [.int (2), .int (1)], .tuple [.int (4), .int (1)], .tuple [.int (8), .int (1)]]) from (.tup (SqT.of upd_same) (.cons (dps (ue1.trans (ue2.trans (ue3.trans ue4))) (show Dp K _ (.ref e0) (.tuple [.int (1), .int (1)]) from (.tup (SqT.of upd_same) (.cons (.int _) (.cons (.int _) .nil))))) (.cons (dps (ue2.trans (ue3.trans ue4)) (show Dp K _ (.ref e1) (.tuple [.int (2), .int (1)]) from (.tup (SqT.of upd_same) (.cons (.int _) (.cons (.int _) .nil))))) (.cons (dps (ue3.trans ue4) (show Dp K _ (.ref e2) (.tuple [.int (4), .int (1)]) from (.tup (SqT.of upd_same) (.cons (.int _) (.cons (.int _) .nil))))) (.cons (dps ue4 (show Dp K _ (.ref e3) (.tuple [.int (8), .int (1)]) from (.tup (SqT.of upd_same) (.cons (.int _) (.cons (.int _) .nil))))) .nil)))))), nrow gm_ok, row_fin (Rr := rLadOf K C.S) gm_ok ⟨fun H5 u J s5 C5 lad dp => ?_, fun H5 u J s5 C5 nl dp => ?_⟩⟩
      · obtain rfl := Clm.uniq C5 gm_clm
        refine ⟨(by show 2 ≤ sizeLine; decide), fun h0 hh0 => ⟨(by show 2 ≤ sizeLine; decide), fun h1 hh1 => ⟨(by show 1 ≤ sizeLine; decide), fun h2 hh2 => ⟨(by show 2 ≤ sizeLine; decide), fun h3 hh3 => ⟨(by show 1 ≤ sizeLine; decide), fun h4 hh4 => ⟨(by show 3 ≤ sizeLine; decide), fun h5 hh5 => ?_⟩⟩⟩⟩⟩⟩
        have uh0 := same_new (o := .tup [.int (1), .int (1)]) hh0
        have uh1 := same_new (o := .tup [.int (2), .int (1)]) hh1
        have uh2 := same_new (o := .tup [.ref h1]) hh2
        have uh3 := same_new (o := .tup [.int (0), .int (1)]) hh3
        have uh4 := same_new (o := .tup [.ref h3]) hh4
        have uh5 := same_new (o := .tup [.ref h0, .ref h2, .ref h4]) hh5
        have m2 := (uh0.trans (uh1.trans (uh2.trans (uh3.trans (uh4.trans uh5)))))
        refine ⟨dLad gmR 1, .tuple [.tuple [.int (1), .int (1)], .tuple [.tuple [.int (2), .int (1)]], .tuple [.tuple [.int (0), .int (1)]]], dps m2 dp, (show Dp K _ (.ref h5) (.tuple [.tuple [.int (1), .int (1)], .tuple [.tuple [.int (2), .int (1)]], .tuple [.tuple [.int (0), .int (1)]]]) from (.tup (SqT.of upd_same) (.cons (dps (uh1.trans (uh2.trans (uh3.trans (uh4.trans uh5)))) (show Dp K _ (.ref h0) (.tuple [.int (1), .int (1)]) from (.tup (SqT.of upd_same) (.cons (.int _) (.cons (.int _) .nil))))) (.cons (dps (uh3.trans (uh4.trans uh5)) (show Dp K _ (.ref h2) (.tuple [.tuple [.int (2), .int (1)]]) from (.tup (SqT.of upd_same) (.cons (dps uh2 (show Dp K _ (.ref h1) (.tuple [.int (2), .int (1)]) from (.tup (SqT.of upd_same) (.cons (.int _) (.cons (.int _) .nil))))) .nil)))) (.cons (dps uh5 (show Dp K _ (.ref h4) (.tuple [.tuple [.int (0), .int (1)]]) from (.tup (SqT.of upd_same) (.cons (dps uh4 (show Dp K _ (.ref h3) (.tuple [.int (0), .int (1)]) from (.tup (SqT.of upd_same) (.cons (.int _) (.cons (.int _) .nil))))) .nil)))) .nil))))), by decide +kernel, by decide +kernel, false, by decide +kernel, ?_⟩
        have R2 := R.same ((mm.trans s5).trans m2)
        exact iteF ⟨rfl, R2.T, fun Ha xa Ta => ⟨_, rfl, iteF ⟨R2.ext xa Ta, rfl⟩⟩⟩
      · obtain rfl := Clm.uniq C5 gm_clm
        rw [gm_lad] at nl
        cases nl
    clear R dl
    rintro σ H8 ⟨R, rfl⟩
    -- state
    refine ⟨fun σ H9 => ∃ (p c l : Addr) (n : Nat), Sta H9 p c l n 0 ∧ Tabs Ts H9 ∧ SqL K H9 a (ns.map V.int) ∧ σ = [some (.ref a), some (.ref fa), some (.ref ba), some (.ref la), v4, some (.ref p), none], ?_, ?_⟩
    · have sq8 := sqL_ext R.x sq
      exact ⟨_, rfl, a, ns, rfl, sq8, ln, fun H9 p c l n s9 _ _ S => ⟨p, c, l, n, S, Tabs.same R.T s9, sqL_same s9 sq8, rfl⟩⟩
    rintro σ H9 ⟨p, c, l, n, S, T9, sq9, rfl⟩
    -- the turns
    refine ⟨fun σ H1 => True, ?_, fun σ H1 _ => kk H1⟩
    have hm : ∀ m : Nat, 0 ≤ (3 : Int) + (if (3 : Int) < (m : Int) then 3 else (m : Int)) ∧ (3 : Int) + (if (3 : Int) < (m : Int) then 3 else (m : Int)) ≤ 6 := by
      intro m
      split <;> omega
    have hm2 := hm (ns.map V.int).length
    refine ⟨_, rfl, a, _, rfl, Or.inl sq9, _, _, rfl, _, _, rfl, rfl, _, rfl, ?_⟩
    generalize (3 : Int) + (if (3 : Int) < ((ns.map V.int).length : Int) then 3 else ((ns.map V.int).length : Int)) = m at hm2 ⊢
    refine ⟨by omega, by omega, for_range (n := m.toNat) (fun i σ H1 => ∃ (v : Option V) (t : Int), Sta H1 p c l n t ∧ Tabs Ts H1 ∧ t ≤ 60 * i ∧ σ = [some (.ref a), some (.ref fa), some (.ref ba), some (.ref la), v4, some (.ref p), v]) ⟨none, 0, S, T9, by omega, rfl⟩ ?_ (fun _ _ _ => trivial)⟩
    rintro i σ Hi hi ⟨v, t, Si, Ti, ti, rfl⟩
    exact ⟨_, rfl, p, c, l, n, t, rfl, Si, by omega, Ti, fun Hj t' _ tb Sj _ Tj => ⟨true, rfl, _, t', Sj, Tj, by omega, rfl⟩⟩
end
end Rs


set_option Elab.async false
set_option linter.all false
set_option maxRecDepth 100000
set_option maxHeartbeats 400000
namespace Rs
open PySem PySem.Spec PyProof.Rows L2 Bs Fq LamX RZ
section
variable {P : Program} {w : World} {K : PySem.W.Frag} {mg : Str → Option Value} {base : Heap} {f : Addr} {fd : FuncData}
theorem ErrW.okR {x q : Str} {C : Addr} (T : ErrW K mg x q "given" sIBR C) : ErrOkW P w K mg base x "given" C := by
  obtain ⟨fI, fd, a, b, F, bi⟩ := T.ini
  exact ⟨T.gC, T.oex, fI, fd, a, b, ok_iIBR F T.oex T.no, bi⟩
theorem ErrW.okP {x q : Str} {C : Addr} (T : ErrW K mg x q "part" sIBP C) : ErrOkW P w K mg base x "part" C := by
  obtain ⟨fI, fd, a, b, F, bi⟩ := T.ini
  exact ⟨T.gC, T.oex, fI, fd, a, b, ok_iIBP F T.oex T.no, bi⟩
theorem ErrW.okS {x q : Str} {C : Addr} (T : ErrW K mg x q "paper" sINS C) : ErrOkW P w K mg base x "paper" C := by
  obtain ⟨fI, fd, a, b, F, bi⟩ := T.ini
  exact ⟨T.gC, T.oex, fI, fd, a, b, ok_iINS F T.oex T.no, bi⟩
theorem DefD.fr2 (D : DefD K mg "first_rest" sFirst) (T : Blt mg) (Z : Nou K mg) (RS : Cal P w K mg base 4 "row_sum" (spRowSum K)) : C8.Cal P w K mg base 5 "first_rest" (spFirst K) [.int 0] := by
  obtain ⟨f, fd, F, m⟩ := D.ex
  obtain ⟨ds, v, b⟩ := F.binds1 (ps := ["row", "poly", "shift"]) 2 0 (by simp) rfl (fun T kV doc pm an cdv ct us its h1 h2 => match us, its, h1, h2 with | [_, _], [_], _, _ => ⟨_, rfl, rfl⟩)
  exact ⟨f, fd, _, ds, ok_first F T Z RS, m, F.kp, b, v⟩
end
end Rs


set_option Elab.async false
set_option linter.all false
set_option maxRecDepth 100000
set_option maxHeartbeats 1000000
/-! the end of a law with tables of lambdas, for a promise that wants no guards -/
namespace Rs
open PySem PySem.Spec PyProof.Rows L2 Bs LamX
/-- what is tracked at the law's call: the empty tables; the script, if t -/
def hof (ts : List Addr) (a : Addr) (t : Bool) (u : HO) : Hp := fun b => if b ∈ ts then some (.tbl #[]) else if b = a ∧ t = true then some u else none
section
variable {ts : List Addr} {a b : Addr} {t : Bool} {u x : HO}
theorem hof_some (h : hof ts a t u b = some x) : (b ∈ ts ∧ x = .tbl #[]) ∨ (b = a ∧ t = true ∧ x = u) := by
  unfold hof at h
  split at h
  · rename_i m
    cases h
    exact .inl ⟨m, rfl⟩
  · split at h
    · rename_i z
      cases h
      exact .inr ⟨z.1, z.2, rfl⟩
    · cases h
theorem hof_tab (m : b ∈ ts) : hof ts a t u b = some (.tbl #[]) := if_pos m
theorem hof_at (n : a ∉ ts) (e : t = true) : hof ts a t u a = some u := (if_neg n).trans (if_pos ⟨rfl, e⟩)
end
section
variable {P : Program} {w : World} {K : PySem.W.Frag} {mg mb : Str → Option Value} {k : Nat} {fa a : Addr} {cs : List (Addr × Addr)} {fd : FuncData} {x : Str} {sp : Sp} {s0 : Shared} {vs : List Value} {ns : List Int}
theorem callG (inK : K.In s0.heap) (gM : s0.heap.Ns mainGlobals mg) (gB : s0.heap.Ns builtinsNs mb) (gV : ∀ y : Str, y ≠ "__name__" → mb y = bootBuiltins y) (gL : s0.heap.NoLimit) (gG : s0.gens = #[])
    (tE : ∀ q ∈ cs, s0.heap.get? q.2 = some (PySem.W.tabObj #[])) (tK : ∀ q ∈ cs, K.lookup q.2 = none) (tH : ∀ q ∈ cs, PySem.W.codeHdIn K q.1 q.2 = true)
    (gb : ∃ (m : Addr) (o : Obj), mg "__builtins__" = some (.ref m) ∧ m ≠ builtinsNs ∧ s0.heap.get? m = some o ∧ o.cls = .type "module" ∧ o.dict = some builtinsNs ∧ o.data = .plain)
    (sc : s0.heap.get? a = some { cls := .type "list", data := .seq vs.toArray }) (si : IntsAre vs ns) (sl : ns.length ≤ sizeLine) (room : Room k callerA)
    (prom : ∀ base : Heap, K.In base → base.Ns mainGlobals mg → (∀ q ∈ cs, TabB base mg q.1 q.2) → FnG P w K mg base k fa fd [x] sp) (bnd : ∀ (s : Shared) (u : Value), BindsTo s fd ⟨[u], []⟩ [(x, u)])
    (wish : ∀ H : Hp, (∀ q ∈ cs, H q.2 = some (.tbl #[])) → SqL K H a (ns.map V.int) → sp [.ref a] H (fun v _ => v = .bl true) fun _ _ _ => False) :
    codeAny (model P w) callerA (.call (.ref fa) ⟨[.ref a], []⟩) (fun r s' => r = .ok (.ret (.bool true)) ∧ OldK s0.heap s'.heap ∧ s'.os = s0.os ∧ AllBare s'.gens) s0 := by
  have rv := vals_ints si
  have lv := si.length
  generalize hts : cs.map (·.2) = ts
  have inT : ∀ b ∈ ts, ∃ c, (c, b) ∈ cs := fun b hb => by
    rw [← hts] at hb
    obtain ⟨⟨c, b'⟩, h1, h2⟩ := List.mem_map.mp hb
    cases h2
    exact ⟨c, h1⟩
  have toT : ∀ q ∈ cs, q.2 ∈ ts := fun q hq => by
    rw [← hts]
    exact List.mem_map.mpr ⟨q, hq, rfl⟩
  have tab : ∀ b ∈ ts, s0.heap.get? b = some (PySem.W.tabObj #[]) := fun b hb => by
    obtain ⟨c, m⟩ := inT b hb
    exact tE _ m
  have aT : a ∉ ts := fun z => by
    have e := (tab a z).symm.trans sc
    cases e
  -- the script's own record
  generalize hso : ({ cls := .type "list", data := .seq vs.toArray } : Obj) = so at sc
  generalize hH : hof ts a (K.lookup a).isNone (.frz so (.lst (ns.map V.int))) = H
  have why : ∀ {b : Addr} {u : HO}, H b = some u → (b ∈ ts ∧ u = .tbl #[]) ∨ (b = a ∧ K.lookup a = none ∧ u = .frz so (.lst (ns.map V.int))) := fun {b u} e => by
    rw [← hH] at e
    rcases hof_some e with z | ⟨z1, z2, z3⟩
    · exact .inl z
    · exact .inr ⟨z1, Option.isNone_iff_eq_none.mp z2, z3⟩
  have hT : ∀ q ∈ cs, H q.2 = some (.tbl #[]) := fun q hq => by
    rw [← hH]
    exact hof_tab (toT q hq)
  have hS : SqL K H a (ns.map V.int) := by
    cases e : K.lookup a with
    | none =>
      refine .inl (.inr ⟨so, ?_⟩)
      rw [← hH]
      exact hof_at aT (by rw [e]; rfl)
    | some o =>
      have e2 := inK a o e
      rw [sc] at e2
      cases e2
      subst hso
      exact .inr ⟨_, vs.toArray, _, e, rfl, rfl, rfl, by rw [List.size_toArray, lv]; exact sl, by simpa using rv⟩
  have ok0 : HOk P w H s0.heap := fun b u e => by
    rcases why e with ⟨z, rfl⟩ | ⟨rfl, _, rfl⟩
    · exact tab b z
    · refine ⟨sc, ?_⟩
      subst hso
      exact ⟨by rw [List.length_map]; exact sl, vs, _, rv, sc⟩
  -- what is neither a list nor an empty table isn't tracked
  have off : ∀ {b : Addr} {o : Obj}, s0.heap.get? b = some o → (∀ (z : Array Value) (m : Nat), o.data ≠ .seq z m) → o.data ≠ .fields #[] → H b = none := fun {b o} e n1 n2 => by
    cases q : H b with
    | none => rfl
    | some u =>
      rcases why q with ⟨z, _⟩ | ⟨z, _, _⟩
      · rw [tab b z] at e
        cases e
        exact absurd rfl n2
      · rw [z, sc] at e
        cases e
        subst hso
        exact absurd rfl (n1 _ _)
  have low : ∀ {b : Addr} {o : Obj}, s0.heap.get? b = some o → H b = none → (hidT s0.heap H).get? b = some o := fun e n => hidT_get e n
  have offD : ∀ {b : Addr} {m : Str → Option Value}, s0.heap.Ns b m → (hidT s0.heap H).Ns b m := by
    rintro b m ⟨o, es, ep, e, d, r⟩
    exact ⟨o, es, ep, low e (off e (fun z m' q => by rw [d] at q; cases q) fun q => by rw [d] at q; cases q), d, r⟩
  have offK : K.In (hidT s0.heap H) := fun b o e => low (inK b o e) (by
    cases q : H b with
    | none => rfl
    | some u =>
      rcases why q with ⟨z, _⟩ | ⟨z, n, _⟩
      · obtain ⟨c, m⟩ := inT b z
        exact absurd (e.symm.trans (tK _ m)) (by simp)
      · rw [z, n] at e
        cases e)
  have M : L2.Mod K mg (hidT s0.heap H) := by
    obtain ⟨mc, c1, c2⟩ := gL
    exact ⟨offK, offD gM, ⟨mb, offD gB, gV⟩, mc, offD c1, c2⟩
  have TB : ∀ q ∈ cs, TabB (hidT s0.heap H) mg q.1 q.2 := fun q hq => by
    obtain ⟨m, o, m1, m2, m3, m4, m5, m6⟩ := gb
    have pl : ∀ {d : Data}, d = o.data → d = .plain := fun z => z.trans m6
    refine NdefX.tabB_of_K offK (tH q hq) ⟨m, o, m1, m2, fun z => ?_, fun z => ?_, low m3 (off m3 (fun z m' e => by rw [m6] at e; cases e) fun e => by rw [m6] at e; cases e), m4, m5, m6⟩ fun z => ?_
    · obtain ⟨o2, es, ep, e, d, _⟩ := gM
      rw [← z, m3] at e
      cases e
      rw [m6] at d
      cases d
    · have e := tE q hq
      rw [← z, m3] at e
      cases e
      cases m6
    · obtain ⟨o2, es, ep, e, d, _⟩ := gM
      rw [z, tE q hq] at e
      cases e
      cases d
  have E : Env0 P w K mg (hidT s0.heap H) callerA [] s0 H :=
    { frames := rfl, mod := M, bs := fun b o e => of_hidT e, bsz := Nat.le_of_eq (hidT_size _ _), funs := trivial, frf := (fun b hb => nomatch hb), hok := ok0, bare := .of_eq gG }
  refine codeAny_mono ((prom _ offK (offD gM) TB).run callerA [] s0 H ⟨[.ref a], []⟩ [.ref a] [.ref a] _ _ rfl room E (bnd s0 (.ref a)) (.cons rfl .nil) (wish H hT hS)) fun r s' h => ?_
  rcases r with e | fl
  · exact (show False from h).elim
  · cases fl with
    | next => exact (show False from h).elim
    | brk => exact (show False from h).elim
    | cont => exact (show False from h).elim
    | ret u =>
      obtain ⟨v, H2, os, bare, un, ok2, r2, rfl⟩ := h
      obtain rfl : u = Value.bool true := r2
      have more : ∀ b ∈ ts, ∃ m : Array Value, s'.heap.get? b = some (PySem.W.tabObj m) := fun b hb => by
        obtain ⟨c, hm⟩ := inT b hb
        obtain ⟨m, z⟩ := un.tbls b #[] (hT _ hm)
        exact ⟨_, ok2 b _ z⟩
      have same : ∀ b o, b ∉ ts → s0.heap.get? b = some o → s'.heap.get? b = some o := fun b o nb e => by
        cases q : H b with
        | none => exact un.keep b o e q (fun z => nomatch z) fun z => nomatch z
        | some u =>
          rcases why q with ⟨z, _⟩ | ⟨_, _, rfl⟩
          · exact absurd z nb
          · have g1 := (ok0 b _ q).1
            have g2 := (ok2 b _ (un.frzs b _ _ q)).1
            rw [e] at g1
            cases g1
            exact g2
      refine ⟨rfl, ⟨fun b o e => ?_, fun b o e => ?_⟩, os, bare⟩
      · by_cases hb : b ∈ ts
        · obtain ⟨c, hm⟩ := inT b hb
          obtain ⟨m, g⟩ := more b hb
          rw [tab b hb] at e
          cases e
          exact .inr (.inl ⟨((PySem.W.codeHd_of_K inK (tH _ hm)).tab (tab b hb)).isCodeTable, rfl, #[], m, rfl, by rw [Array.empty_append]; exact g⟩)
        · exact .inl (same b o hb e)
      · by_cases hb : b ∈ ts
        · obtain ⟨m, g⟩ := more b hb
          exact ⟨_, g⟩
        · exact ⟨o, same b o hb e⟩
end
end Rs


set_option Elab.async false
set_option linter.all false
set_option maxRecDepth 100000
set_option maxHeartbeats 1000000
namespace Rs
open PySem PySem.Spec PyProof.Rows L2 Bs LamX
section
variable {K : PySem.W.Frag} {h : Heap} {mg : Str → Option Value} {f C c P : Addr} {x q qual : Str} {st : Stmt} {ps : List Str} {oc kV doc pm cdv ct : Value} {od an : Option Addr} {sl : Array (Option Value)}
theorem defN_mk (X : K.In h) (G : h.Ns mainGlobals mg) (a : PySem.W.nsIn K mainGlobals x = some (some (.ref f)))
    (l : K.lookup f = some ⟨oc, od, .func (PySem.W.fnOf x x (defArgs st) (defBody st) (defScope st) .none kV doc pm an cdv ct), sl⟩) (c : PySem.W.codeIn K cdv x = true) (k : PySem.W.keepIn K (.ref f) = true)
    (b : ∀ (kV doc pm : Value) (an : Option Addr) (cdv ct : Value) (us : List Value), us.length = ps.length → bindArgs (PySem.W.fnOf x x (defArgs st) (defBody st) (defScope st) .none kV doc pm an cdv ct) ⟨us, []⟩ = pure (ps.zip us)) : DefN K mg x st ps :=
  ⟨f, _, fun_mk l c k, PySem.W.mg_of X G a, (fun_mk l c k).binds b⟩
theorem defC_mk (X : K.In h) (G : h.Ns mainGlobals mg) (a : PySem.W.nsIn K mainGlobals x = some (some (.ref f)))
    (l : K.lookup f = some ⟨oc, od, .func (PySem.W.fnOf x x (defArgs st) (defBody st) (defScope st) .none kV doc pm an (.ref c) ct), sl⟩) (hc : PySem.W.codeIn K (.ref c) x = true) (k : PySem.W.keepIn K (.ref f) = true)
    (b : ∀ (kV doc pm : Value) (an : Option Addr) (cdv ct : Value) (us : List Value), us.length = ps.length → bindArgs (PySem.W.fnOf x x (defArgs st) (defBody st) (defScope st) .none kV doc pm an cdv ct) ⟨us, []⟩ = pure (ps.zip us)) : DefC K mg x st ps c :=
  ⟨f, _, ⟨oc, od, kV, doc, pm, an, ct, sl, rfl, l, hc⟩, PySem.W.mg_of X G a, k, (fun_mk l hc k).binds b⟩
/-- the table of a def's code, as K has it -/
theorem tab_mk {o1 : Value} {d1 : Option Addr} {vs : Array Value} {s1 : Array (Option Value)} (a : PySem.W.nsIn K mainGlobals x = some (some (.ref f)))
    (l : K.lookup f = some ⟨oc, od, .func (PySem.W.fnOf x x (defArgs st) (defBody st) (defScope st) .none kV doc pm an (.ref c) ct), sl⟩) (k : K.lookup c = some ⟨o1, d1, .fields vs, s1⟩) (v : (vs[11]? : Option Value) = some (.ref P)) : PySem.W.tabIn K x = some (c, P) := by
  unfold PySem.W.tabIn
  rw [a]
  simp only [l]
  show (match K.lookup c with
    | some ⟨_, _, .fields vs, _⟩ => (match (vs[11]? : Option Value) with
      | some (.ref P) => some (c, P)
      | _ => none)
    | _ => none) = _
  simp only [k, v]
end
section
variable {K : PySem.W.Frag} {mg : Str → Option Value} {g c1 c2 c3 P1 P2 P3 : Addr} {C : Cls}
structure Top0 (K : PySem.W.Frag) (mg : Str → Option Value) (C : Cls) (g c1 c2 c3 : Addr) : Prop where
  red : DefN K mg "reduced" sReduced ["top", "bottom"]
  add : DefN K mg "added" sAdded ["one", "other"]
  les : DefN K mg "lessened" sLessened ["one", "other"]
  tim : DefN K mg "timed" sTimed ["one", "other"]
  dvd : DefN K mg "divided" sDivided ["one", "other"]
  pai : DefN K mg "paired_sum" sPaired ["some", "others"]
  trm : DefN K mg "trimmed" sTrim ["some"]
  atp : DefN K mg "at_power" sAt ["poly", "number"]
  ple : DefN K mg "poly_lessened" sPLess ["one", "other"]
  psc : DefN K mg "poly_scaled" sScaled ["poly", "factor"]
  psh : DefN K mg "poly_shifted" sShifted ["poly", "number"]
  pti : DefN K mg "poly_timed" sPTimed ["one", "other"]
  nxt : DefN K mg "next_rung" sNext ["before", "here", "level", "step"]
  who : DefN K mg "is_whole" sWhole ["thing"]
  fra : DefN K mg "is_fraction" sFraction ["thing"]
  pos : DefN K mg "is_positive" sPosi ["thing"]
  arf : DefN K mg "are_fractions" sAreF ["thing", "most"]
  abv : DefN K mg "are_above" sAbove ["some"]
  isl : DefN K mg "is_ladder" sIsLad ["thing"]
  isp : DefN K mg "is_poly" sIsPoly ["thing"]
  isr : DefN K mg "is_row" sIsRow ["thing"]
  neR : DefN K mg "need_row" sNeedRow ["thing"]
  cli : DefN K mg "climb" sClimb ["row"]
  pao : DefN K mg "paper_of" sPaperOf ["row"]
  shl : DefN K mg "shared_ladder" sShared ["row"]
  rpa : DefN K mg "row_paper" sRowPap ["row"]
  iss : DefN K mg "is_of_share" sIsShare ["row"]
  lad : DefN K mg "ladder_of" sLadOf ["row"]
  piv : DefN K mg "pivots" sPivots ["row"]
  nef : DefN K mg "need_form" sNeedForm ["paper", "forms"]
  sqh : DefN K mg "does_square_hold" sSqHold ["row", "poly"]
  rsh : DefN K mg "does_rest_hold" sRsHold ["row", "poly", "number"]
  dho : DefN K mg "does_hold" sHold ["row", "paper"]
  chk : DefN K mg "check_row" sCheck ["row", "paper"]
  mix : DefN K mg "_law_mixed" sMixed ["cell", "k"]
  beg : DefN K mg "_law_begin" sBegin ["script"]
  drw : DefN K mg "_law_draw" sDraw ["state", "many"]
  lra : DefN K mg "_law_ratio" sLRatio ["top", "bottom"]
  lpl : DefN K mg "_law_plus" sLPlus ["one", "other"]
  lle : DefN K mg "_law_less" sLLess ["one", "other"]
  lti : DefN K mg "_law_times" sLTimes ["one", "other"]
  lov : DefN K mg "_law_over" sLOver ["one", "other"]
  lun : DefN K mg "_law_under" sLUnder ["one", "other"]
  lsu : DefN K mg "_law_sum" sLSum ["some"]
  lsh : DefN K mg "_law_share" sLShare ["state", "few"]
  lpo : DefN K mg "_law_power" sLPower ["one", "many"]
  lmo : DefN K mg "_law_moments" sLMoms ["share_so", "top"]
  lsb : DefN K mg "_law_sum_by" sLSumBy ["row", "some"]
  lpr : DefN K mg "_law_product" sLProd ["one", "far"]
  lls : DefN K mg "_law_lesser" sLLesser ["one", "far"]
  sma : DefN K mg "_law_small" sSmall ["state"]
  ltr : DefN K mg "_law_trim" sLTrim ["some"]
  lpy : DefN K mg "_law_poly" sLPoly ["state", "many"]
  bui : DefN K mg "_law_built" sLBuilt ["row"]
  mis : DefN K mg "_law_misfits" sMisfits ["row", "some"]
  had : DefN K mg "_law_had" sHad ["row"]
  lro : DefN K mg "_law_row" sLRow ["state"]
  lip : DefN K mg "_law_is_poly" sLIsPoly ["row", "thing"]
  due : DefN K mg "_law_due" sDue ["row", "paper"]
  oth : DefN K mg "_law_other" sOther ["state", "row", "paper"]
  god : DefC K mg "_law_good" sGood ["state"] c1
  ref : DefC K mg "_law_refused_good" sRefused [] c2
  law : DefC K mg "law" sLaw ["script"] c3
  eR : ErrW K mg "BadRow" "BadRow.__init__" "given" sIBR C.R
  eP : ErrW K mg "BadPaper" "BadPaper.__init__" "part" sIBP C.P
  eS : ErrW K mg "NoShare" "NoShare.__init__" "paper" sINS C.S
  hk : HeardK K mg g C
  z : Nou K mg
  t : Blt mg
  og : OneG K mg
  ms : Mosts mg
  mo : MostOk mg
  m9 : Most9 mg
  fg : FormsG K mg
  dr : DefD K mg "row_sum" sRowSum
  dq : DefD K mg "square_sum" sSquare
  df : DefD K mg "first_rest" sFirst
  zp : mg "zip" = none
  al : mg "all" = none
  mx : mg "max" = none
  en : mg "enumerate" = none
  st : mg "str" = none
abbrev lamQ (x : Str) : Str := (x ++ ".<locals>.") ++ "<lambda>"
def lamTs (P1 P2 P3 : Addr) : List (Addr × Str) := [(P1, lamQ "_law_good"), (P2, lamQ "_law_refused_good"), (P3, lamQ "law")]
theorem law_prom {P : Program} {w : World} (D : Top0 K mg C g c1 c2 c3) (n12 : P1 ≠ P2) (n13 : P1 ≠ P3) (n23 : P2 ≠ P3) {fa : Addr} (hfa : mg "law" = some (.ref fa)) :
    ∃ fd : FuncData, (∀ (s : Shared) (u : Value), BindsTo s fd ⟨[u], []⟩ [("script", u)]) ∧
      ∀ base : Heap, (∀ r ∈ [(c1, P1), (c2, P2), (c3, P3)], TabB base mg r.1 r.2) → FnG P w K mg base 13 fa fd ["script"] (spLaw K (lamTs P1 P2 P3)) := by
  obtain ⟨f, fd, F, m, kp, bi⟩ := D.law.ex
  rw [hfa] at m
  cases m
  refine ⟨fd, ?_, fun base tb => ?_⟩
  · obtain ⟨oc, od, kV, doc, pm, an, ct, osl, rfl, _, _⟩ := F.ex
    exact fun s u => .of_eq rfl
  have t1 := tb (c1, P1) (by simp)
  have t2 := tb (c2, P2) (by simp)
  have t3 := tb (c3, P3) (by simp)
  have one1 : ∀ p ∈ lamTs P1 P2 P3, p.1 = P1 → p.2 = lamQ "_law_good" := by
    intro p hp e
    simp only [lamTs, List.mem_cons, List.not_mem_nil, or_false] at hp
    rcases hp with rfl | rfl | rfl
    · rfl
    · exact absurd e.symm n12
    · exact absurd e.symm n13
  have in1 : (P1, lamQ "_law_good") ∈ lamTs P1 P2 P3 := .head _
  have one2 : ∀ p ∈ lamTs P1 P2 P3, p.1 = P2 → p.2 = lamQ "_law_refused_good" := by
    intro p hp e
    simp only [lamTs, List.mem_cons, List.not_mem_nil, or_false] at hp
    rcases hp with rfl | rfl | rfl
    · exact absurd e n12
    · rfl
    · exact absurd e.symm n23
  have in2 : (P2, lamQ "_law_refused_good") ∈ lamTs P1 P2 P3 := .tail _ (.head _)
  have one3 : ∀ p ∈ lamTs P1 P2 P3, p.1 = P3 → p.2 = lamQ "law" := by
    intro p hp e
    simp only [lamTs, List.mem_cons, List.not_mem_nil, or_false] at hp
    rcases hp with rfl | rfl | rfl
    · exact absurd e n13
    · exact absurd e n23
    · rfl
  have in3 : (P3, lamQ "law") ∈ lamTs P1 P2 P3 := .tail _ (.tail _ (.head _))
  have T := D.t
  have eR : ErrOkW P w K mg base "BadRow" "given" C.R := D.eR.okR
  have eP : ErrOkW P w K mg base "BadPaper" "part" C.P := D.eP.okP
  have eS : ErrOkW P w K mg base "NoShare" "paper" C.S := D.eS.okS
  have red := D.red.cal (P := P) (w := w) (base := base) fun f fd F => ok_reduced F T
  have add := D.add.cal (P := P) (w := w) (base := base) fun f fd F => ok_added F red
  have les := D.les.cal (P := P) (w := w) (base := base) fun f fd F => ok_lessened F red
  have tim := D.tim.cal (P := P) (w := w) (base := base) fun f fd F => ok_timed F red
  have dvd := D.dvd.cal (P := P) (w := w) (base := base) fun f fd F => ok_divided F red
  have pai := D.pai.cal (P := P) (w := w) (base := base) fun f fd F => ok_paired F D.z D.zp add tim
  have trm := D.trm.cal (P := P) (w := w) (base := base) fun f fd F => ok_trim F T D.z
  have atp := D.atp.cal (P := P) (w := w) (base := base) fun f fd F => ok_at F T D.z
  have ple := D.ple.cal (P := P) (w := w) (base := base) fun f fd F => ok_pless F T D.mx les atp trm
  have psc := D.psc.cal (P := P) (w := w) (base := base) fun f fd F => ok_scaled F T tim trm
  have psh := D.psh.cal (P := P) (w := w) (base := base) fun f fd F => ok_shifted F D.z
  have pti := D.pti.cal (P := P) (w := w) (base := base) fun f fd F => ok_ptimed F T D.en D.z add tim trm
  have nxt := D.nxt.cal (P := P) (w := w) (base := base) fun f fd F => ok_next F ple psc psh
  have rs3 := (D.dr.rows (P := P) (w := w) (base := base) pai).2
  have sq3 := (D.dq.squares (P := P) (w := w) (base := base) rs3 pti).2
  have sq2 := (D.dq.squares (P := P) (w := w) (base := base) rs3 pti).1
  have fr2 := D.df.fr2 (P := P) (w := w) (base := base) T D.z rs3
  have who := D.who.cal (P := P) (w := w) (base := base) fun f fd F => ok_whole F T
  have fra := D.fra.cal (P := P) (w := w) (base := base) fun f fd F => ok_fraction F T who
  have pos := D.pos.cal (P := P) (w := w) (base := base) fun f fd F => ok_posi F fra
  have arf := D.arf.cal (P := P) (w := w) (base := base) fun f fd F => ok_areF F T D.al fra
  have abv := D.abv.cal (P := P) (w := w) (base := base) fun f fd F => ok_above F D.al
  have isl := D.isl.cal (P := P) (w := w) (base := base) fun f fd F => ok_isLad F T D.ms D.z pos arf abv
  have isp := D.isp.cal (P := P) (w := w) (base := base) fun f fd F => ok_isPoly F T D.z D.mo arf
  have isr := D.isr.cal (P := P) (w := w) (base := base) fun f fd F => ok_isRow F T D.m9 arf
  have neR := D.neR.calX (P := P) (w := w) (base := base) fun f fd F => ok_needRow F eR isr
  have cli := D.cli.cal (P := P) (w := w) (base := base) fun f fd F => ok_climb F T D.z D.og dvd sq2 sq3 nxt
  have pao := D.pao.cal (P := P) (w := w) (base := base) fun f fd F => ok_paperOf F T D.z D.zp cli fr2 dvd
  have shl := D.shl.calX (P := P) (w := w) (base := base) fun f fd F => ok_shared F eS pao
  have rpa := D.rpa.calX (P := P) (w := w) (base := base) fun f fd F => ok_rowPap F neR pao
  have iss := D.iss.calX (P := P) (w := w) (base := base) fun f fd F => ok_isShare F rpa
  have lad := D.lad.calX (P := P) (w := w) (base := base) fun f fd F => ok_ladOf F neR shl
  have piv := D.piv.calX (P := P) (w := w) (base := base) fun f fd F => ok_pivots F T neR cli
  have nef := D.nef.calX (P := P) (w := w) (base := base) fun f fd F => ok_needForm F T D.st eP
  have sqh := D.sqh.cal (P := P) (w := w) (base := base) fun f fd F => ok_sqHold F T isp sq2
  have rsh := D.rsh.cal (P := P) (w := w) (base := base) fun f fd F => ok_rsHold F T D.z who isp sq2 rs3
  have dho := D.dho.cal (P := P) (w := w) (base := base) fun f fd F => ok_hold F sqh rsh isl pao
  have chk := D.chk.calX (P := P) (w := w) (base := base) fun f fd F => ok_check F D.fg eP neR nef dho
  have mix := D.mix.cal (P := P) (w := w) (base := base) fun f fd F => ok_mixed F T
  have beg := D.beg.cal (P := P) (w := w) (base := base) fun f fd F => ok_begin F T
  have drw := D.drw.cal (P := P) (w := w) (base := base) fun f fd F => ok_draw F T mix
  have lra := D.lra.cal (P := P) (w := w) (base := base) fun f fd F => ok_lratio F T
  have lpl := D.lpl.cal (P := P) (w := w) (base := base) fun f fd F => ok_lplus F lra
  have lle := D.lle.cal (P := P) (w := w) (base := base) fun f fd F => ok_lless F lra
  have lti := D.lti.cal (P := P) (w := w) (base := base) fun f fd F => ok_ltimes F lra
  have lov := D.lov.cal (P := P) (w := w) (base := base) fun f fd F => ok_lover F lra
  have lun := D.lun.cal (P := P) (w := w) (base := base) fun f fd F => ok_lunder F
  have lsu := D.lsu.cal (P := P) (w := w) (base := base) fun f fd F => ok_lsum F lpl
  have lsh := D.lsh.cal (P := P) (w := w) (base := base) fun f fd F => ok_lshare F T drw lra lun
  have lpo := D.lpo.cal (P := P) (w := w) (base := base) fun f fd F => ok_lpower F T lti
  have lmo := D.lmo.cal (P := P) (w := w) (base := base) fun f fd F => ok_lmoms F T lti lpo lsu
  have lsb := D.lsb.cal (P := P) (w := w) (base := base) fun f fd F => ok_lsumBy F D.zp lti lsu
  have lpr := D.lpr.cal (P := P) (w := w) (base := base) fun f fd F => ok_lprod F T D.en lpl lti
  have lls := D.lls.cal (P := P) (w := w) (base := base) fun f fd F => ok_llesser F T D.en lle
  have sma := D.sma.cal (P := P) (w := w) (base := base) fun f fd F => ok_small F drw lra
  have ltr := D.ltr.cal (P := P) (w := w) (base := base) fun f fd F => ok_ltrim F T
  have lpy := D.lpy.cal (P := P) (w := w) (base := base) fun f fd F => ok_lpoly F T drw sma ltr
  have bui := D.bui.cal (P := P) (w := w) (base := base) fun f fd F => ok_lbuilt F T lti lov lls lsb lpr
  have mis := D.mis.cal (P := P) (w := w) (base := base) fun f fd F => ok_misfits F T lsb
  have had := D.had.cal (P := P) (w := w) (base := base) fun f fd F => ok_had F T D.zp lov bui mis
  have lro := D.lro.cal (P := P) (w := w) (base := base) fun f fd F => ok_lrow F T drw lra lpl lsh lmo
  have lip := D.lip.cal (P := P) (w := w) (base := base) fun f fd F => ok_lisPoly F T lra
  have due := D.due.cal (P := P) (w := w) (base := base) fun f fd F => ok_due F T had lip lsb lpr mis
  have oth := D.oth.cal (P := P) (w := w) (base := base) fun f fd F => ok_other F T drw sma lpy
  have god := D.god.calG (P := P) (w := w) (base := base) fun f fd F => ok_good F T D.hk (fun A outer s H E => ⟨t1, rfl, in1, one1⟩) lro bui had due oth rpa iss piv lad chk
  have ref := D.ref.calG (P := P) (w := w) (base := base) fun f fd F => ok_refused F T D.hk (fun A outer s H E => ⟨t2, rfl, in2, one2⟩) rpa iss piv lad chk
  exact ok_law F T D.hk (fun A outer s H E => ⟨t3, rfl, in3, one3⟩) iss piv lad chk ref beg god
theorem walkG {l : PySem.W.OpenLaw} {q : Program} {loose : List Str} {XP : (Str → Option Value) → Heap → Prop} {YP : World → Heap → Prop} {d : DefRec} {KK : Params → PySem.W.Frag} (hn : l.most = some 63) (hd : d.params.defaults = [])
    (hY : ∀ (w : World) (h : Heap), YP w h → (KK w.params).In h)
    (F : ∀ (w : World) (mg : Str → Option Value) (fa : Addr) (h : Heap), (KK w.params).In h → h.Ns mainGlobals mg → mg d.name = some (.ref fa) →
      ∃ (C : Cls) (g c1 c2 c3 P1 P2 P3 : Addr) (e1 e2 e3 : DefRec), Top0 (KK w.params) mg C g c1 c2 c3 ∧ mg "law" = some (.ref fa) ∧ P1 ≠ P2 ∧ P1 ≠ P3 ∧ P2 ≠ P3 ∧
        (recsOf q).find? (fun e => e.name == ("_law_good" : Str)) = some e1 ∧ (recsOf q).find? (fun e => e.name == ("_law_refused_good" : Str)) = some e2 ∧ (recsOf q).find? (fun e => e.name == ("law" : Str)) = some e3 ∧
        PySem.W.tabIn (KK w.params) "_law_good" = some (c1, P1) ∧ PySem.W.tabIn (KK w.params) "_law_refused_good" = some (c2, P2) ∧ PySem.W.tabIn (KK w.params) "law" = some (c3, P3) ∧
        (∀ r ∈ [(c1, P1), (c2, P2), (c3, P3)], List.lookup r.2 (KK w.params) = none ∧ PySem.W.codeHdIn (KK w.params) r.1 r.2 = true)) :
    PySem.W.WalkO q loose XP YP l.row.toRowW d [] (fun f vs => PySem.call f vs) := by
  refine Att.attach_callB hn hd fun w s9 s0 mg mb fa o pm cd doc a vs ns GG Y h1 h2 h3 hm hs hi hl hb hg => ?_
  have inK := hY w _ Y
  obtain ⟨C, g, c1, c2, c3, P1, P2, P3, e1, e2, e3, D, m, n12, n13, n23, r1, r2, r3, b1, b2, b3, no⟩ := F w mg fa _ inK GG.T.g hm
  obtain ⟨fd, bnd, pr⟩ := law_prom (P := l.prog) (w := w) D n12 n13 n23 m
  have z1 := (PySem.W.tab_of GG.T inK r1 b1).2
  have z2 := (PySem.W.tab_of GG.T inK r2 b2).2
  have z3 := (PySem.W.tab_of GG.T inK r3 b3).2
  refine callG (cs := [(c1, P1), (c2, P2), (c3, P3)]) inK GG.T.g GG.T.b GG.T.builtins GG.T.nolimit hg ?_ (fun r hr => (no r hr).1) (fun r hr => (no r hr).2) GG.T.bmain hs hi (Nat.le_trans hl (by decide)) ⟨rfl, by decide, by decide⟩ (fun base _ _ tb => pr base tb) bnd fun H ht hq => ?_
  · intro r hr
    simp only [List.mem_cons, List.not_mem_nil, or_false] at hr
    rcases hr with rfl | rfl | rfl
    · exact z1
    · exact z2
    · exact z3
  · refine ⟨a, ns, rfl, hq, hl, ?_, fun _ => rfl⟩
    intro r hr
    simp only [lamTs, List.mem_cons, List.not_mem_nil, or_false] at hr
    rcases hr with rfl | rfl | rfl
    · exact TabS.nil (ht (c1, P1) (by simp))
    · exact TabS.nil (ht (c2, P2) (by simp))
    · exact TabS.nil (ht (c3, P3) (by simp))
end
end Rs


set_option Elab.async false
set_option linter.all false
set_option maxRecDepth 100000
set_option maxHeartbeats 1000000
namespace Rs
open PySem PySem.Spec PyProof.Rows L2 Bs LamX
section
variable {K : PySem.W.Frag} {h : Heap} {mg : Str → Option Value}
theorem nou_mk {a : Addr} {t1 t2 : Tok} {n : Nat} {sl : Array (Option Value)} (X : K.In h) (G : h.Ns mainGlobals mg) (e : PySem.W.nsIn K mainGlobals "NOUGHT" = some (some (.ref a)))
    (l : K.lookup a = some ⟨.type "tuple", none, .seq #[.int 0 t1, .int 1 t2] n, sl⟩) : Nou K mg :=
  ⟨a, PySem.W.mg_of X G e, fun H => .inr ⟨_, _, _, l, rfl, rfl, (by show 2 ≤ sizeLine; decide), .cons ⟨_, rfl⟩ (.cons ⟨_, rfl⟩ .nil)⟩⟩
theorem blt_mk (X : K.In h) (G : h.Ns mainGlobals mg) (h1 : PySem.W.nsIn K mainGlobals "isinstance" = some none) (h2 : PySem.W.nsIn K mainGlobals "len" = some none) (h3 : PySem.W.nsIn K mainGlobals "int" = some none)
    (h4 : PySem.W.nsIn K mainGlobals "bool" = some none) (h5 : PySem.W.nsIn K mainGlobals "tuple" = some none) (h6 : PySem.W.nsIn K mainGlobals "range" = some none) (h7 : PySem.W.nsIn K mainGlobals "list" = some none)
    (h8 : PySem.W.nsIn K mainGlobals "abs" = some none) (h9 : PySem.W.nsIn K mainGlobals "min" = some none) (h10 : PySem.W.nsIn K mainGlobals "repr" = some none) (h11 : PySem.W.nsIn K mainGlobals "gcd" = some (some (.builtin "math.gcd"))) : Blt mg :=
  ⟨PySem.W.mg_none_of X G h1, PySem.W.mg_none_of X G h2, PySem.W.mg_none_of X G h3, PySem.W.mg_none_of X G h4, PySem.W.mg_none_of X G h5, PySem.W.mg_none_of X G h6, PySem.W.mg_none_of X G h7, PySem.W.mg_none_of X G h8, PySem.W.mg_none_of X G h9, PySem.W.mg_none_of X G h10, PySem.W.mg_of X G h11⟩
/-- a class of errors with its __init__ -/
structure ErrTxt (K : PySem.W.Frag) (x qual fld : Str) (st : Stmt) (C : Addr) : Prop where
  a : PySem.W.nsIn K mainGlobals x = some (some (.ref C))
  oex : OexC K C
  xf : XfC K C
  no : PySem.W.findIn K (.ref C) fld = some none
  ini : ∃ (fI : Addr) (fd : FuncData), PySem.W.findIn K (.ref C) "__init__" = some (some (.ref fI)) ∧ PySem.W.typeIn K (.ref fI) = some (.type "function") ∧ Fun K "__init__" qual st fI fd ∧ Binds K fd ["self", fld] []
theorem err_mk {x qual fld : Str} {st : Stmt} {C fI N : Addr} {nm q : Str} {bs bm : List Value} {sn : List Str} {sub : List Value} {ab : Bool} {col : Option Bool} {dd : Option Addr} {k0 k1 k2 k3 k5 : Option Value}
    {oc kV doc pm cdv ct : Value} {od an : Option Addr} {sl : Array (Option Value)}
    (a : PySem.W.nsIn K mainGlobals x = some (some (.ref C))) (c : K.lookup C = some (excClassObj nm q C N bs bm true sn sub ab col dd k0 k1 k2 k3 k5 "ValueError.__new__")) (r : PySem.HandSPX.refsVE bm = true)
    (sa : PySem.W.findIn K (.ref C) "__setattr__" = some (some (.builtin "object.__setattr__"))) (ga : PySem.W.findIn K (.ref C) "__getattribute__" = some (some (.builtin "BaseException.__getattribute__")))
    (gg : PySem.W.findIn K (.ref C) "__getattr__" = some none) (no : PySem.W.findIn K (.ref C) fld = some none) (ex : PySem.W.subIn K (.ref C) (.type "BaseException") = some true) (ty : PySem.W.typeIn K (.ref C) = some (.type "type"))
    (kC : PySem.W.keepIn K (.ref C) = true) (hd : PySem.W.hasDictIn K C = true) (i : PySem.W.findIn K (.ref C) "__init__" = some (some (.ref fI))) (t : PySem.W.typeIn K (.ref fI) = some (.type "function"))
    (l : K.lookup fI = some ⟨oc, od, .func (PySem.W.fnOf "__init__" qual (defArgs st) (defBody st) (defScope st) .none kV doc pm an cdv ct), sl⟩) (hc : PySem.W.codeIn K cdv qual = true) (k : PySem.W.keepIn K (.ref fI) = true)
    (b : ∀ (kV doc pm : Value) (an : Option Addr) (cdv ct : Value) (us : List Value), us.length = (["self", fld] : List Str).length → bindArgs (PySem.W.fnOf "__init__" qual (defArgs st) (defBody st) (defScope st) .none kV doc pm an cdv ct) ⟨us, []⟩ = pure ((["self", fld] : List Str).zip us)) :
    ErrTxt K x qual fld st C :=
  ⟨a, ⟨⟨nm, q, N, bs, bm, sn, sub, ab, col, dd, k0, k1, k2, k3, k5, c, r⟩, sa, ex, ty, kC⟩, ⟨ga, gg, ex, hd⟩, no, fI, _, i, t, fun_mk l hc k, (fun_mk l hc k).binds b⟩
theorem ErrTxt.err {x qual : Str} {st : Stmt} {C : Addr} (E : ErrTxt K x qual "given" st C) (X : K.In h) (G : h.Ns mainGlobals mg) : Err K mg x qual st C := ⟨PySem.W.mg_of X G E.a, E.oex, E.xf, E.no, E.ini⟩
theorem ErrTxt.errW {x qual fld : Str} {st : Stmt} {C : Addr} (E : ErrTxt K x qual fld st C) (X : K.In h) (G : h.Ns mainGlobals mg) : ErrW K mg x qual fld st C := ⟨PySem.W.mg_of X G E.a, E.oex, E.xf, E.no, E.ini⟩
theorem heard_mk {g : Addr} {C : Cls} {oc kV doc pm cdv ct : Value} {od an : Option Addr} {sl : Array (Option Value)} (X : K.In h) (G : h.Ns mainGlobals mg) (eR : ErrTxt K "BadRow" "BadRow.__init__" "given" sIBR C.R) (eP : ErrTxt K "BadPaper" "BadPaper.__init__" "part" sIBP C.P) (eS : ErrTxt K "NoShare" "NoShare.__init__" "paper" sINS C.S)
    (a : PySem.W.nsIn K mainGlobals "_law_heard" = some (some (.ref g))) (l : K.lookup g = some ⟨oc, od, .func (PySem.W.fnOf "_law_heard" "_law_heard" (defArgs sHeard) (defBody sHeard) (defScope sHeard) .none kV doc pm an cdv ct), sl⟩)
    (c : PySem.W.codeIn K cdv "_law_heard" = true) (k : PySem.W.keepIn K (.ref g) = true) (xRR : PySem.W.exmOne K (.ref C.R) (.ref C.R) = some true) (xPR : PySem.W.exmOne K (.ref C.P) (.ref C.R) = some false) (xPP : PySem.W.exmOne K (.ref C.P) (.ref C.P) = some true) (xSR : PySem.W.exmOne K (.ref C.S) (.ref C.R) = some false) (xSP : PySem.W.exmOne K (.ref C.S) (.ref C.P) = some false) (xSS : PySem.W.exmOne K (.ref C.S) (.ref C.S) = some true) : HeardK K mg g C :=
  ⟨PySem.W.mg_of X G a, k, ⟨oc, od, kV, doc, pm, an, cdv, ct, sl, l, c⟩, PySem.W.mg_of X G eR.a, PySem.W.mg_of X G eP.a, PySem.W.mg_of X G eS.a, eR.xf, eP.xf, eS.xf, eR.no, eP.no, eS.no, xRR, xPR, xPP, xSR, xSP, xSS⟩
theorem one_mk {a : Addr} {t1 t2 : Tok} {n : Nat} {sl : Array (Option Value)} (X : K.In h) (G : h.Ns mainGlobals mg) (e : PySem.W.nsIn K mainGlobals "ONE" = some (some (.ref a)))
    (l : K.lookup a = some ⟨.type "tuple", none, .seq #[.int 1 t1, .int 1 t2] n, sl⟩) : OneG K mg :=
  ⟨a, PySem.W.mg_of X G e, fun H => .inr ⟨_, _, _, l, rfl, rfl, (by show 2 ≤ sizeLine; decide), .cons ⟨_, rfl⟩ (.cons ⟨_, rfl⟩ .nil)⟩⟩
theorem mosts_mk {t1 t2 : Tok} (X : K.In h) (G : h.Ns mainGlobals mg) (e1 : PySem.W.nsIn K mainGlobals "MOST_OPEN" = some (some (.int 4 t1))) (e2 : PySem.W.nsIn K mainGlobals "MOST_ENDED" = some (some (.int 5 t2))) : Mosts mg := ⟨⟨t1, PySem.W.mg_of X G e1⟩, ⟨t2, PySem.W.mg_of X G e2⟩⟩
theorem most_mk {t : Tok} (X : K.In h) (G : h.Ns mainGlobals mg) (e : PySem.W.nsIn K mainGlobals "MOST" = some (some (.int 12 t))) : MostOk mg := ⟨t, PySem.W.mg_of X G e⟩
theorem most9_mk {t : Tok} (X : K.In h) (G : h.Ns mainGlobals mg) (e : PySem.W.nsIn K mainGlobals "MOST_MOMENTS" = some (some (.int 9 t))) : Most9 mg := ⟨⟨t, PySem.W.mg_of X G e⟩⟩
theorem forms_mk {a g1 g2 g3 : Addr} {t1 t2 t3 t4 t5 t6 : Tok} {n n1 n2 n3 : Nat} {sl sl1 sl2 sl3 : Array (Option Value)} (X : K.In h) (G : h.Ns mainGlobals mg) (e : PySem.W.nsIn K mainGlobals "FORMS" = some (some (.ref a)))
    (l : K.lookup a = some ⟨.type "tuple", none, .seq #[.ref g1, .ref g2, .ref g3] n, sl⟩) (l1 : K.lookup g1 = some ⟨.type "tuple", none, .seq #[.str "ladder" t1, .int 2 t2] n1, sl1⟩) (l2 : K.lookup g2 = some ⟨.type "tuple", none, .seq #[.str "square" t3, .int 2 t4] n2, sl2⟩)
    (l3 : K.lookup g3 = some ⟨.type "tuple", none, .seq #[.str "rest" t5, .int 3 t6] n3, sl3⟩) : FormsG K mg :=
  ⟨a, g1, g2, g3, PySem.W.mg_of X G e, fun H => ⟨.inr ⟨_, _, _, l, rfl, rfl, (by show 3 ≤ sizeLine; decide), .cons rfl (.cons rfl (.cons rfl .nil))⟩, .inr ⟨_, _, _, l1, rfl, rfl, (by show 2 ≤ sizeLine; decide), .cons ⟨_, rfl⟩ (.cons ⟨_, rfl⟩ .nil)⟩,
    .inr ⟨_, _, _, l2, rfl, rfl, (by show 2 ≤ sizeLine; decide), .cons ⟨_, rfl⟩ (.cons ⟨_, rfl⟩ .nil)⟩, .inr ⟨_, _, _, l3, rfl, rfl, (by show 2 ≤ sizeLine; decide), .cons ⟨_, rfl⟩ (.cons ⟨_, rfl⟩ .nil)⟩⟩⟩
theorem dr_mk {f Td : Addr} {oc kV doc pm cdv ct tc : Value} {od an td : Option Addr} {sl sl2 : Array (Option Value)} {t : Tok} {n : Nat} (X : K.In h) (G : h.Ns mainGlobals mg) (a : PySem.W.nsIn K mainGlobals "row_sum" = some (some (.ref f))) (l : K.lookup f = some ⟨oc, od, .func (PySem.W.fnOf "row_sum" "row_sum" (defArgs sRowSum) (defBody sRowSum) (defScope sRowSum) (.ref Td) kV doc pm an cdv ct), sl⟩)
    (d : K.lookup Td = some ⟨tc, td, .seq #[.int 0 t] n, sl2⟩) (c : PySem.W.codeIn K cdv "row_sum" = true) (k : PySem.W.keepIn K (.ref f) = true) : DefD K mg "row_sum" sRowSum :=
  ⟨f, _, ⟨⟨oc, od, .ref Td, kV, doc, pm, an, cdv, ct, sl, rfl, l, c, .inr ⟨by simp, Td, _, [.int 0 t], n, rfl, d, rfl, .cons ⟨t, rfl⟩ .nil⟩, .inl rfl⟩, k⟩, PySem.W.mg_of X G a⟩
theorem dq_mk {f Td : Addr} {oc kV doc pm cdv ct tc : Value} {od an td : Option Addr} {sl sl2 : Array (Option Value)} {t : Tok} {n : Nat} (X : K.In h) (G : h.Ns mainGlobals mg) (a : PySem.W.nsIn K mainGlobals "square_sum" = some (some (.ref f))) (l : K.lookup f = some ⟨oc, od, .func (PySem.W.fnOf "square_sum" "square_sum" (defArgs sSquare) (defBody sSquare) (defScope sSquare) (.ref Td) kV doc pm an cdv ct), sl⟩)
    (d : K.lookup Td = some ⟨tc, td, .seq #[.int 0 t] n, sl2⟩) (c : PySem.W.codeIn K cdv "square_sum" = true) (k : PySem.W.keepIn K (.ref f) = true) : DefD K mg "square_sum" sSquare :=
  ⟨f, _, ⟨⟨oc, od, .ref Td, kV, doc, pm, an, cdv, ct, sl, rfl, l, c, .inr ⟨by simp, Td, _, [.int 0 t], n, rfl, d, rfl, .cons ⟨t, rfl⟩ .nil⟩, .inl rfl⟩, k⟩, PySem.W.mg_of X G a⟩
theorem df_mk {f Td : Addr} {oc kV doc pm cdv ct tc : Value} {od an td : Option Addr} {sl sl2 : Array (Option Value)} {t : Tok} {n : Nat} (X : K.In h) (G : h.Ns mainGlobals mg) (a : PySem.W.nsIn K mainGlobals "first_rest" = some (some (.ref f))) (l : K.lookup f = some ⟨oc, od, .func (PySem.W.fnOf "first_rest" "first_rest" (defArgs sFirst) (defBody sFirst) (defScope sFirst) (.ref Td) kV doc pm an cdv ct), sl⟩)
    (d : K.lookup Td = some ⟨tc, td, .seq #[.int 0 t] n, sl2⟩) (c : PySem.W.codeIn K cdv "first_rest" = true) (k : PySem.W.keepIn K (.ref f) = true) : DefD K mg "first_rest" sFirst :=
  ⟨f, _, ⟨⟨oc, od, .ref Td, kV, doc, pm, an, cdv, ct, sl, rfl, l, c, .inr ⟨by simp, Td, _, [.int 0 t], n, rfl, d, rfl, .cons ⟨t, rfl⟩ .nil⟩, .inl rfl⟩, k⟩, PySem.W.mg_of X G a⟩
end
/-- all of it -/
theorem all_mk {q : Program} {K : PySem.W.Frag} {h : Heap} {mg : Str → Option Value} {fa c1 c2 c3 P1 P2 P3 : Addr} {CR CP CS : Addr}
    {f1 : Addr} {oc1 kV1 dc1 pm1 ct1 o1 : Value} {od1 an1 dd1 : Option Addr} {sl1 sm1 : Array (Option Value)} {vs1 : Array Value} {e1 : DefRec}
    {f2 : Addr} {oc2 kV2 dc2 pm2 ct2 o2 : Value} {od2 an2 dd2 : Option Addr} {sl2 sm2 : Array (Option Value)} {vs2 : Array Value} {e2 : DefRec}
    {f3 : Addr} {oc3 kV3 dc3 pm3 ct3 o3 : Value} {od3 an3 dd3 : Option Addr} {sl3 sm3 : Array (Option Value)} {vs3 : Array Value} {e3 : DefRec}
    {g : Addr} {oc kV doc pm cdv ct : Value} {od an : Option Addr} {sl : Array (Option Value)}
    (X : K.In h) (G : h.Ns mainGlobals mg) (hfa : mg "law" = some (.ref fa))
    (red : DefN K mg "reduced" sReduced ["top", "bottom"])
    (add : DefN K mg "added" sAdded ["one", "other"])
    (les : DefN K mg "lessened" sLessened ["one", "other"])
    (tim : DefN K mg "timed" sTimed ["one", "other"])
    (dvd : DefN K mg "divided" sDivided ["one", "other"])
    (pai : DefN K mg "paired_sum" sPaired ["some", "others"])
    (trm : DefN K mg "trimmed" sTrim ["some"])
    (atp : DefN K mg "at_power" sAt ["poly", "number"])
    (ple : DefN K mg "poly_lessened" sPLess ["one", "other"])
    (psc : DefN K mg "poly_scaled" sScaled ["poly", "factor"])
    (psh : DefN K mg "poly_shifted" sShifted ["poly", "number"])
    (pti : DefN K mg "poly_timed" sPTimed ["one", "other"])
    (nxt : DefN K mg "next_rung" sNext ["before", "here", "level", "step"])
    (who : DefN K mg "is_whole" sWhole ["thing"])
    (fra : DefN K mg "is_fraction" sFraction ["thing"])
    (pos : DefN K mg "is_positive" sPosi ["thing"])
    (arf : DefN K mg "are_fractions" sAreF ["thing", "most"])
    (abv : DefN K mg "are_above" sAbove ["some"])
    (isl : DefN K mg "is_ladder" sIsLad ["thing"])
    (isp : DefN K mg "is_poly" sIsPoly ["thing"])
    (isr : DefN K mg "is_row" sIsRow ["thing"])
    (neR : DefN K mg "need_row" sNeedRow ["thing"])
    (cli : DefN K mg "climb" sClimb ["row"])
    (pao : DefN K mg "paper_of" sPaperOf ["row"])
    (shl : DefN K mg "shared_ladder" sShared ["row"])
    (rpa : DefN K mg "row_paper" sRowPap ["row"])
    (iss : DefN K mg "is_of_share" sIsShare ["row"])
    (lad : DefN K mg "ladder_of" sLadOf ["row"])
    (piv : DefN K mg "pivots" sPivots ["row"])
    (nef : DefN K mg "need_form" sNeedForm ["paper", "forms"])
    (sqh : DefN K mg "does_square_hold" sSqHold ["row", "poly"])
    (rsh : DefN K mg "does_rest_hold" sRsHold ["row", "poly", "number"])
    (dho : DefN K mg "does_hold" sHold ["row", "paper"])
    (chk : DefN K mg "check_row" sCheck ["row", "paper"])
    (mix : DefN K mg "_law_mixed" sMixed ["cell", "k"])
    (beg : DefN K mg "_law_begin" sBegin ["script"])
    (drw : DefN K mg "_law_draw" sDraw ["state", "many"])
    (lra : DefN K mg "_law_ratio" sLRatio ["top", "bottom"])
    (lpl : DefN K mg "_law_plus" sLPlus ["one", "other"])
    (lle : DefN K mg "_law_less" sLLess ["one", "other"])
    (lti : DefN K mg "_law_times" sLTimes ["one", "other"])
    (lov : DefN K mg "_law_over" sLOver ["one", "other"])
    (lun : DefN K mg "_law_under" sLUnder ["one", "other"])
    (lsu : DefN K mg "_law_sum" sLSum ["some"])
    (lsh : DefN K mg "_law_share" sLShare ["state", "few"])
    (lpo : DefN K mg "_law_power" sLPower ["one", "many"])
    (lmo : DefN K mg "_law_moments" sLMoms ["share_so", "top"])
    (lsb : DefN K mg "_law_sum_by" sLSumBy ["row", "some"])
    (lpr : DefN K mg "_law_product" sLProd ["one", "far"])
    (lls : DefN K mg "_law_lesser" sLLesser ["one", "far"])
    (sma : DefN K mg "_law_small" sSmall ["state"])
    (ltr : DefN K mg "_law_trim" sLTrim ["some"])
    (lpy : DefN K mg "_law_poly" sLPoly ["state", "many"])
    (bui : DefN K mg "_law_built" sLBuilt ["row"])
    (mis : DefN K mg "_law_misfits" sMisfits ["row", "some"])
    (had : DefN K mg "_law_had" sHad ["row"])
    (lro : DefN K mg "_law_row" sLRow ["state"])
    (lip : DefN K mg "_law_is_poly" sLIsPoly ["row", "thing"])
    (due : DefN K mg "_law_due" sDue ["row", "paper"])
    (oth : DefN K mg "_law_other" sOther ["state", "row", "paper"])
    (a1 : PySem.W.nsIn K mainGlobals "_law_good" = some (some (.ref f1))) (l1 : K.lookup f1 = some ⟨oc1, od1, .func (PySem.W.fnOf "_law_good" "_law_good" (defArgs sGood) (defBody sGood) (defScope sGood) .none kV1 dc1 pm1 an1 (.ref c1) ct1), sl1⟩) (hc1 : PySem.W.codeIn K (.ref c1) "_law_good" = true) (k1 : PySem.W.keepIn K (.ref f1) = true)
    (u1 : K.lookup c1 = some ⟨o1, dd1, .fields vs1, sm1⟩) (v1 : (vs1[11]? : Option Value) = some (.ref P1)) (p1 : K.lookup P1 = none) (w1 : PySem.W.codeHdIn K c1 P1 = true) (r1 : (recsOf q).find? (fun e => e.name == ("_law_good" : Str)) = some e1)
    (a2 : PySem.W.nsIn K mainGlobals "_law_refused_good" = some (some (.ref f2))) (l2 : K.lookup f2 = some ⟨oc2, od2, .func (PySem.W.fnOf "_law_refused_good" "_law_refused_good" (defArgs sRefused) (defBody sRefused) (defScope sRefused) .none kV2 dc2 pm2 an2 (.ref c2) ct2), sl2⟩) (hc2 : PySem.W.codeIn K (.ref c2) "_law_refused_good" = true) (k2 : PySem.W.keepIn K (.ref f2) = true)
    (u2 : K.lookup c2 = some ⟨o2, dd2, .fields vs2, sm2⟩) (v2 : (vs2[11]? : Option Value) = some (.ref P2)) (p2 : K.lookup P2 = none) (w2 : PySem.W.codeHdIn K c2 P2 = true) (r2 : (recsOf q).find? (fun e => e.name == ("_law_refused_good" : Str)) = some e2)
    (a3 : PySem.W.nsIn K mainGlobals "law" = some (some (.ref f3))) (l3 : K.lookup f3 = some ⟨oc3, od3, .func (PySem.W.fnOf "law" "law" (defArgs sLaw) (defBody sLaw) (defScope sLaw) .none kV3 dc3 pm3 an3 (.ref c3) ct3), sl3⟩) (hc3 : PySem.W.codeIn K (.ref c3) "law" = true) (k3 : PySem.W.keepIn K (.ref f3) = true)
    (u3 : K.lookup c3 = some ⟨o3, dd3, .fields vs3, sm3⟩) (v3 : (vs3[11]? : Option Value) = some (.ref P3)) (p3 : K.lookup P3 = none) (w3 : PySem.W.codeHdIn K c3 P3 = true) (r3 : (recsOf q).find? (fun e => e.name == ("law" : Str)) = some e3)
    (eR : ErrTxt K "BadRow" "BadRow.__init__" "given" sIBR CR)
    (eP : ErrTxt K "BadPaper" "BadPaper.__init__" "part" sIBP CP)
    (eS : ErrTxt K "NoShare" "NoShare.__init__" "paper" sINS CS)
    (ha : PySem.W.nsIn K mainGlobals "_law_heard" = some (some (.ref g))) (hl : K.lookup g = some ⟨oc, od, .func (PySem.W.fnOf "_law_heard" "_law_heard" (defArgs sHeard) (defBody sHeard) (defScope sHeard) .none kV doc pm an cdv ct), sl⟩) (hc : PySem.W.codeIn K cdv "_law_heard" = true) (hk : PySem.W.keepIn K (.ref g) = true)
    (xRR : PySem.W.exmOne K (.ref CR) (.ref CR) = some true) (xPR : PySem.W.exmOne K (.ref CP) (.ref CR) = some false) (xPP : PySem.W.exmOne K (.ref CP) (.ref CP) = some true) (xSR : PySem.W.exmOne K (.ref CS) (.ref CR) = some false) (xSP : PySem.W.exmOne K (.ref CS) (.ref CP) = some false) (xSS : PySem.W.exmOne K (.ref CS) (.ref CS) = some true) (z : Nou K mg) (t : Blt mg) (og : OneG K mg) (ms : Mosts mg) (mo : MostOk mg) (m9 : Most9 mg) (fg : FormsG K mg) (dr : DefD K mg "row_sum" sRowSum) (dq : DefD K mg "square_sum" sSquare) (df : DefD K mg "first_rest" sFirst) (zp : mg "zip" = none) (al : mg "all" = none) (mx : mg "max" = none) (en : mg "enumerate" = none) (st : mg "str" = none) (n12 : P1 ≠ P2) (n13 : P1 ≠ P3) (n23 : P2 ≠ P3) :
    ∃ (C : Cls) (g c1 c2 c3 P1 P2 P3 : Addr) (e1 e2 e3 : DefRec), Top0 K mg C g c1 c2 c3 ∧ mg "law" = some (.ref fa) ∧ P1 ≠ P2 ∧ P1 ≠ P3 ∧ P2 ≠ P3 ∧
        (recsOf q).find? (fun e => e.name == ("_law_good" : Str)) = some e1 ∧ (recsOf q).find? (fun e => e.name == ("_law_refused_good" : Str)) = some e2 ∧ (recsOf q).find? (fun e => e.name == ("law" : Str)) = some e3 ∧
        PySem.W.tabIn K "_law_good" = some (c1, P1) ∧ PySem.W.tabIn K "_law_refused_good" = some (c2, P2) ∧ PySem.W.tabIn K "law" = some (c3, P3) ∧
        (∀ r ∈ [(c1, P1), (c2, P2), (c3, P3)], List.lookup r.2 K = none ∧ PySem.W.codeHdIn K r.1 r.2 = true) := by
  refine ⟨⟨CR, CP, CS⟩, g, c1, c2, c3, P1, P2, P3, e1, e2, e3, ⟨red, add, les, tim, dvd, pai, trm, atp, ple, psc, psh, pti, nxt, who, fra, pos, arf, abv, isl, isp, isr, neR, cli, pao, shl, rpa, iss, lad, piv, nef, sqh, rsh, dho, chk, mix, beg, drw, lra, lpl, lle, lti, lov, lun, lsu, lsh, lpo, lmo, lsb, lpr, lls, sma, ltr, lpy, bui, mis, had, lro, lip, due, oth, defC_mk X G a1 l1 hc1 k1 (fun _ _ _ _ _ _ us hl => match us, hl with | [_], _ => rfl), defC_mk X G a2 l2 hc2 k2 (fun _ _ _ _ _ _ us hl => match us, hl with | [], _ => rfl), defC_mk X G a3 l3 hc3 k3 (fun _ _ _ _ _ _ us hl => match us, hl with | [_], _ => rfl), eR.errW X G, eP.errW X G, eS.errW X G, heard_mk (C := ⟨CR, CP, CS⟩) X G eR eP eS ha hl hc hk xRR xPR xPP xSR xSP xSS, z, t, og, ms, mo, m9, fg, dr, dq, df, zp, al, mx, en, st⟩, hfa, n12, n13, n23, r1, r2, r3, tab_mk a1 l1 u1 v1, tab_mk a2 l2 u2 v2, tab_mk a3 l3 u3 v3, ?_⟩
  intro r hr
  simp only [List.mem_cons, List.not_mem_nil, or_false] at hr
  rcases hr with rfl | rfl | rfl
  · exact ⟨p1, w1⟩
  · exact ⟨p2, w2⟩
  · exact ⟨p3, w3⟩
end Rs


set_option Elab.async false
set_option linter.all false
open PySem PySem.W PyProof.Rows
set_option maxRecDepth 100000 in
set_option maxHeartbeats 0 in
theorem PySem.Challenge.cw_rungshare_k04_whole_row_papers_holds : PySem.Challenge.rw_rungshare_k04_whole_row_papers.Holds := by
  w_on; o_law; k_head; (case hw => w_witness2)
  k_fill
  refine Rs.walkG (l := PySem.Challenge.rw_rungshare_k04_whole_row_papers) rfl rfl (fun w h Y => PySem.W.km_in_of Y) ?F
  case F =>
    intro w mg fa h KX G hmg
    refine' Rs.all_mk KX G hmg ?red ?add ?les ?tim ?dvd ?pai ?trm ?atp ?ple ?psc ?psh ?pti ?nxt ?who ?fra ?pos ?arf ?abv ?isl ?isp ?isr ?neR ?cli ?pao ?shl ?rpa ?iss ?lad ?piv ?nef ?sqh ?rsh ?dho ?chk ?mix ?beg ?drw ?lra ?lpl ?lle ?lti ?lov ?lun ?lsu ?lsh ?lpo ?lmo ?lsb ?lpr ?lls ?sma ?ltr ?lpy ?bui ?mis ?had ?lro ?lip ?due ?oth ?a1 ?l1 ?hc1 ?k1 ?u1 ?v1 ?p1 ?w1 ?r1 ?a2 ?l2 ?hc2 ?k2 ?u2 ?v2 ?p2 ?w2 ?r2 ?a3 ?l3 ?hc3 ?k3 ?u3 ?v3 ?p3 ?w3 ?r3 ?eR ?eP ?eS ?gha ?ghl ?ghc ?ghk ?gxRR ?gxPR ?gxPP ?gxSR ?gxSP ?gxSS ?gz ?gt ?gog ?gms ?gmo ?gm9 ?gfg ?gdr ?gdq ?gdf ?gzp ?gal ?gmx ?gen ?gst ?n12 ?n13 ?n23
    (case red => refine' Rs.defN_mk KX G ?a ?l ?c ?k (fun _ _ _ _ _ _ us hl => match us, hl with | [_, _], _ => rfl); (case a => k_is); (case l => k_is); (case c => k_is); (case k => k_is))
    (case add => refine' Rs.defN_mk KX G ?a ?l ?c ?k (fun _ _ _ _ _ _ us hl => match us, hl with | [_, _], _ => rfl); (case a => k_is); (case l => k_is); (case c => k_is); (case k => k_is))
    (case les => refine' Rs.defN_mk KX G ?a ?l ?c ?k (fun _ _ _ _ _ _ us hl => match us, hl with | [_, _], _ => rfl); (case a => k_is); (case l => k_is); (case c => k_is); (case k => k_is))
    (case tim => refine' Rs.defN_mk KX G ?a ?l ?c ?k (fun _ _ _ _ _ _ us hl => match us, hl with | [_, _], _ => rfl); (case a => k_is); (case l => k_is); (case c => k_is); (case k => k_is))
    (case dvd => refine' Rs.defN_mk KX G ?a ?l ?c ?k (fun _ _ _ _ _ _ us hl => match us, hl with | [_, _], _ => rfl); (case a => k_is); (case l => k_is); (case c => k_is); (case k => k_is))
    (case pai => refine' Rs.defN_mk KX G ?a ?l ?c ?k (fun _ _ _ _ _ _ us hl => match us, hl with | [_, _], _ => rfl); (case a => k_is); (case l => k_is); (case c => k_is); (case k => k_is))
    (case trm => refine' Rs.defN_mk KX G ?a ?l ?c ?k (fun _ _ _ _ _ _ us hl => match us, hl with | [_], _ => rfl); (case a => k_is); (case l => k_is); (case c => k_is); (case k => k_is))
    (case atp => refine' Rs.defN_mk KX G ?a ?l ?c ?k (fun _ _ _ _ _ _ us hl => match us, hl with | [_, _], _ => rfl); (case a => k_is); (case l => k_is); (case c => k_is); (case k => k_is))
    (case ple => refine' Rs.defN_mk KX G ?a ?l ?c ?k (fun _ _ _ _ _ _ us hl => match us, hl with | [_, _], _ => rfl); (case a => k_is); (case l => k_is); (case c => k_is); (case k => k_is))
    (case psc => refine' Rs.defN_mk KX G ?a ?l ?c ?k (fun _ _ _ _ _ _ us hl => match us, hl with | [_, _], _ => rfl); (case a => k_is); (case l => k_is); (case c => k_is); (case k => k_is))
    (case psh => refine' Rs.defN_mk KX G ?a ?l ?c ?k (fun _ _ _ _ _ _ us hl => match us, hl with | [_, _], _ => rfl); (case a => k_is); (case l => k_is); (case c => k_is); (case k => k_is))
    (case pti => refine' Rs.defN_mk KX G ?a ?l ?c ?k (fun _ _ _ _ _ _ us hl => match us, hl with | [_, _], _ => rfl); (case a => k_is); (case l => k_is); (case c => k_is); (case k => k_is))
    (case nxt => refine' Rs.defN_mk KX G ?a ?l ?c ?k (fun _ _ _ _ _ _ us hl => match us, hl with | [_, _, _, _], _ => rfl); (case a => k_is); (case l => k_is); (case c => k_is); (case k => k_is))
    (case who => refine' Rs.defN_mk KX G ?a ?l ?c ?k (fun _ _ _ _ _ _ us hl => match us, hl with | [_], _ => rfl); (case a => k_is); (case l => k_is); (case c => k_is); (case k => k_is))
    (case fra => refine' Rs.defN_mk KX G ?a ?l ?c ?k (fun _ _ _ _ _ _ us hl => match us, hl with | [_], _ => rfl); (case a => k_is); (case l => k_is); (case c => k_is); (case k => k_is))
    (case pos => refine' Rs.defN_mk KX G ?a ?l ?c ?k (fun _ _ _ _ _ _ us hl => match us, hl with | [_], _ => rfl); (case a => k_is); (case l => k_is); (case c => k_is); (case k => k_is))
    (case arf => refine' Rs.defN_mk KX G ?a ?l ?c ?k (fun _ _ _ _ _ _ us hl => match us, hl with | [_, _], _ => rfl); (case a => k_is); (case l => k_is); (case c => k_is); (case k => k_is))
    (case abv => refine' Rs.defN_mk KX G ?a ?l ?c ?k (fun _ _ _ _ _ _ us hl => match us, hl with | [_], _ => rfl); (case a => k_is); (case l => k_is); (case c => k_is); (case k => k_is))
    (case isl => refine' Rs.defN_mk KX G ?a ?l ?c ?k (fun _ _ _ _ _ _ us hl => match us, hl with | [_], _ => rfl); (case a => k_is); (case l => k_is); (case c => k_is); (case k => k_is))
    (case isp => refine' Rs.defN_mk KX G ?a ?l ?c ?k (fun _ _ _ _ _ _ us hl => match us, hl with | [_], _ => rfl); (case a => k_is); (case l => k_is); (case c => k_is); (case k => k_is))
    (case isr => refine' Rs.defN_mk KX G ?a ?l ?c ?k (fun _ _ _ _ _ _ us hl => match us, hl with | [_], _ => rfl); (case a => k_is); (case l => k_is); (case c => k_is); (case k => k_is))
    (case neR => refine' Rs.defN_mk KX G ?a ?l ?c ?k (fun _ _ _ _ _ _ us hl => match us, hl with | [_], _ => rfl); (case a => k_is); (case l => k_is); (case c => k_is); (case k => k_is))
    (case cli => refine' Rs.defN_mk KX G ?a ?l ?c ?k (fun _ _ _ _ _ _ us hl => match us, hl with | [_], _ => rfl); (case a => k_is); (case l => k_is); (case c => k_is); (case k => k_is))
    (case pao => refine' Rs.defN_mk KX G ?a ?l ?c ?k (fun _ _ _ _ _ _ us hl => match us, hl with | [_], _ => rfl); (case a => k_is); (case l => k_is); (case c => k_is); (case k => k_is))
    (case shl => refine' Rs.defN_mk KX G ?a ?l ?c ?k (fun _ _ _ _ _ _ us hl => match us, hl with | [_], _ => rfl); (case a => k_is); (case l => k_is); (case c => k_is); (case k => k_is))
    (case rpa => refine' Rs.defN_mk KX G ?a ?l ?c ?k (fun _ _ _ _ _ _ us hl => match us, hl with | [_], _ => rfl); (case a => k_is); (case l => k_is); (case c => k_is); (case k => k_is))
    (case iss => refine' Rs.defN_mk KX G ?a ?l ?c ?k (fun _ _ _ _ _ _ us hl => match us, hl with | [_], _ => rfl); (case a => k_is); (case l => k_is); (case c => k_is); (case k => k_is))
    (case lad => refine' Rs.defN_mk KX G ?a ?l ?c ?k (fun _ _ _ _ _ _ us hl => match us, hl with | [_], _ => rfl); (case a => k_is); (case l => k_is); (case c => k_is); (case k => k_is))
    (case piv => refine' Rs.defN_mk KX G ?a ?l ?c ?k (fun _ _ _ _ _ _ us hl => match us, hl with | [_], _ => rfl); (case a => k_is); (case l => k_is); (case c => k_is); (case k => k_is))
    (case nef => refine' Rs.defN_mk KX G ?a ?l ?c ?k (fun _ _ _ _ _ _ us hl => match us, hl with | [_, _], _ => rfl); (case a => k_is); (case l => k_is); (case c => k_is); (case k => k_is))
    (case sqh => refine' Rs.defN_mk KX G ?a ?l ?c ?k (fun _ _ _ _ _ _ us hl => match us, hl with | [_, _], _ => rfl); (case a => k_is); (case l => k_is); (case c => k_is); (case k => k_is))
    (case rsh => refine' Rs.defN_mk KX G ?a ?l ?c ?k (fun _ _ _ _ _ _ us hl => match us, hl with | [_, _, _], _ => rfl); (case a => k_is); (case l => k_is); (case c => k_is); (case k => k_is))
    (case dho => refine' Rs.defN_mk KX G ?a ?l ?c ?k (fun _ _ _ _ _ _ us hl => match us, hl with | [_, _], _ => rfl); (case a => k_is); (case l => k_is); (case c => k_is); (case k => k_is))
    (case chk => refine' Rs.defN_mk KX G ?a ?l ?c ?k (fun _ _ _ _ _ _ us hl => match us, hl with | [_, _], _ => rfl); (case a => k_is); (case l => k_is); (case c => k_is); (case k => k_is))
    (case mix => refine' Rs.defN_mk KX G ?a ?l ?c ?k (fun _ _ _ _ _ _ us hl => match us, hl with | [_, _], _ => rfl); (case a => k_is); (case l => k_is); (case c => k_is); (case k => k_is))
    (case beg => refine' Rs.defN_mk KX G ?a ?l ?c ?k (fun _ _ _ _ _ _ us hl => match us, hl with | [_], _ => rfl); (case a => k_is); (case l => k_is); (case c => k_is); (case k => k_is))
    (case drw => refine' Rs.defN_mk KX G ?a ?l ?c ?k (fun _ _ _ _ _ _ us hl => match us, hl with | [_, _], _ => rfl); (case a => k_is); (case l => k_is); (case c => k_is); (case k => k_is))
    (case lra => refine' Rs.defN_mk KX G ?a ?l ?c ?k (fun _ _ _ _ _ _ us hl => match us, hl with | [_, _], _ => rfl); (case a => k_is); (case l => k_is); (case c => k_is); (case k => k_is))
    (case lpl => refine' Rs.defN_mk KX G ?a ?l ?c ?k (fun _ _ _ _ _ _ us hl => match us, hl with | [_, _], _ => rfl); (case a => k_is); (case l => k_is); (case c => k_is); (case k => k_is))
    (case lle => refine' Rs.defN_mk KX G ?a ?l ?c ?k (fun _ _ _ _ _ _ us hl => match us, hl with | [_, _], _ => rfl); (case a => k_is); (case l => k_is); (case c => k_is); (case k => k_is))
    (case lti => refine' Rs.defN_mk KX G ?a ?l ?c ?k (fun _ _ _ _ _ _ us hl => match us, hl with | [_, _], _ => rfl); (case a => k_is); (case l => k_is); (case c => k_is); (case k => k_is))
    (case lov => refine' Rs.defN_mk KX G ?a ?l ?c ?k (fun _ _ _ _ _ _ us hl => match us, hl with | [_, _], _ => rfl); (case a => k_is); (case l => k_is); (case c => k_is); (case k => k_is))
    (case lun => refine' Rs.defN_mk KX G ?a ?l ?c ?k (fun _ _ _ _ _ _ us hl => match us, hl with | [_, _], _ => rfl); (case a => k_is); (case l => k_is); (case c => k_is); (case k => k_is))
    (case lsu => refine' Rs.defN_mk KX G ?a ?l ?c ?k (fun _ _ _ _ _ _ us hl => match us, hl with | [_], _ => rfl); (case a => k_is); (case l => k_is); (case c => k_is); (case k => k_is))
    (case lsh => refine' Rs.defN_mk KX G ?a ?l ?c ?k (fun _ _ _ _ _ _ us hl => match us, hl with | [_, _], _ => rfl); (case a => k_is); (case l => k_is); (case c => k_is); (case k => k_is))
    (case lpo => refine' Rs.defN_mk KX G ?a ?l ?c ?k (fun _ _ _ _ _ _ us hl => match us, hl with | [_, _], _ => rfl); (case a => k_is); (case l => k_is); (case c => k_is); (case k => k_is))
    (case lmo => refine' Rs.defN_mk KX G ?a ?l ?c ?k (fun _ _ _ _ _ _ us hl => match us, hl with | [_, _], _ => rfl); (case a => k_is); (case l => k_is); (case c => k_is); (case k => k_is))
    (case lsb => refine' Rs.defN_mk KX G ?a ?l ?c ?k (fun _ _ _ _ _ _ us hl => match us, hl with | [_, _], _ => rfl); (case a => k_is); (case l => k_is); (case c => k_is); (case k => k_is))
    (case lpr => refine' Rs.defN_mk KX G ?a ?l ?c ?k (fun _ _ _ _ _ _ us hl => match us, hl with | [_, _], _ => rfl); (case a => k_is); (case l => k_is); (case c => k_is); (case k => k_is))
    (case lls => refine' Rs.defN_mk KX G ?a ?l ?c ?k (fun _ _ _ _ _ _ us hl => match us, hl with | [_, _], _ => rfl); (case a => k_is); (case l => k_is); (case c => k_is); (case k => k_is))
    (case sma => refine' Rs.defN_mk KX G ?a ?l ?c ?k (fun _ _ _ _ _ _ us hl => match us, hl with | [_], _ => rfl); (case a => k_is); (case l => k_is); (case c => k_is); (case k => k_is))
    (case ltr => refine' Rs.defN_mk KX G ?a ?l ?c ?k (fun _ _ _ _ _ _ us hl => match us, hl with | [_], _ => rfl); (case a => k_is); (case l => k_is); (case c => k_is); (case k => k_is))
    (case lpy => refine' Rs.defN_mk KX G ?a ?l ?c ?k (fun _ _ _ _ _ _ us hl => match us, hl with | [_, _], _ => rfl); (case a => k_is); (case l => k_is); (case c => k_is); (case k => k_is))
    (case bui => refine' Rs.defN_mk KX G ?a ?l ?c ?k (fun _ _ _ _ _ _ us hl => match us, hl with | [_], _ => rfl); (case a => k_is); (case l => k_is); (case c => k_is); (case k => k_is))
    (case mis => refine' Rs.defN_mk KX G ?a ?l ?c ?k (fun _ _ _ _ _ _ us hl => match us, hl with | [_, _], _ => rfl); (case a => k_is); (case l => k_is); (case c => k_is); (case k => k_is))
    (case had => refine' Rs.defN_mk KX G ?a ?l ?c ?k (fun _ _ _ _ _ _ us hl => match us, hl with | [_], _ => rfl); (case a => k_is); (case l => k_is); (case c => k_is); (case k => k_is))
    (case lro => refine' Rs.defN_mk KX G ?a ?l ?c ?k (fun _ _ _ _ _ _ us hl => match us, hl with | [_], _ => rfl); (case a => k_is); (case l => k_is); (case c => k_is); (case k => k_is))
    (case lip => refine' Rs.defN_mk KX G ?a ?l ?c ?k (fun _ _ _ _ _ _ us hl => match us, hl with | [_, _], _ => rfl); (case a => k_is); (case l => k_is); (case c => k_is); (case k => k_is))
    (case due => refine' Rs.defN_mk KX G ?a ?l ?c ?k (fun _ _ _ _ _ _ us hl => match us, hl with | [_, _], _ => rfl); (case a => k_is); (case l => k_is); (case c => k_is); (case k => k_is))
    (case oth => refine' Rs.defN_mk KX G ?a ?l ?c ?k (fun _ _ _ _ _ _ us hl => match us, hl with | [_, _, _], _ => rfl); (case a => k_is); (case l => k_is); (case c => k_is); (case k => k_is))
    (case a1 => k_is); (case l1 => k_is); (case hc1 => k_is); (case k1 => k_is); (case u1 => k_is); (case v1 => rfl); (case p1 => kernel_rfl); (case w1 => kernel_rfl); (case r1 => rfl)
    (case a2 => k_is); (case l2 => k_is); (case hc2 => k_is); (case k2 => k_is); (case u2 => k_is); (case v2 => rfl); (case p2 => kernel_rfl); (case w2 => kernel_rfl); (case r2 => rfl)
    (case a3 => k_is); (case l3 => k_is); (case hc3 => k_is); (case k3 => k_is); (case u3 => k_is); (case v3 => rfl); (case p3 => kernel_rfl); (case w3 => kernel_rfl); (case r3 => rfl)
    (case eR => refine' Rs.err_mk ?aeR ?ceR ?reR ?saeR ?gaeR ?ggeR ?noeR ?exeR ?tyeR ?kCeR ?hdeR ?ieR ?teR ?leR ?hceR ?keR (fun _ _ _ _ _ _ us hl => match us, hl with | [_, _], _ => rfl); (case aeR => k_is); (case ceR => k_is); (case reR => decide +kernel); (case saeR => k_is); (case gaeR => k_is); (case ggeR => k_is); (case noeR => k_is); (case exeR => k_is); (case tyeR => k_is); (case kCeR => k_is); (case hdeR => k_is); (case ieR => k_is); (case teR => k_is); (case leR => k_is); (case hceR => k_is); (case keR => k_is))
    (case eP => refine' Rs.err_mk ?aeP ?ceP ?reP ?saeP ?gaeP ?ggeP ?noeP ?exeP ?tyeP ?kCeP ?hdeP ?ieP ?teP ?leP ?hceP ?keP (fun _ _ _ _ _ _ us hl => match us, hl with | [_, _], _ => rfl); (case aeP => k_is); (case ceP => k_is); (case reP => decide +kernel); (case saeP => k_is); (case gaeP => k_is); (case ggeP => k_is); (case noeP => k_is); (case exeP => k_is); (case tyeP => k_is); (case kCeP => k_is); (case hdeP => k_is); (case ieP => k_is); (case teP => k_is); (case leP => k_is); (case hceP => k_is); (case keP => k_is))
    (case eS => refine' Rs.err_mk ?aeS ?ceS ?reS ?saeS ?gaeS ?ggeS ?noeS ?exeS ?tyeS ?kCeS ?hdeS ?ieS ?teS ?leS ?hceS ?keS (fun _ _ _ _ _ _ us hl => match us, hl with | [_, _], _ => rfl); (case aeS => k_is); (case ceS => k_is); (case reS => decide +kernel); (case saeS => k_is); (case gaeS => k_is); (case ggeS => k_is); (case noeS => k_is); (case exeS => k_is); (case tyeS => k_is); (case kCeS => k_is); (case hdeS => k_is); (case ieS => k_is); (case teS => k_is); (case leS => k_is); (case hceS => k_is); (case keS => k_is))
    (case gha => k_is); (case ghl => k_is); (case ghc => k_is); (case ghk => k_is)
    (case gxRR => first | k_is | kernel_rfl)
    (case gxPR => first | k_is | kernel_rfl)
    (case gxPP => first | k_is | kernel_rfl)
    (case gxSR => first | k_is | kernel_rfl)
    (case gxSP => first | k_is | kernel_rfl)
    (case gxSS => first | k_is | kernel_rfl)
    (case gz => refine' Rs.nou_mk KX G ?a ?l; (case a => k_is); (case l => k_is))
    (case gt => refine' Rs.blt_mk KX G ?h1 ?h2 ?h3 ?h4 ?h5 ?h6 ?h7 ?h8 ?h9 ?h10 ?h11; (case h1 => k_is); (case h2 => k_is); (case h3 => k_is); (case h4 => k_is); (case h5 => k_is); (case h6 => k_is); (case h7 => k_is); (case h8 => k_is); (case h9 => k_is); (case h10 => k_is); (case h11 => k_is))
    (case gog => refine' Rs.one_mk KX G ?hoa ?hol; (case hoa => k_is); (case hol => k_is))
    (case gms => refine' Rs.mosts_mk KX G ?hm4 ?hm5; (case hm4 => k_is); (case hm5 => k_is))
    (case gmo => refine' Rs.most_mk KX G ?hmo; (case hmo => k_is))
    (case gm9 => refine' Rs.most9_mk KX G ?hm9; (case hm9 => k_is))
    (case gfg => refine' Rs.forms_mk KX G ?hfa ?hfl ?hf1 ?hf2 ?hf3; (case hfa => k_is); (case hfl => k_is); (case hf1 => k_is); (case hf2 => k_is); (case hf3 => k_is))
    (case gdr => refine' Rs.dr_mk KX G ?adr ?ldr ?ddr ?cdr ?kdr; (case adr => k_is); (case ldr => k_is); (case ddr => k_is); (case cdr => k_is); (case kdr => k_is))
    (case gdq => refine' Rs.dq_mk KX G ?adq ?ldq ?ddq ?cdq ?kdq; (case adq => k_is); (case ldq => k_is); (case ddq => k_is); (case cdq => k_is); (case kdq => k_is))
    (case gdf => refine' Rs.df_mk KX G ?adf ?ldf ?ddf ?cdf ?kdf; (case adf => k_is); (case ldf => k_is); (case ddf => k_is); (case cdf => k_is); (case kdf => k_is))
    (case gzp => refine' PySem.W.mg_none_of KX G ?hnzp; k_is)
    (case gal => refine' PySem.W.mg_none_of KX G ?hnal; k_is)
    (case gmx => refine' PySem.W.mg_none_of KX G ?hnmx; k_is)
    (case gen => refine' PySem.W.mg_none_of KX G ?hnen; k_is)
    (case gst => refine' PySem.W.mg_none_of KX G ?hnst; k_is)
    (case n12 => decide); (case n13 => decide); (case n23 => decide)


