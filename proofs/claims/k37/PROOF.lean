import PyProof.Rows.All
import Wide.All
import OpenK.AllK
import Wide.FinOn
import HandS.ForMost
import HandS.ForExc
import HandS.Gcd
import HandS.Wide
import HandS.IsInst
import HandS.ExcInit
import HandS.Lambda
import HandS.OwnEq
import PySem.Challenge.RW_rungshare_k37_whole_cumulants
import HandS.ExcField
import HandS.Codes
import HandS.TryMany
import HandS.TupAny
import KE.GoesMore
import HandS.Iter
import HandS.Rev
import HandS.Style
import HandS.Walk
import HandS.Zip
import HandS.Deep
import HandS.Defaults
import HandS.TupMul
import HandS.WordsExc
import HandS.RaiseMore
import KE.DataCmp
import HandS.SortInts
import KE.SortData
import HandS.Conv
import HandS.WideBits
import KE.KMathGC
import HandS.EndTab
import HandS.NestedK
set_option Elab.async false
set_option linter.all false
set_option maxRecDepth 100000
set_option maxHeartbeats 2000000
namespace Bs
open PySem PySem.Spec PyProof.Rows L2
theorem same_new {H : Hp} {p : Addr} {o : HO} (h : H p = none) : Same H (upd H p o) := fun b u e => (upd_ne (ne_of_none e h)).trans e
theorem Same.t {K : PySem.W.Frag} {H H' : Hp} {a : Addr} {xs : List V} (e : Same H H') (h : SqT K H a xs) : SqT K H' a xs := by
  rcases h with (h | ⟨o, h⟩) | h
  · exact .inl (.inl (e _ _ h))
  · exact .inl (.inr ⟨o, e _ _ h⟩)
  · exact .inr h
section
variable {X : Cx}
/-- x *= e, both ints, together below a million bits -/
def ipM : TIp := fun x y H Q => ∃ i j, x = .int i ∧ y = .int j ∧ CMulW i j ∧ Q (.int (i * j)) H
theorem ip_mul : PIp X .Mult ipM := by
  rintro pins s σ H x y v u Q I r1 r2 ⟨i, j, rfl, rfl, c, q⟩
  obtain ⟨t, rfl⟩ := r1
  obtain ⟨t', rfl⟩ := r2
  exact imul_int ⟨.int _, H, I.tok _, ⟨_, rfl⟩, q⟩ c.ok
end
structure CalX (P : Program) (w : World) (K : PySem.W.Frag) (mg : Str → Option Value) (base : Heap) (k : Nat) (x : Str) (sp : Sp) : Prop where
  ex : ∃ (f : Addr) (fd : FuncData) (ps : List Str), FnOk P w K mg base (L2.CX P w) k f fd ps sp ∧ mg x = some (.ref f) ∧ PySem.W.keepIn K (.ref f) = true ∧ Binds K fd ps []
structure Cal (P : Program) (w : World) (K : PySem.W.Frag) (mg : Str → Option Value) (base : Heap) (k : Nat) (x : Str) (sp : Sp) : Prop where
  ex : ∃ (f : Addr) (fd : FuncData) (ps : List Str), FnOk P w K mg base CX0 k f fd ps sp ∧ mg x = some (.ref f) ∧ PySem.W.keepIn K (.ref f) = true ∧ Binds K fd ps []
/-- a promise that is kept where no guard stands around -/
structure FnG (P : Program) (w : World) (K : PySem.W.Frag) (mg : Str → Option Value) (base : Heap) (k : Nat) (f : Addr) (fd : FuncData) (ps : List Str) (sp : Sp) : Prop where
  len : ∀ vs H Q E, sp vs H Q E → vs.length = ps.length
  run : ∀ (A : Around) (outer : List Env) (s : Shared) (H : Hp) (args : Args) (us : List Value) (vs : List V) (Q : VK) (E : XK), A.guards = some [] → Room k A → Env0 P w K mg base A outer s H →
    BindsTo s fd args (ps.zip us) → Vals vs us → sp vs H Q E → codeAny (model P w) A (.call (.ref f) args) (CR CX0 outer P w H s Q E) s
structure CalG (P : Program) (w : World) (K : PySem.W.Frag) (mg : Str → Option Value) (base : Heap) (k : Nat) (x : Str) (sp : Sp) : Prop where
  ex : ∃ (f : Addr) (fd : FuncData) (ps : List Str), FnG P w K mg base k f fd ps sp ∧ mg x = some (.ref f) ∧ PySem.W.keepIn K (.ref f) = true ∧ Binds K fd ps []
section
variable {P : Program} {w : World} {K : PySem.W.Frag} {mg : Str → Option Value} {base : Heap} {k : Nat} {f : Addr} {fd : FuncData} {sp : Sp} {x qual : Str} {st : Stmt} {N ps : List Str}
theorem FnG.ok (F : Fun K x qual st f fd) (S : FnScope N ps (defScope st)) (len : ∀ vs H Q E, sp vs H Q E → vs.length = ps.length)
    (hbody : ∀ (cdv : Value) (A : Around) (outer : List Env) (s : Shared) (H : Hp) (vs : List V) (Q : VK) (E : XK), A.guards = some [] → Room k (A.deeper (envOfC qual (defScope st) s.heap.objs.size f cdv)) → sp vs H Q E →
      ∃ t, PSs (cxOf CX0 P w K mg base N qual (defScope st) f cdv A outer s H E).nox (defBody st) t ∧ t { nx := fun _ H' => Q .non H', rt := Q } (start N vs) H) : FnG P w K mg base (k + 1) f fd ps sp := by
  obtain ⟨oc, od, kV, doc, pm, an, cdv, ct, osl, rfl, lk, hcd⟩ := F.ex
  refine ⟨len, fun A outer s H args us vs Q E hg hr e0 hb r h => ?_⟩
  refine LamX.run_ofS lk hcd S hr e0 hb r (len _ _ _ _ h) (fun hr' => ?_)
  obtain ⟨t, a, b⟩ := hbody cdv A outer s H vs Q E hg hr' h
  exact ⟨t, a.nox, b⟩
end
section
variable {X : Cx} {k j : Nat} {x : Str} {sp : Sp} {p pos : Pos} {e : Expr} {es : List Expr} {t : TA} {E : XK}
theorem pe_n (c : Cal X.prog X.w X.K X.mg X.base k x sp) (hr : Room j X.A) (hk : k ≤ j) (hg : Gl X x) (ha : PA X (e :: es) t)
    (hdb : (x == ("__debug__" : Str)) = false := by decide) (he : starEach (e :: es) X.env = (false, eval e X.env) :: starEach es X.env := by rfl) (hpl : (backTo pos (starEach es X.env)).any (·.1) = false := by rfl) :
    PE X (.Call (.Name x p) (e :: es) [] pos) (tCall sp [] E0 t) := by
  obtain ⟨f, fd, ps, F, hm, kp, b⟩ := c.ex
  exact pe_call F (hr.mono hk) hg hm kp b .nil pass0 ha hdb he hpl
end
end Bs


namespace Fq
abbrev F := Int × Int
def gI (a b : Int) : Int := ((Nat.gcd a.natAbs b.natAbs : Nat) : Int)
/-- least terms, the bottom above nought -/
def red (a b : Int) : F := (a / gI a b, b / gI a b)
/-- least terms, the bottom not nought -/
def redP (a b : Int) : F := if b < 0 then red (-a) (-b) else red a b
theorem gI_pos {a b : Int} (h : b ≠ 0) : 0 < gI a b := by
  have : 0 < Nat.gcd a.natAbs b.natAbs := Nat.gcd_pos_of_pos_right _ (by omega)
  unfold gI; omega
theorem gI_le {a b : Int} (h : b ≠ 0) : (gI a b).natAbs ≤ b.natAbs := by
  have : Nat.gcd a.natAbs b.natAbs ≤ b.natAbs := Nat.gcd_le_right _ (by omega)
  unfold gI; omega
/-- a fraction in least terms -/
def Ok (q : F) : Prop := 0 < q.2 ∧ Nat.gcd q.1.natAbs q.2.natAbs = 1
theorem gI_dvd_l (a b : Int) : gI a b ∣ a := by
  unfold gI
  exact Int.ofNat_dvd_left.mpr (Nat.gcd_dvd_left _ _)
theorem gI_dvd_r (a b : Int) : gI a b ∣ b := by
  unfold gI
  exact Int.ofNat_dvd_left.mpr (Nat.gcd_dvd_right _ _)
theorem red_ok {a b : Int} (h : 0 < b) : Ok (red a b) := by
  have hg := gI_pos (a := a) (b := b) (by omega)
  obtain ⟨x, hx⟩ := gI_dvd_l a b
  obtain ⟨y, hy⟩ := gI_dvd_r a b
  have e1 : a / gI a b = x := Int.ediv_eq_of_eq_mul_right (by omega) hx
  have e2 : b / gI a b = y := Int.ediv_eq_of_eq_mul_right (by omega) hy
  refine ⟨?_, ?_⟩
  · show 0 < b / gI a b
    rw [e2]
    apply Int.pos_of_mul_pos_right (a := gI a b) (b := y) ?_ hg |> id
    rw [← hy]; exact h
  · show Nat.gcd (a / gI a b).natAbs (b / gI a b).natAbs = 1
    rw [e1, e2]
    have q1 : a.natAbs = (gI a b).natAbs * x.natAbs := by
      have := congrArg Int.natAbs hx
      rwa [Int.natAbs_mul] at this
    have q2 : b.natAbs = (gI a b).natAbs * y.natAbs := by
      have := congrArg Int.natAbs hy
      rwa [Int.natAbs_mul] at this
    have q3 : (gI a b).natAbs = Nat.gcd a.natAbs b.natAbs := by unfold gI; omega
    have q4 : Nat.gcd a.natAbs b.natAbs = (gI a b).natAbs * Nat.gcd x.natAbs y.natAbs := by
      rw [q1, q2, Nat.gcd_mul_left]
    have hp : 0 < (gI a b).natAbs := by omega
    have : (gI a b).natAbs * 1 = (gI a b).natAbs * Nat.gcd x.natAbs y.natAbs := by rw [← q4, q3]; omega
    exact (Nat.eq_of_mul_eq_mul_left hp this).symm
theorem red_of {q : F} (h : Ok q) : red q.1 q.2 = q := by
  have : gI q.1 q.2 = 1 := by unfold gI; rw [h.2]; rfl
  unfold red
  rw [this, Int.ediv_one, Int.ediv_one]
/-- sums, differences, products, quotients -/
def add (q r : F) : F := red (q.1 * r.2 + r.1 * q.2) (q.2 * r.2)
def sub (q r : F) : F := red (q.1 * r.2 - r.1 * q.2) (q.2 * r.2)
def mul (q r : F) : F := red (q.1 * r.1) (q.2 * r.2)
def div (q r : F) : F := redP (q.1 * r.2) (q.2 * r.1)
def lt (q r : F) : Bool := decide (q.1 * r.2 < r.1 * q.2)
def pw (q : F) (n : Nat) : F := (q.1 ^ n, q.2 ^ n)
theorem pw_ok {q : F} (h : Ok q) (n : Nat) : Ok (pw q n) := by
  refine ⟨Int.pow_pos h.1, ?_⟩
  show Nat.gcd (q.1 ^ n).natAbs (q.2 ^ n).natAbs = 1
  rw [Int.natAbs_pow, Int.natAbs_pow]
  exact Nat.Coprime.pow n n h.2
theorem pw_succ (q : F) (n : Nat) (h : Ok q) : mul (pw q n) q = pw q (n + 1) := by
  have := red_of (pw_ok h (n + 1))
  show red (q.1 ^ n * q.1) (q.2 ^ n * q.2) = _
  rw [← Int.pow_succ, ← Int.pow_succ]
  exact this
end Fq


set_option Elab.async false
set_option linter.all false
set_option maxRecDepth 100000
set_option maxHeartbeats 2000000
namespace Rs
open PySem L2 Bs Fq
def top (i : Nat) : Stmt := PySem.Challenge.pw_rungshare_k37_whole_cumulants.main.body.getD i (.Pass ⟨0, 0, 0, 0⟩)
abbrev fr (q : F) : HO := .tup [.int q.1, .int q.2]
/-- a value that is a fraction's tuple -/
def Fr (K : PySem.W.Frag) (H : Hp) (v : V) (q : F) : Prop := ∃ a, v = .ref a ∧ SqT K H a [.int q.1, .int q.2]
theorem Fr.of {K : PySem.W.Frag} {H : Hp} {p : Addr} {q : F} (h : H p = some (fr q)) : Fr K H (.ref p) q := ⟨p, rfl, SqT.of h⟩
theorem Fr.mono {K : PySem.W.Frag} {H H' : Hp} {v : V} {q : F} (h : Fr K H v q) (e : Same H H') : Fr K H' v q := by
  obtain ⟨a, rfl, s⟩ := h
  exact ⟨a, rfl, Same.t e s⟩
def Lt2 (n : Nat) (x : Int) : Prop := x.natAbs < 2 ^ n
theorem Lt2.mono {m n : Nat} {x : Int} (h : Lt2 m x) (k : m ≤ n) : Lt2 n x := Nat.lt_of_lt_of_le h (Nat.pow_le_pow_right (by decide) k)
theorem Lt2.c {m n : Nat} {x y : Int} (h : Lt2 m x) (k : Lt2 n y) (h0 : 0 < m := by decide) (h1 : 0 < n := by decide) (h2 : m + n ≤ 1000000 := by decide) : CMulW x y := wide_mul h k h0 h1 h2
/-- what the program reckons with -/
structure Dm (q : F) : Prop where
  big : Lt2 4400 q.1
  pos : 0 < q.2
  low : Lt2 4400 q.2
theorem Dm.l2 {q : F} (h : Dm q) : Lt2 4400 q.2 := h.low
theorem lt2m {a b : Int} (h : Lt2 4400 a) (g : Lt2 4400 b) : Lt2 8800 (a * b) := by
  show (a * b).natAbs < 2 ^ (4400 + 4400)
  rw [Int.natAbs_mul, Nat.pow_add]
  exact Nat.mul_lt_mul'' h g
structure DefN (K : PySem.W.Frag) (mg : Str → Option Value) (x : Str) (st : Stmt) (ps : List Str) : Prop where
  ex : ∃ (f : Addr) (fd : FuncData), Fun K x x st f fd ∧ mg x = some (.ref f) ∧ Binds K fd ps []
/-- the built-ins keep their names -/
structure Blt (mg : Str → Option Value) : Prop where
  isinstance : mg "isinstance" = none
  len : mg "len" = none
  int : mg "int" = none
  bool : mg "bool" = none
  tuple : mg "tuple" = none
  range : mg "range" = none
  list : mg "list" = none
  abs : mg "abs" = none
  min : mg "min" = none
  repr : mg "repr" = none
  gcd : mg "gcd" = some (.builtin "math.gcd")
  comb : mg "comb" = some (.builtin "math.comb")
  fac : mg "factorial" = some (.builtin "math.factorial")
section
variable {P : Program} {w : World} {K : PySem.W.Frag} {mg : Str → Option Value} {base : Heap} {k : Nat} {x : Str} {st : Stmt} {ps : List Str} {sp : Sp}
theorem DefN.cal (D : DefN K mg x st ps) (h : ∀ f fd, Fun K x x st f fd → FnOk P w K mg base CX0 k f fd ps sp) : Cal P w K mg base k x sp := by
  obtain ⟨f, fd, F, m, b⟩ := D.ex
  exact ⟨f, fd, ps, h f fd F, m, F.kp, b⟩
theorem DefN.calX (D : DefN K mg x st ps) (h : ∀ f fd, Fun K x x st f fd → FnOk P w K mg base (L2.CX P w) k f fd ps sp) : CalX P w K mg base k x sp := by
  obtain ⟨f, fd, F, m, b⟩ := D.ex
  exact ⟨f, fd, ps, h f fd F, m, F.kp, b⟩
theorem DefN.calG (D : DefN K mg x st ps) (h : ∀ f fd, Fun K x x st f fd → FnG P w K mg base k f fd ps sp) : CalG P w K mg base k x sp := by
  obtain ⟨f, fd, F, m, b⟩ := D.ex
  exact ⟨f, fd, ps, h f fd F, m, F.kp, b⟩
end
abbrev sReduced : Stmt := top 4
abbrev sAdded : Stmt := top 5
abbrev sLessened : Stmt := top 6
abbrev sTimed : Stmt := top 7
/-- reduced(top, bottom) -/
def spReduced : Sp := fun vs H Q _ => ∃ (a b : Int), vs = [.int a, .int b] ∧ 0 < b ∧ Lt2 8800 b ∧ ∀ p, H p = none → Q (.ref p) (upd H p (fr (red a b)))
/-- two fractions in, one out -/
def spOp (K : PySem.W.Frag) (op : F → F → F) (dom : F → F → Prop) : Sp := fun vs H Q _ => ∃ (x y : V) (q r : F), vs = [x, y] ∧ Fr K H x q ∧ Fr K H y r ∧ dom q r ∧ ∀ p, H p = none → Q (.ref p) (upd H p (fr (op q r)))
def dom2 (q r : F) : Prop := Dm q ∧ Dm r
def domD (q r : F) : Prop := Dm q ∧ Dm r ∧ r.1 ≠ 0 ∧ r.1.natAbs < 32768
def spLt (K : PySem.W.Frag) : Sp := fun vs H Q _ => ∃ (x y : V) (q r : F), vs = [x, y] ∧ Fr K H x q ∧ Fr K H y r ∧ dom2 q r ∧ Q (.bl (lt q r)) H
def spRaised (K : PySem.W.Frag) : Sp := fun vs H Q _ => ∃ (x : V) (q : F) (n : Int), vs = [x, .int n] ∧ Fr K H x q ∧ Lt2 6 q.1 ∧ Lt2 6 q.2 ∧ 0 ≤ n ∧ n ≤ 20 ∧ ∀ p, H p = none → Q (.ref p) (upd H p (fr (pw q n.toNat)))
section
variable {P : Program} {w : World} {K : PySem.W.Frag} {mg : Str → Option Value} {base : Heap} {f : Addr} {fd : FuncData}
theorem scReduced : FnScope ["top", "bottom", "common"] ["top", "bottom"] (defScope sReduced) := ⟨rfl, rfl, rfl, by decide +kernel, rfl, by decide +kernel, by decide +kernel⟩
theorem ok_reduced (F : Fun K "reduced" "reduced" sReduced f fd) (T : Blt mg) : FnOk P w K mg base CX0 1 f fd ["top", "bottom"] spReduced := by
  refine F.ok scReduced (fun vs H Q E h => ?_) (fun cdv A outer s H vs Q E hr h => ?_)
  · obtain ⟨a, b, rfl, _⟩ := h
    rfl
  · obtain ⟨a, b, rfl, hb, hw, k⟩ := h
    refine ⟨_, pss_cons (ps_set (i := 2) scReduced.nd rfl (Or.inl rfl) (pe_callBfun cr_gcd (by rfl) T.gcd (pa_cons (pv 0) (pa_cons (pv 1) pa_nil))))
      (pss_cons (ps_if (pt_cmpR op_lt (pv 1) pe_int (nomark _)) (pss_one (ps_set (i := 2) scReduced.nd rfl (Or.inl rfl) (pe_un un_neg (pv 2)))) pss_nil)
      (pss_one (ps_ret (pe_tup (pa_cons (pe_op op_fdivW (pv 0) (pv 2)) (pa_cons (pe_op op_fdivW (pv 1) (pv 2)) pa_nil)))))), ?_⟩
    refine ⟨_, rfl, _, rfl, a, b, rfl, ?_⟩
    refine ⟨_, rfl, _, _, rfl, rfl, _, rfl, ?_⟩
    have hp := gI_pos (a := a) (b := b) (by omega)
    have hle := gI_le (a := a) (b := b) (by omega)
    have hgw : Lt2 8800 (gI a b) := Nat.lt_of_le_of_lt hle hw
    refine ite2 (fun c => ?_) (fun c => ?_)
    · have := of_decide_eq_true c
      omega
    · exact ⟨_, rfl, _, rfl, _, _, rfl, rfl, wide_div hp hgw (by decide) (by decide), _, rfl, _, rfl, _, _, rfl, rfl, wide_div hp hgw (by decide) (by decide), (by show 2 ≤ sizeLine; decide), fun p hp => k p hp⟩
theorem scOp : ∀ i ∈ [5, 6, 7], FnScope ["one", "other"] ["one", "other"] (defScope (top i)) := by
  intro i hi
  simp only [List.mem_cons, List.not_mem_nil, or_false] at hi
  rcases hi with rfl | rfl | rfl <;> exact ⟨rfl, rfl, rfl, by decide +kernel, rfl, by decide +kernel, by decide +kernel⟩
/-- one[0] * other[1] and its like: two places, the rest -/
theorem ok_added (F : Fun K "added" "added" sAdded f fd) (C : Cal P w K mg base 1 "reduced" spReduced) : FnOk P w K mg base CX0 2 f fd ["one", "other"] (spOp K add dom2) := by
  refine F.ok (scOp 5 (by decide)) (fun vs H Q E h => ?_) (fun cdv A outer s H vs Q E hr h => ?_)
  · obtain ⟨x, y, q, r, rfl, _⟩ := h
    rfl
  · obtain ⟨x, y, q, r, rfl, ⟨a, rfl, h1⟩, ⟨b, rfl, h2⟩, ⟨d1, d2⟩, k⟩ := h
    refine ⟨_, pss_one (ps_ret (pe_n C hr (by decide) (by rfl) (pa_cons (pe_op op_add (pe_op op_mulW (pe_ix ix_tup (pv 0) pe_int (fun _ _ => rfl)) (pe_ix ix_tup (pv 1) pe_int (fun _ _ => rfl))) (pe_op op_mulW (pe_ix ix_tup (pv 1) pe_int (fun _ _ => rfl)) (pe_ix ix_tup (pv 0) pe_int (fun _ _ => rfl))))
      (pa_cons (pe_op op_mulW (pe_ix ix_tup (pv 0) pe_int (fun _ _ => rfl)) (pe_ix ix_tup (pv 1) pe_int (fun _ _ => rfl))) pa_nil)))), ?_⟩
    refine ⟨_, rfl, a, _, _, _, rfl, rfl, h1, atI_nat (j := 0) rfl, _, rfl, b, _, _, _, rfl, rfl, h2, atI_nat (j := 1) rfl, _, _, rfl, rfl, d1.big.c d2.l2,
      _, rfl, b, _, _, _, rfl, rfl, h2, atI_nat (j := 0) rfl, _, rfl, a, _, _, _, rfl, rfl, h1, atI_nat (j := 1) rfl, _, _, rfl, rfl, d2.big.c d1.l2, _, _, rfl, rfl,
      _, rfl, a, _, _, _, rfl, rfl, h1, atI_nat (j := 1) rfl, _, rfl, b, _, _, _, rfl, rfl, h2, atI_nat (j := 1) rfl, _, _, rfl, rfl, d1.l2.c d2.l2, ?_⟩
    exact ⟨_, _, rfl, Int.mul_pos d1.pos d2.pos, lt2m d1.low d2.low, fun p hp => k p hp⟩
theorem ok_lessened (F : Fun K "lessened" "lessened" sLessened f fd) (C : Cal P w K mg base 1 "reduced" spReduced) : FnOk P w K mg base CX0 2 f fd ["one", "other"] (spOp K sub dom2) := by
  refine F.ok (scOp 6 (by decide)) (fun vs H Q E h => ?_) (fun cdv A outer s H vs Q E hr h => ?_)
  · obtain ⟨x, y, q, r, rfl, _⟩ := h
    rfl
  · obtain ⟨x, y, q, r, rfl, ⟨a, rfl, h1⟩, ⟨b, rfl, h2⟩, ⟨d1, d2⟩, k⟩ := h
    refine ⟨_, pss_one (ps_ret (pe_n C hr (by decide) (by rfl) (pa_cons (pe_op op_sub (pe_op op_mulW (pe_ix ix_tup (pv 0) pe_int (fun _ _ => rfl)) (pe_ix ix_tup (pv 1) pe_int (fun _ _ => rfl))) (pe_op op_mulW (pe_ix ix_tup (pv 1) pe_int (fun _ _ => rfl)) (pe_ix ix_tup (pv 0) pe_int (fun _ _ => rfl))))
      (pa_cons (pe_op op_mulW (pe_ix ix_tup (pv 0) pe_int (fun _ _ => rfl)) (pe_ix ix_tup (pv 1) pe_int (fun _ _ => rfl))) pa_nil)))), ?_⟩
    refine ⟨_, rfl, a, _, _, _, rfl, rfl, h1, atI_nat (j := 0) rfl, _, rfl, b, _, _, _, rfl, rfl, h2, atI_nat (j := 1) rfl, _, _, rfl, rfl, d1.big.c d2.l2,
      _, rfl, b, _, _, _, rfl, rfl, h2, atI_nat (j := 0) rfl, _, rfl, a, _, _, _, rfl, rfl, h1, atI_nat (j := 1) rfl, _, _, rfl, rfl, d2.big.c d1.l2, _, _, rfl, rfl,
      _, rfl, a, _, _, _, rfl, rfl, h1, atI_nat (j := 1) rfl, _, rfl, b, _, _, _, rfl, rfl, h2, atI_nat (j := 1) rfl, _, _, rfl, rfl, d1.l2.c d2.l2, ?_⟩
    exact ⟨_, _, rfl, Int.mul_pos d1.pos d2.pos, lt2m d1.low d2.low, fun p hp => k p hp⟩
theorem ok_timed (F : Fun K "timed" "timed" sTimed f fd) (C : Cal P w K mg base 1 "reduced" spReduced) : FnOk P w K mg base CX0 2 f fd ["one", "other"] (spOp K mul dom2) := by
  refine F.ok (scOp 7 (by decide)) (fun vs H Q E h => ?_) (fun cdv A outer s H vs Q E hr h => ?_)
  · obtain ⟨x, y, q, r, rfl, _⟩ := h
    rfl
  · obtain ⟨x, y, q, r, rfl, ⟨a, rfl, h1⟩, ⟨b, rfl, h2⟩, ⟨d1, d2⟩, k⟩ := h
    refine ⟨_, pss_one (ps_ret (pe_n C hr (by decide) (by rfl) (pa_cons (pe_op op_mulW (pe_ix ix_tup (pv 0) pe_int (fun _ _ => rfl)) (pe_ix ix_tup (pv 1) pe_int (fun _ _ => rfl)))
      (pa_cons (pe_op op_mulW (pe_ix ix_tup (pv 0) pe_int (fun _ _ => rfl)) (pe_ix ix_tup (pv 1) pe_int (fun _ _ => rfl))) pa_nil)))), ?_⟩
    refine ⟨_, rfl, a, _, _, _, rfl, rfl, h1, atI_nat (j := 0) rfl, _, rfl, b, _, _, _, rfl, rfl, h2, atI_nat (j := 0) rfl, _, _, rfl, rfl, d1.big.c d2.big,
      _, rfl, a, _, _, _, rfl, rfl, h1, atI_nat (j := 1) rfl, _, rfl, b, _, _, _, rfl, rfl, h2, atI_nat (j := 1) rfl, _, _, rfl, rfl, d1.l2.c d2.l2, ?_⟩
    exact ⟨_, _, rfl, Int.mul_pos d1.pos d2.pos, lt2m d1.low d2.low, fun p hp => k p hp⟩
theorem pow_lt2 {x : Int} {n : Nat} (h : Lt2 6 x) (hn : n ≤ 20) : Lt2 121 (x ^ n) := by
  have h' : x.natAbs < 64 := h
  show (x ^ n).natAbs < 2 ^ 121
  rw [Int.natAbs_pow]
  have a := Nat.pow_le_pow_left (show x.natAbs ≤ 64 by omega) n
  have b := Nat.pow_le_pow_right (show 0 < 64 by decide) hn
  have c : (64 : Nat) ^ 20 < 2 ^ 121 := by decide
  omega
end
end Rs


set_option Elab.async false
set_option linter.all false
set_option maxRecDepth 100000
set_option maxHeartbeats 400000
namespace Rs
open PySem L2 Bs Fq
def dF (q : F) : PyData := .tuple [.int q.1, .int q.2]
theorem Fr.dp {K : PySem.W.Frag} {H : Hp} {v : V} {q : F} (h : Fr K H v q) : Dp K H v (dF q) := by
  obtain ⟨a, rfl, s⟩ := h
  exact .tup s (.cons (.int _) (.cons (.int _) .nil))
def tyD : PyData → String
  | .none => "NoneType" | .bool _ => "bool" | .int _ => "int" | .str _ => "str" | .list _ => "list" | .tuple _ => "tuple" | .dict _ => "dict"
theorem _root_.L2.Dp.ty {K : PySem.W.Frag} {H : Hp} {v : V} {d : PyData} (h : Dp K H v d) : TyX K H v (.type (tyD d)) := by
  cases h with
  | non => exact .base .non
  | bl b => exact .base (.bl b)
  | int i => exact .base (.int i)
  | str x => exact .base (.str x)
  | lst s _ =>
    rcases s with (s | ⟨o, s⟩) | ⟨o, its, n, e, c, _⟩
    · exact .base (.lst s)
    · exact .base (.frz s)
    · exact .kList e c
  | tup s _ =>
    rcases s with (s | ⟨o, s⟩) | ⟨o, its, n, e, c, _⟩
    · exact .base (.tup s)
    · exact .fTuple s
    · exact .kTuple e c
def wholeD : PyData → Bool
  | .int _ => true
  | _ => false
def fracD : PyData → Bool
  | .tuple [.int a, .int b] => decide (1 ≤ b) && decide (gI a b = 1)
  | _ => false
def betwD (lo hi : Int) : PyData → Bool
  | .int i => decide (lo ≤ i) && decide (i ≤ hi)
  | _ => false
theorem fracD_dF {q : F} (h : Ok q) : fracD (dF q) = true := by
  have : gI q.1 q.2 = 1 := by unfold gI; rw [h.2]; rfl
  simp only [fracD, dF, Bool.and_eq_true, decide_eq_true_eq]
  exact ⟨by have := h.1; omega, this⟩
theorem fracD_true {d : PyData} (h : fracD d = true) : ∃ q, d = dF q ∧ Ok q := by
  unfold fracD at h
  split at h
  · rename_i a b
    simp only [Bool.and_eq_true, decide_eq_true_eq] at h
    refine ⟨(a, b), rfl, by show 0 < b; omega, ?_⟩
    have := h.2
    unfold gI at this
    show Nat.gcd a.natAbs b.natAbs = 1
    omega
  · cases h
def isInt : PyData → Bool
  | .int _ => true
  | .bool _ => true
  | _ => false
theorem kitI (K : PySem.W.Frag) (d : PyData) : PySem.W.kitOne K (.type (tyD d)) (.type "int") = some (isInt d) := by
  cases d with
  | none => exact kit_ty (a := "NoneType") (b := "int") (r := false) (by decide +kernel)
  | bool _ => exact kit_ty (a := "bool") (b := "int") (r := true) (by decide +kernel)
  | int _ => exact kit_ty (a := "int") (b := "int") (r := true) (by decide +kernel)
  | str _ => exact kit_ty (a := "str") (b := "int") (r := false) (by decide +kernel)
  | list _ => exact kit_ty (a := "list") (b := "int") (r := false) (by decide +kernel)
  | tuple _ => exact kit_ty (a := "tuple") (b := "int") (r := false) (by decide +kernel)
  | dict _ => exact kit_ty (a := "dict") (b := "int") (r := false) (by decide +kernel)
def isBool : PyData → Bool
  | .bool _ => true
  | _ => false
theorem kitB' (K : PySem.W.Frag) (d : PyData) : PySem.W.kitOne K (.type (tyD d)) (.type "bool") = some (isBool d) := by
  cases d with
  | none => exact kit_ty (a := "NoneType") (b := "bool") (r := false) (by decide +kernel)
  | bool _ => exact kit_ty (a := "bool") (b := "bool") (r := true) (by decide +kernel)
  | int _ => exact kit_ty (a := "int") (b := "bool") (r := false) (by decide +kernel)
  | str _ => exact kit_ty (a := "str") (b := "bool") (r := false) (by decide +kernel)
  | list _ => exact kit_ty (a := "list") (b := "bool") (r := false) (by decide +kernel)
  | tuple _ => exact kit_ty (a := "tuple") (b := "bool") (r := false) (by decide +kernel)
  | dict _ => exact kit_ty (a := "dict") (b := "bool") (r := false) (by decide +kernel)
def isTup : PyData → Bool
  | .tuple _ => true
  | _ => false
theorem kitT (K : PySem.W.Frag) (d : PyData) : PySem.W.kitOne K (.type (tyD d)) (.type "tuple") = some (isTup d) := by
  cases d with
  | none => exact kit_ty (a := "NoneType") (b := "tuple") (r := false) (by decide +kernel)
  | bool _ => exact kit_ty (a := "bool") (b := "tuple") (r := false) (by decide +kernel)
  | int _ => exact kit_ty (a := "int") (b := "tuple") (r := false) (by decide +kernel)
  | str _ => exact kit_ty (a := "str") (b := "tuple") (r := false) (by decide +kernel)
  | list _ => exact kit_ty (a := "list") (b := "tuple") (r := false) (by decide +kernel)
  | tuple _ => exact kit_ty (a := "tuple") (b := "tuple") (r := true) (by decide +kernel)
  | dict _ => exact kit_ty (a := "dict") (b := "tuple") (r := false) (by decide +kernel)
abbrev sWhole : Stmt := top 20
abbrev sFraction : Stmt := top 22
def spWhole (K : PySem.W.Frag) : Sp := fun vs H Q _ => ∃ (v : V) (d : PyData), vs = [v] ∧ Dp K H v d ∧ Q (.bl (wholeD d)) H
def spBetween (K : PySem.W.Frag) : Sp := fun vs H Q _ => ∃ (v : V) (d : PyData) (lo hi : Int), vs = [v, .int lo, .int hi] ∧ Dp K H v d ∧ Q (.bl (betwD lo hi d)) H
def spFraction (K : PySem.W.Frag) : Sp := fun vs H Q _ => ∃ (v : V) (d : PyData), vs = [v] ∧ Dp K H v d ∧ Q (.bl (fracD d)) H
section
variable {P : Program} {w : World} {K : PySem.W.Frag} {mg : Str → Option Value} {base : Heap} {f : Addr} {fd : FuncData}
theorem sc15 : FnScope ["thing"] ["thing"] (defScope sWhole) := ⟨rfl, rfl, rfl, by decide +kernel, rfl, by decide +kernel, by decide +kernel⟩
theorem ok_whole (F : Fun K "is_whole" "is_whole" sWhole f fd) (T : Blt mg) : FnOk P w K mg base CX0 1 f fd ["thing"] (spWhole K) := by
  refine F.ok sc15 (fun vs H Q E h => ?_) (fun cdv A outer s H vs Q E hr h => ?_)
  · obtain ⟨v, d, rfl, _⟩ := h
    rfl
  · obtain ⟨v, d, rfl, hd, k⟩ := h
    refine ⟨_, pss_one (ps_ret (pe_and (pe_callB call_isi (by rfl) T.isinstance (by decide +kernel) (pa_cons (pv 0) (pa_cons (pe_bltn (v := .ty "int") (by rfl) T.int (by decide +kernel) rfl) pa_nil)))
      (pe_one (pe_not (pe_callB call_isi (by rfl) T.isinstance (by decide +kernel) (pa_cons (pv 0) (pa_cons (pe_bltn (v := .ty "bool") (by rfl) T.bool (by decide +kernel) rfl) pa_nil))))))), ?_⟩
    refine ⟨v, rfl, v, _, _, _, _, rfl, .ty _, hd.ty, kitI K d, _, rfl, ?_⟩
    have second : ∀ b : Bool, wholeD d = (!isBool d) → tNotV (tCB (rIsi K) (tCons (tVar 0) (tCons (tC (.ty "bool")) tNil))) (start ["thing"] [v]) H Q := fun b e => by
      refine ⟨v, rfl, v, _, _, _, _, rfl, .ty _, hd.ty, kitB' K d, _, rfl, ?_⟩
      rw [← e]
      exact k
    cases d with
    | int i => exact iteT (second true rfl)
    | bool b => exact iteT (second true rfl)
    | none => exact iteF k
    | str x => exact iteF k
    | list xs => exact iteF k
    | tuple xs => exact iteF k
    | dict xs => exact iteF k
theorem sc17 : FnScope ["thing", "top", "bottom"] ["thing"] (defScope sFraction) := ⟨rfl, rfl, rfl, by decide +kernel, rfl, by decide +kernel, by decide +kernel⟩
theorem fracD_not {d : PyData} (h : isTup d = false) : fracD d = false := by
  cases d <;> first | rfl | cases h
theorem fracD_len : ∀ {ds : List PyData}, ds.length ≠ 2 → fracD (.tuple ds) = false
  | [], _ => rfl
  | [d], _ => by cases d <;> rfl
  | [_, _], h => absurd rfl h
  | a :: b :: _ :: _, _ => by cases a <;> cases b <;> rfl
theorem fracD_first {d e : PyData} (h : wholeD d = false) : fracD (.tuple [d, e]) = false := by
  cases d <;> first | rfl | cases h
theorem fracD_second {d e : PyData} (h : wholeD e = false) : fracD (.tuple [d, e]) = false := by
  cases d <;> cases e <;> first | rfl | cases h
theorem wholeD_true {d : PyData} (h : wholeD d = true) : ∃ i, d = .int i := by
  cases d with
  | int i => exact ⟨i, rfl⟩
  | _ => cases h
theorem dpAll_len {K : PySem.W.Frag} {H : Hp} : ∀ {ds : List PyData} {xs : List V}, DpAll K H xs ds → xs.length = ds.length
  | [], _, .nil => rfl
  | _ :: _, _, .cons _ r => congrArg Nat.succ (dpAll_len r)
theorem two_of {K : PySem.W.Frag} {H : Hp} {xs : List V} {ds : List PyData} (h : DpAll K H xs ds) (l : xs.length = 2) : ∃ v1 v2 d1 d2, xs = [v1, v2] ∧ ds = [d1, d2] ∧ Dp K H v1 d1 ∧ Dp K H v2 d2 := by
  cases h with
  | nil => cases l
  | cons h1 h2 =>
    cases h2 with
    | nil => cases l
    | cons h3 h4 =>
      cases h4 with
      | nil => exact ⟨_, _, _, _, rfl, rfl, h1, h3⟩
      | cons h5 h6 => simp at l
theorem ok_fraction (F : Fun K "is_fraction" "is_fraction" sFraction f fd) (T : Blt mg) (W : Cal P w K mg base 1 "is_whole" (spWhole K)) : FnOk P w K mg base CX0 2 f fd ["thing"] (spFraction K) := by
  refine F.ok sc17 (fun vs H Q E h => ?_) (fun cdv A outer s H vs Q E hr h => ?_)
  · obtain ⟨v, d, rfl, _⟩ := h
    rfl
  · obtain ⟨v, d, rfl, hd, k⟩ := h
    refine ⟨_, pss_cons (ps_if (PW.pt (pw_or (pt_not (pt_val (pe_callB call_isi (by rfl) T.isinstance (by decide +kernel) (pa_cons (pv 0) (pa_cons (pe_bltn (v := .ty "tuple") (by rfl) T.tuple (by decide +kernel) rfl) pa_nil)))))
        (pw_or1 (pt_cmpR op_ne (pe_callB call_len_seq (by rfl) T.len PySem.boot_len (pa_cons (pv 0) pa_nil)) pe_int (nomark _))))) (pss_one (ps_ret pe_bl)) pss_nil)
      (pss_cons (ps_asg (pv 0) (pg_tup rfl (pgs_cons (pg_name (i := 1) sc17.nd rfl (.inl rfl)) (pgs_cons (pg_name (i := 2) sc17.nd rfl (.inl rfl)) pgs_nil))))
      (pss_one (ps_ret (pe_and (pe_n W hr (by decide) (by rfl) (pa_cons (pv 1) pa_nil)) (pe_and (pe_n W hr (by decide) (by rfl) (pa_cons (pv 2) pa_nil))
        (pe_and (pe_cmpR op_ge (pv 2) pe_int (nomark _)) (pe_one (pe_cmpR op_eq (pe_callBfun cr_gcd (by rfl) T.gcd (pa_cons (pv 1) (pa_cons (pv 2) pa_nil))) pe_int (nomark _))))))))), ?_⟩
    refine ⟨v, rfl, v, _, _, _, _, rfl, .ty _, hd.ty, kitT K d, _, rfl, ?_⟩
    cases ht : isTup d with
    | false =>
      rw [fracD_not ht] at k
      exact iteT (iteT k)
    | true =>
      refine iteF ?_
      cases hd with
      | tup hS hA =>
        rename_i a xs ds
        refine ⟨_, rfl, a, _, rfl, .inr hS, rfl, _, rfl, ?_⟩
        refine ite2 (fun c => ?_) (fun c => ?_)
        · have l := dpAll_len hA
          rw [fracD_len (fun z => by rw [← l] at z; simp [z] at c)] at k
          exact k
        · have l := dpAll_len hA
          have l2 : xs.length = 2 := by
            have c2 : ((xs.length : Nat) : Int) = 2 := by simpa using c
            omega
          obtain ⟨v1, v2, d1, d2, rfl, rfl, h1, h2⟩ := two_of hA l2
          refine ⟨_, rfl, a, [v1, v2], rfl, hS, rfl, v1, [v2], rfl, v2, [], rfl, rfl, ?_⟩
          refine ⟨_, rfl, v1, d1, rfl, h1, _, rfl, ?_⟩
          cases hw1 : wholeD d1 with
          | false =>
            rw [fracD_first hw1] at k
            exact iteF k
          | true =>
            refine iteT ⟨_, rfl, v2, d2, rfl, h2, _, rfl, ?_⟩
            cases hw2 : wholeD d2 with
            | false =>
              rw [fracD_second hw2] at k
              exact iteF k
            | true =>
              obtain ⟨i1, rfl⟩ := wholeD_true hw1
              obtain ⟨i2, rfl⟩ := wholeD_true hw2
              cases h1
              cases h2
              have e : fracD (.tuple [.int i1, .int i2]) = (decide (1 ≤ i2) && decide (gI i1 i2 = 1)) := rfl
              refine iteT ⟨_, rfl, _, _, rfl, rfl, _, rfl, ?_⟩
              refine ite2 (fun c1 => ⟨_, rfl, _, rfl, i1, i2, rfl, rfl, ?_⟩) (fun c1 => ?_)
              · rw [e, show decide (1 ≤ i2) = true from c1, Bool.true_and] at k
                have e3 : decide (V.int ((Nat.gcd i1.natAbs i2.natAbs : Nat) : Int) = V.int 1) = decide (gI i1 i2 = 1) := by
                  unfold gI
                  simp only [V.int.injEq]
                rw [← e3] at k
                exact k
              · rw [e, show decide (1 ≤ i2) = false from Bool.eq_false_iff.mpr c1, Bool.false_and] at k
                exact k
      | non => cases ht
      | bl b => cases ht
      | int b => cases ht
      | str b => cases ht
      | lst _ _ => cases ht
end
end Rs


set_option Elab.async false
set_option linter.all false
set_option maxRecDepth 100000
set_option maxHeartbeats 400000
namespace Rs
open PySem L2 Bs Fq
theorem heap_end {H : Hp} {a d : Addr} {o1 o2 o3 o4 : HO} (h : H a = none) (n : d ≠ a) : upd (del (upd (upd (upd H a o1) d o2) a o3) a) d o4 = upd H d o4 := by
  funext b
  by_cases e1 : b = d
  · subst e1
    rw [upd_same, upd_same]
  · rw [upd_ne e1, upd_ne e1]
    by_cases e2 : b = a
    · subst e2
      rw [del_same, h]
    · rw [del_ne e2, upd_ne e2, upd_ne e1, upd_ne e2]
theorem pe_weak {X : Cx} {e : Expr} {te : TE} (he : PE X e te) : PE X e (fun σ H Q => ∃ Q0 : VK, te σ H Q0 ∧ ∀ v H1, Q0 v H1 → Q v H1) :=
  ⟨fun pins s σ H Q I ⟨Q0, h, m⟩ => PySem.wpAny_mono (he.run pins s σ H Q0 I h) (fun u s' ⟨v, H1, I1, r, q⟩ => ⟨v, H1, I1, r, m _ _ q⟩) (fun _ _ z => z)⟩
end Rs


set_option Elab.async false
set_option linter.all false
set_option maxRecDepth 100000
set_option maxHeartbeats 400000
namespace Rs
open PySem L2 Bs Fq
theorem dp_fr {K : PySem.W.Frag} {H : Hp} {v : V} {q : F} (h : Dp K H v (dF q)) : Fr K H v q := by
  cases h with
  | tup s a =>
    cases a with
    | cons h1 h2 =>
      cases h2 with
      | cons h3 h4 =>
        cases h4
        cases h1
        cases h3
        exact ⟨_, rfl, s⟩
/-- the module's NOUGHT -/
structure Nou (K : PySem.W.Frag) (mg : Str → Option Value) : Prop where
  ex : ∃ a : Addr, mg "NOUGHT" = some (.ref a) ∧ ∀ H : Hp, SqT K H a [.int 0, .int 1]
end Rs


set_option Elab.async false
set_option linter.all false
set_option maxRecDepth 100000
set_option maxHeartbeats 400000
namespace Rs
open PySem L2 Bs Fq
abbrev sMixed : Stmt := top 59
abbrev sLRatio : Stmt := top 62
abbrev sLPlus : Stmt := top 63
abbrev sLLess : Stmt := top 64
abbrev sLTimes : Stmt := top 65
def spMixed : Sp := fun vs H Q _ => ∃ (c k : Int), vs = [.int c, .int k] ∧ 0 ≤ k ∧ k ≤ 100000 ∧ ∀ r : Int, 0 ≤ r → r < 2147483629 → Q (.int r) H
/-- _law_ratio(top, bottom), bottom above nought -/
def spLRatio : Sp := fun vs H Q _ => ∃ (a b : Int), vs = [.int a, .int b] ∧ 0 < b ∧ Lt2 8800 b ∧ ∀ p, H p = none → Q (.ref p) (upd H p (fr (red a b)))
/-- the law's own numbers: any size that a reckoning may have -/
structure Dl (q : F) : Prop where
  big : Lt2 4400 q.1
  pos : 0 < q.2
  low : Lt2 4400 q.2
def domL (q r : F) : Prop := Dl q ∧ Dl r
def domLD (q r : F) : Prop := Dl q ∧ Dl r ∧ 0 < r.1
def spLt' (K : PySem.W.Frag) : Sp := fun vs H Q _ => ∃ (x y : V) (q r : F), vs = [x, y] ∧ Fr K H x q ∧ Fr K H y r ∧ domL q r ∧ Q (.bl (lt q r)) H
/-- the law's quotient, the divisor above nought -/
def divL (q r : F) : F := red (q.1 * r.2) (q.2 * r.1)
section
variable {P : Program} {w : World} {K : PySem.W.Frag} {mg : Str → Option Value} {base : Heap} {f : Addr} {fd : FuncData}
theorem scMixed : FnScope ["cell", "k"] ["cell", "k"] (defScope sMixed) := ⟨rfl, rfl, rfl, by decide +kernel, rfl, by decide +kernel, by decide +kernel⟩
theorem ok_mixed (F : Fun K "_law_mixed" "_law_mixed" sMixed f fd) (T : Blt mg) : FnOk P w K mg base CX0 1 f fd ["cell", "k"] spMixed := by
  refine F.ok scMixed (fun vs H Q E h => ?_) (fun cdv A outer s H vs Q E hr h => ?_)
  · obtain ⟨c, k, rfl, _⟩ := h
    rfl
  · obtain ⟨c, k, rfl, k0, k1, g⟩ := h
    refine ⟨_, pss_cons (ps_set (i := 0) scMixed.nd rfl (Or.inl rfl) (pe_op op_mod (pe_callTy call_int1 (by rfl) T.int (by decide +kernel) (pa_cons (pv 0) pa_nil)) pe_int))
      (pss_one (ps_ret (pe_op op_mod (pe_op op_mul (pe_op op_mod (pe_op op_add (pe_op op_add (pe_op op_mul (pv 0) (pe_op op_add pe_int (pe_op op_mul (pe_op op_mul pe_int (pv 1)) (pv 1)))) (pe_op op_mul pe_int (pv 1))) pe_int) pe_int) pe_int) pe_int))), ?_⟩
    refine ⟨_, rfl, .inl ⟨c, rfl, _, _, rfl, rfl, (by show (0 : Int) < 2147483647; decide), ?_⟩⟩
    have m0 := Int.emod_nonneg c (b := 2147483647) (by decide)
    have m1 := Int.emod_lt_of_pos c (b := 2147483647) (by decide)
    refine ⟨_, rfl, _, rfl, _, _, rfl, rfl, .inl ⟨by decide, by decide⟩, _, rfl, _, _, rfl, rfl, .inr ⟨by omega, by omega⟩, _, _, rfl, rfl, _, _, rfl, rfl, .inl ⟨by omega, by omega⟩, _, rfl, _, _, rfl, rfl, .inl ⟨by decide, by decide⟩, _, _, rfl, rfl, _, _, rfl, rfl,
      _, _, rfl, rfl, (by show (0 : Int) < 2147483647; decide), _, _, rfl, rfl, .inr ⟨by decide, by decide⟩, _, _, rfl, rfl, (by show (0 : Int) < 2147483629; decide), ?_⟩
    exact g _ (Int.emod_nonneg _ (by decide)) (Int.emod_lt_of_pos _ (by decide))
theorem scLRatio : FnScope ["top", "bottom", "one", "other"] ["top", "bottom"] (defScope sLRatio) := ⟨rfl, rfl, rfl, by decide +kernel, rfl, by decide +kernel, by decide +kernel⟩
theorem ok_lratio (F : Fun K "_law_ratio" "_law_ratio" sLRatio f fd) (T : Blt mg) : FnOk P w K mg base CX0 1 f fd ["top", "bottom"] spLRatio := by
  refine F.ok scLRatio (fun vs H Q E h => ?_) (fun cdv A outer s H vs Q E hr h => ?_)
  · obtain ⟨a, b, rfl, _⟩ := h
    rfl
  · obtain ⟨a, b, rfl, hb, hl, k⟩ := h
    refine ⟨_, pss_cons (ps_par (i := 2) (j := 3) (by rfl) scLRatio.nd rfl rfl (by decide) rfl rfl (pa_cons (pe_callB call_abs (by rfl) T.abs (by decide +kernel) (pa_cons (pv 0) pa_nil)) (pa_cons (pv 1) pa_nil)) (by rfl))
      (pss_cons (ps_while PassesOwn.never (pt_cmpR op_ne (pv 3) pe_int (nomark _))
        (pss_one (ps_par (i := 2) (j := 3) (by rfl) scLRatio.nd rfl rfl (by decide) rfl rfl (pa_cons (pv 3) (pa_cons (pe_op op_modN (pe_callTy call_int1 (by rfl) T.int (by decide +kernel) (pa_cons (pv 2) pa_nil)) (pv 3)) pa_nil)) (by rfl))))
      (pss_one (ps_ret (pe_tup (pa_cons (pe_op op_fdivW (pv 0) (pv 2)) (pa_cons (pe_op op_fdivW (pv 1) (pv 2)) pa_nil)))))), ?_⟩
    refine ⟨_, rfl, a, rfl, _, rfl, _, _, rfl, ?_⟩
    have hp := gI_pos (a := a) (b := b) (by omega)
    have hle := gI_le (a := a) (b := b) (by omega)
    refine while_by (fun σ H' => H' = H ∧ ∃ x y : Int, σ = [some (V.int a), some (V.int b), some (V.int x), some (V.int y)] ∧ 0 ≤ x ∧ 0 ≤ y ∧ gI x y = gI a b) (fun σ _ => match σ with | [_, _, _, some (V.int y)] => y.natAbs | _ => 0)
      ⟨rfl, _, b, rfl, by split <;> omega, by omega, ?_⟩ ?_ (fun σ H Q Q' m h => ?_)
    · unfold gI
      split
      · rw [Int.natAbs_neg]
      · rfl
    · rintro σ H' ⟨rfl, x, y, rfl, x0, y0, e⟩
      refine ⟨_, rfl, rfl, _, rfl, ?_⟩
      by_cases hy : y = 0
      · subst hy
        refine iteF ?_
        have ex : x = gI a b := by
          rw [← e]
          unfold gI
          have : Nat.gcd x.natAbs (0 : Int).natAbs = x.natAbs := Nat.gcd_zero_right _
          rw [this]
          omega
        subst ex
        have hgw : Lt2 8800 (gI a b) := Nat.lt_of_le_of_lt hle hl
        exact ⟨_, rfl, _, rfl, _, _, rfl, rfl, wide_div hp hgw (by decide) (by decide), _, rfl, _, rfl, _, _, rfl, rfl, wide_div hp hgw (by decide) (by decide), (by show 2 ≤ sizeLine; decide), fun p hp => k p hp⟩
      · have d : decide (V.int y = V.int 0) = false := decide_eq_false (fun z => hy (V.int.inj z))
        show if (!decide (V.int y = V.int 0)) = true then _ else _
        rw [d]
        refine iteT ?_
        refine ⟨_, rfl, _, rfl, .inl ⟨x, rfl, _, rfl, _, _, rfl, rfl, hy, _, _, rfl, ⟨rfl, y, x.fmod y, rfl, y0, ?_, ?_⟩, ?_⟩⟩
        · exact Int.fmod_nonneg_of_pos x (by omega)
        · rw [← e]
          unfold gI
          rw [Int.fmod_eq_emod_of_nonneg x y0]
          have h1 : (x % y).natAbs = x.natAbs % y.natAbs := by
            have := Int.natAbs_emod_of_nonneg (b := y) x0
            exact this
          rw [h1, Nat.gcd_comm y.natAbs, ← Nat.gcd_rec y.natAbs x.natAbs, Nat.gcd_comm]
        · show (x.fmod y).natAbs < y.natAbs
          rw [Int.fmod_eq_emod_of_nonneg x y0]
          have := Int.emod_lt_of_pos x (show 0 < y by omega)
          have := Int.emod_nonneg x hy
          omega
    · obtain ⟨v, e1, e2, b', e3, q⟩ := h
      exact ⟨v, e1, e2, b', e3, m _ _ q⟩
end
end Rs


set_option Elab.async false
set_option linter.all false
set_option maxRecDepth 100000
set_option maxHeartbeats 400000
namespace Rs
open PySem L2 Bs Fq
section
variable {P : Program} {w : World} {K : PySem.W.Frag} {mg : Str → Option Value} {base : Heap} {f : Addr} {fd : FuncData}
theorem scLOp : ∀ i ∈ [63, 64, 65, 66, 67], FnScope ["one", "other"] ["one", "other"] (defScope (top i)) := by
  intro i hi
  simp only [List.mem_cons, List.not_mem_nil, or_false] at hi
  rcases hi with rfl | rfl | rfl | rfl | rfl <;> exact ⟨rfl, rfl, rfl, by decide +kernel, rfl, by decide +kernel, by decide +kernel⟩
theorem ok_lplus (F : Fun K "_law_plus" "_law_plus" sLPlus f fd) (C : Cal P w K mg base 1 "_law_ratio" spLRatio) : FnOk P w K mg base CX0 2 f fd ["one", "other"] (spOp K add domL) := by
  refine F.ok (scLOp 63 (by decide)) (fun vs H Q E h => ?_) (fun cdv A outer s H vs Q E hr h => ?_)
  · obtain ⟨x, y, q, r, rfl, _⟩ := h
    rfl
  · obtain ⟨x, y, q, r, rfl, ⟨a, rfl, h1⟩, ⟨b, rfl, h2⟩, ⟨d1, d2⟩, k⟩ := h
    refine ⟨_, pss_one (ps_ret (pe_n C hr (by decide) (by rfl) (pa_cons (pe_op op_add (pe_op op_mulW (pe_ix ix_tup (pv 0) pe_int (fun _ _ => rfl)) (pe_ix ix_tup (pv 1) pe_int (fun _ _ => rfl))) (pe_op op_mulW (pe_ix ix_tup (pv 1) pe_int (fun _ _ => rfl)) (pe_ix ix_tup (pv 0) pe_int (fun _ _ => rfl))))
      (pa_cons (pe_op op_mulW (pe_ix ix_tup (pv 0) pe_int (fun _ _ => rfl)) (pe_ix ix_tup (pv 1) pe_int (fun _ _ => rfl))) pa_nil)))), ?_⟩
    refine ⟨_, rfl, a, _, _, _, rfl, rfl, h1, atI_nat (j := 0) rfl, _, rfl, b, _, _, _, rfl, rfl, h2, atI_nat (j := 1) rfl, _, _, rfl, rfl, d1.big.c d2.low,
      _, rfl, b, _, _, _, rfl, rfl, h2, atI_nat (j := 0) rfl, _, rfl, a, _, _, _, rfl, rfl, h1, atI_nat (j := 1) rfl, _, _, rfl, rfl, d2.big.c d1.low, _, _, rfl, rfl,
      _, rfl, a, _, _, _, rfl, rfl, h1, atI_nat (j := 1) rfl, _, rfl, b, _, _, _, rfl, rfl, h2, atI_nat (j := 1) rfl, _, _, rfl, rfl, d1.low.c d2.low, ?_⟩
    exact ⟨_, _, rfl, Int.mul_pos d1.pos d2.pos, wide_lt d1.low d2.low, fun p hp => k p hp⟩
theorem ok_lless (F : Fun K "_law_less" "_law_less" sLLess f fd) (C : Cal P w K mg base 1 "_law_ratio" spLRatio) : FnOk P w K mg base CX0 2 f fd ["one", "other"] (spOp K sub domL) := by
  refine F.ok (scLOp 64 (by decide)) (fun vs H Q E h => ?_) (fun cdv A outer s H vs Q E hr h => ?_)
  · obtain ⟨x, y, q, r, rfl, _⟩ := h
    rfl
  · obtain ⟨x, y, q, r, rfl, ⟨a, rfl, h1⟩, ⟨b, rfl, h2⟩, ⟨d1, d2⟩, k⟩ := h
    refine ⟨_, pss_one (ps_ret (pe_n C hr (by decide) (by rfl) (pa_cons (pe_op op_sub (pe_op op_mulW (pe_ix ix_tup (pv 0) pe_int (fun _ _ => rfl)) (pe_ix ix_tup (pv 1) pe_int (fun _ _ => rfl))) (pe_op op_mulW (pe_ix ix_tup (pv 1) pe_int (fun _ _ => rfl)) (pe_ix ix_tup (pv 0) pe_int (fun _ _ => rfl))))
      (pa_cons (pe_op op_mulW (pe_ix ix_tup (pv 0) pe_int (fun _ _ => rfl)) (pe_ix ix_tup (pv 1) pe_int (fun _ _ => rfl))) pa_nil)))), ?_⟩
    refine ⟨_, rfl, a, _, _, _, rfl, rfl, h1, atI_nat (j := 0) rfl, _, rfl, b, _, _, _, rfl, rfl, h2, atI_nat (j := 1) rfl, _, _, rfl, rfl, d1.big.c d2.low,
      _, rfl, b, _, _, _, rfl, rfl, h2, atI_nat (j := 0) rfl, _, rfl, a, _, _, _, rfl, rfl, h1, atI_nat (j := 1) rfl, _, _, rfl, rfl, d2.big.c d1.low, _, _, rfl, rfl,
      _, rfl, a, _, _, _, rfl, rfl, h1, atI_nat (j := 1) rfl, _, rfl, b, _, _, _, rfl, rfl, h2, atI_nat (j := 1) rfl, _, _, rfl, rfl, d1.low.c d2.low, ?_⟩
    exact ⟨_, _, rfl, Int.mul_pos d1.pos d2.pos, wide_lt d1.low d2.low, fun p hp => k p hp⟩
theorem ok_ltimes (F : Fun K "_law_times" "_law_times" sLTimes f fd) (C : Cal P w K mg base 1 "_law_ratio" spLRatio) : FnOk P w K mg base CX0 2 f fd ["one", "other"] (spOp K mul domL) := by
  refine F.ok (scLOp 65 (by decide)) (fun vs H Q E h => ?_) (fun cdv A outer s H vs Q E hr h => ?_)
  · obtain ⟨x, y, q, r, rfl, _⟩ := h
    rfl
  · obtain ⟨x, y, q, r, rfl, ⟨a, rfl, h1⟩, ⟨b, rfl, h2⟩, ⟨d1, d2⟩, k⟩ := h
    refine ⟨_, pss_one (ps_ret (pe_n C hr (by decide) (by rfl) (pa_cons (pe_op op_mulW (pe_ix ix_tup (pv 0) pe_int (fun _ _ => rfl)) (pe_ix ix_tup (pv 1) pe_int (fun _ _ => rfl)))
      (pa_cons (pe_op op_mulW (pe_ix ix_tup (pv 0) pe_int (fun _ _ => rfl)) (pe_ix ix_tup (pv 1) pe_int (fun _ _ => rfl))) pa_nil)))), ?_⟩
    refine ⟨_, rfl, a, _, _, _, rfl, rfl, h1, atI_nat (j := 0) rfl, _, rfl, b, _, _, _, rfl, rfl, h2, atI_nat (j := 0) rfl, _, _, rfl, rfl, d1.big.c d2.big,
      _, rfl, a, _, _, _, rfl, rfl, h1, atI_nat (j := 1) rfl, _, rfl, b, _, _, _, rfl, rfl, h2, atI_nat (j := 1) rfl, _, _, rfl, rfl, d1.low.c d2.low, ?_⟩
    exact ⟨_, _, rfl, Int.mul_pos d1.pos d2.pos, wide_lt d1.low d2.low, fun p hp => k p hp⟩
/-- _law_power(one, many): one in least terms -/
def spLPower (K : PySem.W.Frag) : Sp := fun vs H Q _ => ∃ (x : V) (q : F) (n : Int), vs = [x, .int n] ∧ Fr K H x q ∧ Ok q ∧ Lt2 6 q.1 ∧ Lt2 6 q.2 ∧ 0 ≤ n ∧ n ≤ 20 ∧ ∀ H' p, Same H H' → H' p = some (fr (pw q n.toNat)) → Q (.ref p) H'
end
abbrev sLOver : Stmt := top 66
abbrev sLUnder : Stmt := top 67
abbrev sLPower : Stmt := top 70
abbrev sDivided : Stmt := top 8
def domP (q r : F) : Prop := Dm q ∧ Dm r ∧ 0 < r.1
section
variable {P : Program} {w : World} {K : PySem.W.Frag} {mg : Str → Option Value} {base : Heap} {f : Addr} {fd : FuncData}
theorem scDivided : FnScope ["one", "other"] ["one", "other"] (defScope sDivided) := ⟨rfl, rfl, rfl, by decide +kernel, rfl, by decide +kernel, by decide +kernel⟩
theorem ok_divided (F : Fun K "divided" "divided" sDivided f fd) (C : Cal P w K mg base 1 "reduced" spReduced) : FnOk P w K mg base CX0 2 f fd ["one", "other"] (spOp K divL domP) := by
  refine F.ok scDivided (fun vs H Q E h => ?_) (fun cdv A outer s H vs Q E hr h => ?_)
  · obtain ⟨x, y, q, r, rfl, _⟩ := h
    rfl
  · obtain ⟨x, y, q, r, rfl, ⟨a, rfl, h1⟩, ⟨b, rfl, h2⟩, ⟨d1, d2, n0⟩, k⟩ := h
    refine ⟨_, pss_one (ps_ret (pe_n C hr (by decide) (by rfl) (pa_cons (pe_op op_mulW (pe_ix ix_tup (pv 0) pe_int (fun _ _ => rfl)) (pe_ix ix_tup (pv 1) pe_int (fun _ _ => rfl)))
      (pa_cons (pe_op op_mulW (pe_ix ix_tup (pv 0) pe_int (fun _ _ => rfl)) (pe_ix ix_tup (pv 1) pe_int (fun _ _ => rfl))) pa_nil)))), ?_⟩
    refine ⟨_, rfl, a, _, _, _, rfl, rfl, h1, atI_nat (j := 0) rfl, _, rfl, b, _, _, _, rfl, rfl, h2, atI_nat (j := 1) rfl, _, _, rfl, rfl, d1.big.c d2.l2,
      _, rfl, a, _, _, _, rfl, rfl, h1, atI_nat (j := 1) rfl, _, rfl, b, _, _, _, rfl, rfl, h2, atI_nat (j := 0) rfl, _, _, rfl, rfl, d1.l2.c d2.big, ?_⟩
    exact ⟨_, _, rfl, Int.mul_pos d1.pos n0, lt2m d1.low d2.big, fun p hp => k p hp⟩
theorem ok_lover (F : Fun K "_law_over" "_law_over" sLOver f fd) (C : Cal P w K mg base 1 "_law_ratio" spLRatio) : FnOk P w K mg base CX0 2 f fd ["one", "other"] (spOp K divL domLD) := by
  refine F.ok (scLOp 66 (by decide)) (fun vs H Q E h => ?_) (fun cdv A outer s H vs Q E hr h => ?_)
  · obtain ⟨x, y, q, r, rfl, _⟩ := h
    rfl
  · obtain ⟨x, y, q, r, rfl, ⟨a, rfl, h1⟩, ⟨b, rfl, h2⟩, ⟨d1, d2, n0⟩, k⟩ := h
    refine ⟨_, pss_one (ps_ret (pe_n C hr (by decide) (by rfl) (pa_cons (pe_op op_mulW (pe_ix ix_tup (pv 0) pe_int (fun _ _ => rfl)) (pe_ix ix_tup (pv 1) pe_int (fun _ _ => rfl)))
      (pa_cons (pe_op op_mulW (pe_ix ix_tup (pv 0) pe_int (fun _ _ => rfl)) (pe_ix ix_tup (pv 1) pe_int (fun _ _ => rfl))) pa_nil)))), ?_⟩
    refine ⟨_, rfl, a, _, _, _, rfl, rfl, h1, atI_nat (j := 0) rfl, _, rfl, b, _, _, _, rfl, rfl, h2, atI_nat (j := 1) rfl, _, _, rfl, rfl, d1.big.c d2.low,
      _, rfl, a, _, _, _, rfl, rfl, h1, atI_nat (j := 1) rfl, _, rfl, b, _, _, _, rfl, rfl, h2, atI_nat (j := 0) rfl, _, _, rfl, rfl, d1.low.c d2.big, ?_⟩
    exact ⟨_, _, rfl, Int.mul_pos d1.pos n0, wide_lt d1.low d2.big, fun p hp => k p hp⟩
theorem ok_lunder (F : Fun K "_law_under" "_law_under" sLUnder f fd) : FnOk P w K mg base CX0 1 f fd ["one", "other"] (spLt' K) := by
  refine F.ok (scLOp 67 (by decide)) (fun vs H Q E h => ?_) (fun cdv A outer s H vs Q E hr h => ?_)
  · obtain ⟨x, y, q, r, rfl, _⟩ := h
    rfl
  · obtain ⟨x, y, q, r, rfl, ⟨a, rfl, h1⟩, ⟨b, rfl, h2⟩, ⟨d1, d2⟩, k⟩ := h
    refine ⟨_, pss_one (ps_ret (pe_cmpR op_lt (pe_op op_mulW (pe_ix ix_tup (pv 0) pe_int (fun _ _ => rfl)) (pe_ix ix_tup (pv 1) pe_int (fun _ _ => rfl))) (pe_op op_mulW (pe_ix ix_tup (pv 1) pe_int (fun _ _ => rfl)) (pe_ix ix_tup (pv 0) pe_int (fun _ _ => rfl))) (nomark _))), ?_⟩
    exact ⟨_, rfl, a, _, _, _, rfl, rfl, h1, atI_nat (j := 0) rfl, _, rfl, b, _, _, _, rfl, rfl, h2, atI_nat (j := 1) rfl, _, _, rfl, rfl, d1.big.c d2.low,
      _, rfl, b, _, _, _, rfl, rfl, h2, atI_nat (j := 0) rfl, _, rfl, a, _, _, _, rfl, rfl, h1, atI_nat (j := 1) rfl, _, _, rfl, rfl, d2.big.c d1.low, _, _, rfl, rfl, k⟩
theorem scLPower : FnScope ["one", "many", "found_so", "k"] ["one", "many"] (defScope sLPower) := ⟨rfl, rfl, rfl, by decide +kernel, rfl, by decide +kernel, by decide +kernel⟩
theorem ok_lpower (F : Fun K "_law_power" "_law_power" sLPower f fd) (T : Blt mg) (C : Cal P w K mg base 2 "_law_times" (spOp K mul domL)) : FnOk P w K mg base CX0 3 f fd ["one", "many"] (spLPower K) := by
  refine F.ok scLPower (fun vs H Q E h => ?_) (fun cdv A outer s H vs Q E hr h => ?_)
  · obtain ⟨x, q, n, rfl, _⟩ := h
    rfl
  · obtain ⟨x, q, n, rfl, hx, oq, b1, b2, n0, n1, k⟩ := h
    refine ⟨_, pss_cons (ps_set (i := 2) scLPower.nd rfl (Or.inl rfl) (pe_tup (pa_cons pe_int (pa_cons pe_int pa_nil))))
      (pss_cons (ps_for PassesOwn.never rfl (pi_range1 rfl T.range (pa_cons (pv 1) pa_nil)) (pg_name (i := 3) scLPower.nd rfl (Or.inl rfl))
        (pss_one (ps_set (i := 2) scLPower.nd rfl (Or.inl rfl) (pe_n C hr (by decide) (by rfl) (pa_cons (pv 2) (pa_cons (pv 0) pa_nil))))))
      (pss_one (ps_ret (pv 2)))), ?_⟩
    refine ⟨(by show 2 ≤ sizeLine; decide), fun p0 hp0 => ?_⟩
    refine ⟨_, rfl, n, rfl, by omega, by omega, for_range (n := n.toNat) (fun i σ H' => Same H H' ∧ ∃ (p : Addr) (v : Option V), H' p = some (fr (pw q i)) ∧ σ = [some x, some (V.int n), some (V.ref p), v])
      ⟨same_new hp0, p0, none, upd_same.trans (by show some (HO.tup [V.int 1, V.int 1]) = some (HO.tup [V.int (q.1 ^ 0), V.int (q.2 ^ 0)]); rw [Int.pow_zero, Int.pow_zero]), rfl⟩ ?_ ?_⟩
    · rintro i σ H' hi ⟨sm, p, v, hp, rfl⟩
      have hi2 : i ≤ 20 := by omega
      refine ⟨_, rfl, _, rfl, _, _, pw q i, q, rfl, Fr.of hp, hx.mono sm, ⟨⟨(pow_lt2 b1 hi2).mono (by decide), (pw_ok oq i).1, (pow_lt2 b2 hi2).mono (by decide)⟩, ⟨b1.mono (by decide), oq.1, b2.mono (by decide)⟩⟩, fun p1 h1 => ?_⟩
      refine ⟨sm.trans (same_new h1), p1, some (V.int (0 + i)), ?_, rfl⟩
      rw [← pw_succ q i oq]
      exact upd_same
    · rintro σ H' ⟨sm, p, v, hp, rfl⟩
      exact ⟨_, rfl, k H' p sm hp⟩
end
end Rs


set_option Elab.async false
set_option linter.all false
set_option maxRecDepth 100000
set_option maxHeartbeats 400000
namespace Rs
open PySem L2 Bs Fq
abbrev sBegin : Stmt := top 60
abbrev sDraw : Stmt := top 61
def dS (c l : Addr) (t : Int) : List (Key × V) := [(Sum.inr "cells", .ref c), (Sum.inr "lefts", .ref l), (Sum.inr "at", .int t), (Sum.inr "room", .int 0)]
theorem val_cells (c l : Addr) (t : Int) : valV (dS c l t) (Sum.inr "cells") = some (.ref c) := by rfl
theorem val_lefts (c l : Addr) (t : Int) : valV (dS c l t) (Sum.inr "lefts") = some (.ref l) := by rfl
theorem val_at (c l : Addr) (t : Int) : valV (dS c l t) (Sum.inr "at") = some (.int t) := by rfl
theorem put_at (c l : Addr) (t u : Int) : putK (dS c l t) (Sum.inr "at") (.int u) = dS c l u := by rfl
structure Sta (H : Hp) (p c l : Addr) (n : Nat) (t : Int) : Prop where
  d : H p = some (.dK (dS c l t))
  cs : ∃ cs : List Int, H c = some (.lst (cs.map V.int)) ∧ cs.length = n
  ls : ∃ ls : List Int, H l = some (.lst (ls.map V.int)) ∧ ls.length = n ∧ ∀ z ∈ ls, 0 ≤ z
  ne : c ≠ l
  n1 : 1 ≤ n
  n2 : n ≤ 63
  t0 : 0 ≤ t
section
variable {H H' : Hp} {p c l : Addr} {n : Nat} {t : Int}
theorem Sta.gCells (S : Sta H p c l n t) : DGet H p (.str "cells") (some (.ref c)) := by
  have := DGet.k (k := (Sum.inr "cells" : Key)) S.d
  rwa [val_cells] at this
theorem Sta.gLefts (S : Sta H p c l n t) : DGet H p (.str "lefts") (some (.ref l)) := by
  have := DGet.k (k := (Sum.inr "lefts" : Key)) S.d
  rwa [val_lefts] at this
theorem Sta.gAt (S : Sta H p c l n t) : DGet H p (.str "at") (some (.int t)) := by
  have := DGet.k (k := (Sum.inr "at" : Key)) S.d
  rwa [val_at] at this
theorem Sta.pc (S : Sta H p c l n t) : p ≠ c := by
  obtain ⟨cs, h, _⟩ := S.cs
  exact ne_of S.d h (by intro z; cases z)
theorem Sta.pl (S : Sta H p c l n t) : p ≠ l := by
  obtain ⟨ls, h, _⟩ := S.ls
  exact ne_of S.d h (by intro z; cases z)
theorem Sta.mono (S : Sta H p c l n t) (e : Same H H') : Sta H' p c l n t := by
  obtain ⟨cs, a1, a2⟩ := S.cs
  obtain ⟨ls, b1, b2⟩ := S.ls
  exact ⟨e _ _ S.d, ⟨cs, e _ _ a1, a2⟩, ⟨ls, e _ _ b1, b2⟩, S.ne, S.n1, S.n2, S.t0⟩
/-- the state alone was changed -/
def Kp (p l : Addr) (H H' : Hp) : Prop := ∀ b o, H b = some o → b ≠ p → b ≠ l → H' b = some o
theorem Kp.trans {H1 H2 H3 : Hp} (a : Kp p l H1 H2) (b : Kp p l H2 H3) : Kp p l H1 H3 := fun x o e n1 n2 => b x o (a x o e n1 n2) n1 n2
theorem Kp.of (e : Same H H') : Kp p l H H' := fun x o h _ _ => e x o h
theorem Kp.fr {K : PySem.W.Frag} {v : V} {q : F} (k : Kp p l H H') (S : Sta H p c l n t) (h : Fr K H v q) : Fr K H' v q := by
  obtain ⟨a, rfl, s⟩ := h
  obtain ⟨ls, b1, _⟩ := S.ls
  refine ⟨a, rfl, ?_⟩
  rcases s with (s | ⟨o, s⟩) | s
  · exact .inl (.inl (k a _ s (ne_of s S.d (by intro z; cases z)) (ne_of s b1 (by intro z; cases z))))
  · exact .inl (.inr ⟨o, k a _ s (ne_of s S.d (by intro z; cases z)) (ne_of s b1 (by intro z; cases z))⟩)
  · exact .inr s
end
/-- _law_draw(state, many) -/
def spDraw : Sp := fun vs H Q _ => ∃ (p c l : Addr) (n : Nat) (t m : Int), vs = [.ref p, .int m] ∧ Sta H p c l n t ∧ t ≤ 10000 ∧ 1 ≤ m ∧ m < 1000000 ∧
  ∀ (H' : Hp) (r : Int), 0 ≤ r → r < m → Sta H' p c l n (t + 1) → Kp p l H H' → Q (.int r) H'
section
variable {P : Program} {w : World} {K : PySem.W.Frag} {mg : Str → Option Value} {base : Heap} {f : Addr} {fd : FuncData}
theorem scDraw : FnScope ["state", "many", "at", "place", "left", "number"] ["state", "many"] (defScope sDraw) := ⟨rfl, rfl, rfl, by decide +kernel, rfl, by decide +kernel, by decide +kernel⟩
theorem int_at {cs : List Int} {i : Nat} (h : i < cs.length) : ∃ z, cs[i]? = some z ∧ (cs.map V.int)[i]? = some (V.int z) := by
  refine ⟨cs[i], List.getElem?_eq_getElem h, ?_⟩
  rw [List.getElem?_map, List.getElem?_eq_getElem h]
  rfl
theorem ok_draw (F : Fun K "_law_draw" "_law_draw" sDraw f fd) (T : Blt mg) (C : Cal P w K mg base 1 "_law_mixed" spMixed) : FnOk P w K mg base CX0 2 f fd ["state", "many"] spDraw := by
  refine F.ok scDraw (fun vs H Q E h => ?_) (fun cdv A outer s H vs Q E hr h => ?_)
  · obtain ⟨p, c, l, n, t, m, rfl, _⟩ := h
    rfl
  · obtain ⟨p, c, l, n, t, m, rfl, S, ht, m1, m2, k⟩ := h
    have hu := hu_of hr
    refine ⟨_, pss_cons (ps_set (i := 2) scDraw.nd rfl (Or.inl rfl) (pe_dget hu (pv 0) pe_str (fun _ _ => rfl)))
      (pss_cons (ps_dput hu (pv 0) pe_str (pe_op op_add (pv 2) pe_int) rfl)
      (pss_cons (ps_set (i := 3) scDraw.nd rfl (Or.inl rfl) (pe_op op_mod (pe_callTy call_int1 (by rfl) T.int (by decide +kernel) (pa_cons (pv 2) pa_nil)) (pe_callB call_len_seq (by rfl) T.len PySem.boot_len (pa_cons (pe_dget hu (pv 0) pe_str (fun _ _ => rfl)) pa_nil))))
      (pss_cons (ps_set (i := 4) scDraw.nd rfl (Or.inl rfl) (pe_ix ix_list (pe_dget hu (pv 0) pe_str (fun _ _ => rfl)) (pv 3) (fun _ _ => rfl)))
      (pss_cons (ps_if (pt_cmpR op_gt (pv 4) pe_int (nomark _))
        (pss_cons (ps_asg (pe_op op_fdivN (pv 4) (pv 1)) (pg_sub (pe_dget hu (pv 0) pe_str (fun _ _ => rfl)) (pv 3) set_list))
          (pss_one (ps_ret (pe_op op_mod (pe_callTy call_int1 (by rfl) T.int (by decide +kernel) (pa_cons (pv 4) pa_nil)) (pv 1))))) pss_nil)
      (pss_cons (ps_set (i := 5) scDraw.nd rfl (Or.inl rfl) (pe_n C hr (by decide) (by rfl) (pa_cons (pe_n C hr (by decide) (by rfl) (pa_cons (pe_ix ix_list (pe_dget hu (pv 0) pe_str (fun _ _ => rfl)) (pv 3) (fun _ _ => rfl)) (pa_cons (pv 2) pa_nil))) (pa_cons (pe_op op_add pe_int (pv 2)) pa_nil))))
      (pss_one (ps_ret (pe_op op_mod (pe_op op_fdiv (pe_callTy call_int1 (by rfl) T.int (by decide +kernel) (pa_cons (pe_op op_add (pe_op op_mul (pv 5) pe_int) (pe_n C hr (by decide) (by rfl) (pa_cons (pv 5) (pa_cons (pe_op op_add pe_int (pv 2)) pa_nil)))) pa_nil)) pe_int) (pv 1))))))))), ?_⟩
    refine ⟨_, rfl, p, _, rfl, S.gAt, ?_⟩
    have S1 : Sta (upd H p (.dK (dS c l (t + 1)))) p c l n (t + 1) := by
      obtain ⟨cs, a1, a2⟩ := S.cs
      obtain ⟨ls, b1, b2, b3⟩ := S.ls
      exact ⟨upd_same, ⟨cs, by rw [upd_ne S.pc.symm]; exact a1, a2⟩, ⟨ls, by rw [upd_ne S.pl.symm]; exact b1, b2, b3⟩, S.ne, S.n1, S.n2, by have := S.t0; omega⟩
    have k1 : Kp p l H (upd H p (.dK (dS c l (t + 1)))) := fun b o e n1 _ => (upd_ne n1).trans e
    refine ⟨_, rfl, _, _, rfl, rfl, _, rfl, p, _, rfl, DPut.k (k := Sum.inr "at") S.d (by show 4 < sizeLine; decide), ?_⟩
    rw [put_at]
    generalize upd H p (.dK (dS c l (t + 1))) = H1 at S1 k1 ⊢
    obtain ⟨cs, a1, a2⟩ := S1.cs
    obtain ⟨ls, b1, b2, b3⟩ := S1.ls
    have n1 := S.n1
    have t0 := S.t0
    have r0 := Int.emod_nonneg t (b := (n : Int)) (by omega)
    have r1 := Int.emod_lt_of_pos t (b := (n : Int)) (by omega)
    obtain ⟨i, hi⟩ : ∃ i : Nat, t % (n : Int) = (i : Int) := ⟨(t % (n : Int)).toNat, by omega⟩
    have hin : i < n := by omega
    obtain ⟨zc, c1, c2⟩ := int_at (cs := cs) (i := i) (by omega)
    obtain ⟨zl, l1, l2⟩ := int_at (cs := ls) (i := i) (by omega)
    have zl0 : 0 ≤ zl := b3 zl (List.mem_of_getElem? l1)
    refine ⟨_, rfl, .inl ⟨t, rfl, _, rfl, p, _, rfl, S1.gCells, c, _, rfl, .inl (SqL.of a1), _, _, rfl, rfl, ?_, ?_⟩⟩
    · show (0 : Int) < ((cs.map V.int).length : Nat)
      rw [List.length_map, a2]
      omega
    · rw [List.length_map, a2]
      have l3 : atI (ls.map V.int) (t % (n : Int)) = some (V.int zl) := by
        rw [hi]
        exact atI_nat l2
      have c3 : atI (cs.map V.int) (t % (n : Int)) = some (V.int zc) := by
        rw [hi]
        exact atI_nat c2
      have hix : ixN (ls.map V.int).length (t % (n : Int)) = some i := by
        rw [hi, List.length_map, b2]
        unfold ixN
        rw [if_pos (by omega), if_pos (by omega)]
        simp
      refine ⟨_, rfl, p, _, rfl, S1.gLefts, _, rfl, l, _, _, _, rfl, rfl, SqL.of b1, l3, ?_⟩
      refine ⟨_, rfl, _, _, rfl, rfl, _, rfl, ?_⟩
      refine ite2 (fun q => ?_) (fun q => ?_)
      · refine ⟨_, rfl, _, rfl, _, _, rfl, rfl, ⟨by omega, by omega⟩, ?_⟩
        refine ⟨_, rfl, p, _, rfl, S1.gLefts, _, rfl, l, _, _, i, rfl, rfl, b1, hix, ?_⟩
        refine ⟨_, rfl, .inl ⟨zl, rfl, _, rfl, _, _, rfl, rfl, (by show (0 : Int) < m; omega), ?_⟩⟩
        refine k _ _ (Int.emod_nonneg _ (by omega)) (Int.emod_lt_of_pos _ (by omega)) ⟨?_, ⟨cs, ?_, a2⟩, ⟨ls.set i (zl.fdiv m), ?_, ?_, ?_⟩, S1.ne, S1.n1, S1.n2, S1.t0⟩ (k1.trans (fun b o e _ n2 => (upd_ne n2).trans e))
        · rw [upd_ne S1.pl]
          exact S1.d
        · rw [upd_ne S1.ne]
          exact a1
        · rw [upd_same, List.map_set]
        · rw [List.length_set, b2]
        · intro z hz
          rcases List.mem_or_eq_of_mem_set hz with h | h
          · exact b3 z h
          · rw [h, Int.fdiv_eq_ediv_of_nonneg _ (by omega)]
            exact Int.ediv_nonneg zl0 (by omega)
      · refine ⟨_, rfl, p, _, rfl, S1.gCells, _, rfl, c, _, _, _, rfl, rfl, SqL.of a1, c3, _, rfl, zc, t, rfl, t0, by omega, fun x x0 x1 => ?_⟩
        refine ⟨_, rfl, _, _, rfl, rfl, x, 40 + t, rfl, by omega, by omega, fun y y0 y1 => ?_⟩
        refine ⟨_, rfl, _, _, rfl, rfl, .inl ⟨by omega, by omega⟩, _, rfl, _, rfl, _, _, rfl, rfl, y, 7 + t, rfl, by omega, by omega, fun z z0 z1 => ?_⟩
        refine ⟨_, _, rfl, rfl, .inl ⟨_, rfl, _, _, rfl, rfl, ⟨by decide, by decide⟩, _, rfl, _, _, rfl, rfl, (by show (0 : Int) < m; omega), ?_⟩⟩
        exact k _ _ (Int.emod_nonneg _ (by omega)) (Int.emod_lt_of_pos _ (by omega)) S1 k1
end
end Rs


set_option Elab.async false
set_option linter.all false
set_option maxRecDepth 100000
set_option maxHeartbeats 400000
namespace Rs
open PySem L2 Bs Fq
/-- _law_begin(script) -/
def spBegin (K : PySem.W.Frag) : Sp := fun vs H Q _ => ∃ (a : Addr) (ns : List Int), vs = [.ref a] ∧ SqL K H a (ns.map V.int) ∧ ns.length ≤ 63 ∧
  ∀ (H' : Hp) (p c l : Addr) (n : Nat), Same H H' → H p = none → H l = none → Sta H' p c l n 0 → Q (.ref p) H'
section
variable {P : Program} {w : World} {K : PySem.W.Frag} {mg : Str → Option Value} {base : Heap} {f : Addr} {fd : FuncData}
theorem scBegin : FnScope ["script", "cells", "cell"] ["script"] (defScope sBegin) := ⟨rfl, rfl, rfl, by decide +kernel, rfl, by decide +kernel, by decide +kernel⟩
theorem dp_ints {K : PySem.W.Frag} {H : Hp} : ∀ ns : List Int, DpAll K H (ns.map V.int) (ns.map PyData.int)
  | [] => .nil
  | n :: ns => .cons (.int n) (dp_ints ns)
def left (z : Int) : Int := if z ≥ 10 ^ 18 then z else 0
theorem left_nonneg (z : Int) : 0 ≤ left z := by
  unfold left
  split
  · have : (0 : Int) ≤ 10 ^ 18 := by decide
    omega
  · omega
theorem can_ints : ∀ ns : List Int, PyData.canLayAll0 (ns.map PyData.int) = true
  | [] => by simp [PyData.canLayAll0]
  | n :: ns => by
    have := can_ints ns
    simp [PyData.canLayAll0, PyData.canLay0, this]
theorem dep_ints : ∀ ns : List Int, PyData.depthAll (ns.map PyData.int) ≤ 1
  | [] => by simp [PyData.depthAll]
  | n :: ns => by
    have := dep_ints ns
    simp only [List.map_cons, PyData.depthAll, PyData.depth]
    omega
theorem shaped_ints (ns : List Int) : SeqAt.shaped (.list (ns.map PyData.int)) = true := by
  unfold SeqAt.shaped
  rw [Bool.and_eq_true_iff]
  refine ⟨?_, decide_eq_true ?_⟩
  · simpa [PyData.canLay0] using can_ints ns
  · have := dep_ints ns
    simp only [PyData.depth]
    omega
theorem some_int {cs : List Int} {i : Nat} {x : V} (h : (cs.map V.int)[i]? = some x) : ∃ z, cs[i]? = some z ∧ x = V.int z := by
  rw [List.getElem?_map] at h
  cases e : cs[i]? with
  | none =>
    rw [e] at h
    cases h
  | some z =>
    rw [e] at h
    exact ⟨z, rfl, (Option.some.inj h).symm⟩
theorem take_one {α : Type} {l : List α} {i : Nat} {x : α} (h : l[i]? = some x) : l.take (i + 1) = l.take i ++ [x] := by
  rw [List.take_add_one, h]
  rfl
theorem ok_begin (F : Fun K "_law_begin" "_law_begin" sBegin f fd) (T : Blt mg) : FnOk P w K mg base CX0 2 f fd ["script"] (spBegin K) := by
  refine F.ok scBegin (fun vs H Q E h => ?_) (fun cdv A outer s H vs Q E hr h => ?_)
  · obtain ⟨a, ns, rfl, _⟩ := h
    rfl
  · obtain ⟨a, ns, rfl, hS, hl, k⟩ := h
    refine ⟨_, C8.pss_cut (ps_set (i := 1) scBegin.nd rfl (Or.inl rfl) (pe_ifExp (pt_cmpR (op_neD hr.units) (pv 0) (pe_lst pa_nil) (nomark _)) (pe_callTy call_list_of (by rfl) T.list (by decide +kernel) (pa_cons (pv 0) pa_nil)) (pe_lst (pa_cons pe_int pa_nil))))
      (pss_one (ps_ret (pe_disp (pps_cons pe_str (pv 1) (pps_cons pe_str (pe_lc (own := [("cell", 2)]) (g := gName 2) (tt := tYes) rfl scBegin.nd (pi_list (pv 1)) (blkOk_by (N := ["script", "cells", "cell"]) (sc := defScope sBegin) (by decide +kernel))
          (fun _ _ _ _ _ => pg_name (i := 2) scBegin.nd rfl (Or.inl rfl)) (fun _ _ _ _ _ => pts_nil) (fun _ _ _ _ _ => pe_ifExp (pt_cmpR op_ge (pv 2) (pe_op op_pow pe_int pe_int) (nomark _)) (pv 2) pe_int))
        (pps_cons pe_str pe_int (pps_cons pe_str pe_int pps_nil)))) (by rfl) (by rfl) (fun z => by cases z) (by decide)))), ?_⟩
    refine ⟨fun σ H1 => ∃ (c : Addr) (cs : List Int), Same H H1 ∧ H1 c = some (.lst (cs.map V.int)) ∧ 1 ≤ cs.length ∧ cs.length ≤ 63 ∧ σ = [some (V.ref a), some (V.ref c), none], ?_, ?_⟩
    · refine ⟨_, rfl, (by show 0 ≤ sizeLine; decide), fun p0 hp0 => ?_⟩
      have s0 : Same H (upd H p0 (.lst [])) := same_new hp0
      refine ⟨.list (ns.map PyData.int), .list [], .lst (s0.seq hS) (dp_ints ns), .lst (SqL.of upd_same) .nil, ?_, rfl, _, rfl, ?_⟩
      · exact shaped_ints ns
      · have e : PyData.eqv (.list (ns.map PyData.int)) (.list []) = ns.isEmpty := by
          cases ns <;> rfl
        show if (!PyData.eqv (.list (ns.map PyData.int)) (.list [])) = true then _ else _
        rw [e]
        cases hn : ns with
        | nil =>
          refine iteF ⟨(by show 1 ≤ sizeLine; decide), fun p1 hp1 => ?_⟩
          exact ⟨p1, [0], s0.trans (same_new hp1), upd_same, Nat.le_refl _, (by show 1 ≤ 63; decide), rfl⟩
        | cons n ns' =>
          refine iteT ⟨_, rfl, a, _, rfl, .inl (s0.seq hS), fun p1 hp1 => ?_⟩
          exact ⟨p1, ns, s0.trans (same_new hp1), upd_same, by rw [hn]; exact Nat.succ_le_succ (Nat.zero_le _), hl, rfl⟩
    · rintro σ H1 ⟨c, cs, s1, hc, l1, l2, rfl⟩
      intro p hp
      have sp : Same H1 (upd H1 p (.dK [])) := same_new hp
      refine ⟨_, rfl, ?_⟩
      have np : H1 p = none := hp
      have hpc : c ≠ p := ne_of_none hc np
      refine ⟨_, rfl, c, rfl, ⟨_, SqL.of (sp _ _ hc)⟩, fun D hD => lc_list (K := K) (a := c) (xs := cs.map V.int)
        (fun i H2 => Same (upd H1 p (.dK [])) H2 ∧ H2 D = some (.lst ((cs.take i).map (fun z => V.int (left z))))) ⟨same_new hD, upd_same⟩ (fun i H2 _ z => SqL.of (z.1 _ _ (sp _ _ hc))) ?_ ?_⟩
      · rintro i x H2 hx ⟨s2, hD2⟩
        obtain ⟨z, hz, rfl⟩ := some_int hx
        have ln : (cs.take i).length ≤ 63 := by rw [List.length_take]; omega
        have fin : ∀ u : Int, u = left z → ∃ acc, H2 D = some (.lst acc) ∧ acc.length < sizeLine ∧ (Same (upd H1 p (.dK [])) (upd H2 D (.lst (acc ++ [V.int u]))) ∧ upd H2 D (.lst (acc ++ [V.int u])) D = some (.lst ((cs.take (i + 1)).map (fun z => V.int (left z))))) := by
          rintro u rfl
          refine ⟨_, hD2, by rw [List.length_map]; exact small1000 (by omega), fun b o e => ?_, ?_⟩
          · have : b ≠ D := ne_of_none e hD
            exact (upd_ne this).trans (s2 b o e)
          · rw [upd_same, take_one hz, List.map_append]
            rfl
        refine ⟨rfl, ?_⟩
        refine iteT (B := Same (upd H1 p (.dK [])) H2 ∧ H2 D = some (.lst ((cs.take (i + 1)).map (fun z => V.int (left z))))) ?_
        refine ⟨_, rfl, _, _, rfl, rfl, ⟨by decide, by decide, by decide⟩, _, _, rfl, rfl, _, rfl, ?_⟩
        refine ite2 (fun q => ⟨_, rfl, ?_⟩) (fun q => ?_)
        · have q' : z ≥ 10 ^ 18 := of_decide_eq_true q
          exact fin z (show z = left z from (if_pos q').symm)
        · have q' : ¬ z ≥ 10 ^ 18 := fun w => q (decide_eq_true w)
          exact fin 0 (show 0 = left z from (if_neg q').symm)
      · rintro H2 ⟨s2, hD2⟩
        have hpD : p ≠ D := by
          intro z
          rw [← z, upd_same] at hD
          cases hD
        rw [List.length_map, List.take_length] at hD2
        refine ⟨s2 _ _ upd_same, dS c D 0, rfl, (by show 4 ≤ 15; decide), ?_⟩
        have hDn : H1 D = none := by
          rw [upd_ne hpD.symm] at hD
          exact hD
        refine k _ p c D cs.length ?_ ?_ ?_ ⟨upd_same, ⟨cs, ?_, rfl⟩, ⟨cs.map left, ?_, by rw [List.length_map], ?_⟩, ne_of_none hc hDn, l1, l2, Int.le_refl _⟩
        · intro b o e
          have nb : b ≠ p := ne_of_none (s1 b o e) np
          rw [upd_ne nb]
          exact s2 b o (sp b o (s1 b o e))
        · exact s1.free np
        · exact s1.free hDn
        · rw [upd_ne hpc]
          exact s2 _ _ (sp _ _ hc)
        · rw [upd_ne hpD.symm, hD2, List.map_map]
          rfl
        · intro z hz
          obtain ⟨y, _, rfl⟩ := List.mem_map.mp hz
          exact left_nonneg y
end
end Rs


set_option Elab.async false
set_option linter.all false
set_option maxRecDepth 100000
set_option maxHeartbeats 400000
namespace Rs
open PySem L2 Bs Fq
theorem Kp.lst {K : PySem.W.Frag} {H H' : Hp} {p c l b : Addr} {n : Nat} {t : Int} {xs : List V} (k : Kp p l H H') (S : Sta H p c l n t) (h : SqL K H b xs) (nb : b ≠ l) : SqL K H' b xs := by
  rcases h with (s | ⟨o, s⟩) | s
  · exact .inl (.inl (k b _ s (ne_of s S.d (by intro z; cases z)) nb))
  · exact .inl (.inr ⟨o, k b _ s (ne_of s S.d (by intro z; cases z)) nb⟩)
  · exact .inr s
end Rs


set_option linter.all false
namespace Fq
/-- worth a divided by b -/
def Vl (q : F) (a b : Int) : Prop := q.1 * b = a * q.2
theorem vl_red {a b : Int} (h : 0 < b) : Vl (red a b) a b := by
  have hg := gI_pos (a := a) (b := b) (by omega)
  obtain ⟨x, hx⟩ := gI_dvd_l a b
  obtain ⟨y, hy⟩ := gI_dvd_r a b
  have e1 : a / gI a b = x := Int.ediv_eq_of_eq_mul_right (by omega) hx
  have e2 : b / gI a b = y := Int.ediv_eq_of_eq_mul_right (by omega) hy
  show (a / gI a b) * b = a * (b / gI a b)
  rw [e1, e2]
  generalize gI a b = g at *
  subst hx hy
  grind
theorem mul_cancel {a b m : Int} (hm : m ≠ 0) (h : a * m = b * m) : a = b := Int.eq_of_mul_eq_mul_right hm h
theorem vl_add {q r : F} {a b c d : Int} (hq : 0 < q.2) (hr : 0 < r.2) (h1 : Vl q a b) (h2 : Vl r c d) : Vl (add q r) (a * d + c * b) (b * d) := by
  have hm : 0 < q.2 * r.2 := Int.mul_pos hq hr
  have v := vl_red (a := q.1 * r.2 + r.1 * q.2) hm
  unfold Vl at *
  show (red _ _).1 * _ = _ * (red _ _).2
  generalize red (q.1 * r.2 + r.1 * q.2) (q.2 * r.2) = s at *
  refine mul_cancel (m := q.2 * r.2) (by omega) ?_
  generalize q.1 = q1 at *; generalize q.2 = q2 at *; generalize r.1 = r1 at *; generalize r.2 = r2 at *; generalize s.1 = s1 at *; generalize s.2 = s2 at *
  have e : s1 * (b * d) * (q2 * r2) = (s1 * (q2 * r2)) * (b * d) := by grind
  rw [e, v]
  have e2 : (q1 * r2 + r1 * q2) * s2 * (b * d) = s2 * ((q1 * b) * r2 * d + (r1 * d) * q2 * b) := by grind
  rw [e2, h1, h2]
  grind
theorem vl_mul {q r : F} {a b c d : Int} (hq : 0 < q.2) (hr : 0 < r.2) (h1 : Vl q a b) (h2 : Vl r c d) : Vl (mul q r) (a * c) (b * d) := by
  have hm : 0 < q.2 * r.2 := Int.mul_pos hq hr
  have v := vl_red (a := q.1 * r.1) hm
  unfold Vl at *
  show (red _ _).1 * _ = _ * (red _ _).2
  generalize red (q.1 * r.1) (q.2 * r.2) = s at *
  refine mul_cancel (m := q.2 * r.2) (by omega) ?_
  generalize q.1 = q1 at *; generalize q.2 = q2 at *; generalize r.1 = r1 at *; generalize r.2 = r2 at *; generalize s.1 = s1 at *; generalize s.2 = s2 at *
  have e : s1 * (b * d) * (q2 * r2) = (s1 * (q2 * r2)) * (b * d) := by grind
  rw [e, v]
  have e2 : (q1 * r1) * s2 * (b * d) = s2 * ((q1 * b) * (r1 * d)) := by grind
  rw [e2, h1, h2]
  grind
theorem vl_times {q : F} {a b : Int} (k : Int) (h : Vl q a b) : Vl q (a * k) (b * k) := by
  unfold Vl at *
  have : q.1 * (b * k) = (q.1 * b) * k := by grind
  rw [this, h]
  grind
theorem cop_dvd {x y z : Int} (h : Nat.gcd x.natAbs y.natAbs = 1) (d : y ∣ x * z) : y ∣ z := by
  rw [← Int.natAbs_dvd_natAbs] at *
  rw [Int.natAbs_mul] at d
  exact Nat.Coprime.dvd_of_dvd_mul_left (Nat.Coprime.symm h) d
theorem vl_dvd {q : F} {a b : Int} (o : Ok q) (h : Vl q a b) : q.2 ∣ b := cop_dvd o.2 ⟨a, by unfold Vl at h; rw [h, Int.mul_comm]⟩
theorem vl_uniq {q r : F} {a b : Int} (o : Ok q) (o' : Ok r) (hb : b ≠ 0) (h1 : Vl q a b) (h2 : Vl r a b) : q = r := by
  have e : q.1 * r.2 = r.1 * q.2 := by
    unfold Vl at h1 h2
    refine mul_cancel hb ?_
    have : q.1 * r.2 * b = (q.1 * b) * r.2 := by grind
    rw [this, h1]
    have : r.1 * q.2 * b = (r.1 * b) * q.2 := by grind
    rw [this, h2]
    grind
  have d1 : q.2 ∣ r.2 := cop_dvd o.2 ⟨r.1, by rw [e, Int.mul_comm]⟩
  have d2 : r.2 ∣ q.2 := cop_dvd o'.2 ⟨q.1, by rw [← e, Int.mul_comm]⟩
  have p1 := o.1
  have p2 := o'.1
  have e2 : q.2 = r.2 := Int.le_antisymm (Int.le_of_dvd p2 d1) (Int.le_of_dvd p1 d2)
  have e1 : q.1 = r.1 := by
    rw [e2] at e
    exact mul_cancel (by omega) e
  exact Prod.ext e1 e2
theorem ok_add' {q r : F} (hq : 0 < q.2) (hr : 0 < r.2) : Ok (add q r) := red_ok (Int.mul_pos hq hr)
theorem ok_sub' {q r : F} (hq : 0 < q.2) (hr : 0 < r.2) : Ok (sub q r) := red_ok (Int.mul_pos hq hr)
theorem ok_mul' {q r : F} (hq : 0 < q.2) (hr : 0 < r.2) : Ok (mul q r) := red_ok (Int.mul_pos hq hr)
theorem ok01 : Ok (0, 1) := ⟨by decide, by decide⟩
theorem vl_self (q : F) : Vl q q.1 q.2 := rfl
theorem add_zero : add (0, 1) (0, 1) = (0, 1) := by decide
theorem sub_zero : sub (0, 1) (0, 1) = (0, 1) := by decide
/-- the bottom of a sum where both divide one number -/
theorem dvd_add {q r : F} {D : Int} (o : Ok q) (o' : Ok r) (hD : D ≠ 0) (h1 : q.2 ∣ D) (h2 : r.2 ∣ D) : (add q r).2 ∣ D := by
  obtain ⟨x, hx⟩ := h1
  obtain ⟨y, hy⟩ := h2
  have v1 : Vl q (q.1 * x) D := by unfold Vl; rw [hx]; grind
  have v2 : Vl r (r.1 * y) D := by unfold Vl; rw [hy]; grind
  have v := vl_add o.1 o'.1 v1 v2
  have v' : Vl (add q r) (q.1 * x + r.1 * y) D := by
    unfold Vl at *
    refine mul_cancel hD ?_
    rw [Int.mul_assoc, v]
    grind
  exact vl_dvd (ok_add' o.1 o'.1) v'
theorem dvd_mul {q r : F} {D E : Int} (o : Ok q) (o' : Ok r) (h1 : q.2 ∣ D) (h2 : r.2 ∣ E) : (mul q r).2 ∣ D * E :=
  Int.dvd_trans (vl_dvd (ok_mul' o.1 o'.1) (vl_mul o.1 o'.1 (vl_self q) (vl_self r))) (Int.mul_dvd_mul h1 h2)
end Fq
namespace Rs
open Fq
/-- what it has at a power -/
def co (qs : List F) (k : Nat) : F := qs.getD k (0, 1)
/-- noughts at the end left out -/
def trimN (qs : List F) : Nat → List F
  | 0 => []
  | n + 1 => if co qs n = (0, 1) then trimN qs n else qs.take (n + 1)
def trim (qs : List F) : List F := trimN qs qs.length
theorem trimN_is (qs : List F) : ∀ n, n ≤ qs.length → ∃ k, k ≤ n ∧ trimN qs n = qs.take k
  | 0, _ => ⟨0, Nat.le_refl _, by simp [trimN]⟩
  | n + 1, h => by
    unfold trimN
    split
    · obtain ⟨k, h1, h2⟩ := trimN_is qs n (by omega)
      exact ⟨k, by omega, h2⟩
    · exact ⟨n + 1, Nat.le_refl _, rfl⟩
theorem co_get {qs : List F} {k : Nat} {q : F} (h : qs[k]? = some q) : co qs k = q := by
  unfold co
  rw [List.getD_eq_getElem?_getD, h]
  rfl
theorem co_lt {qs : List F} {k : Nat} (h : k < qs.length) : qs[k]? = some (co qs k) := by
  rw [List.getElem?_eq_getElem h, co_get (List.getElem?_eq_getElem h)]
theorem co_ge {qs : List F} {k : Nat} (h : qs.length ≤ k) : co qs k = (0, 1) := by
  unfold co
  rw [List.getD_eq_getElem?_getD, List.getElem?_eq_none h]
  rfl
theorem co_mem {qs : List F} {k : Nat} (h : k < qs.length) : co qs k ∈ qs := List.mem_of_getElem? (co_lt h)
theorem co_all {P : F → Prop} {qs : List F} (h : ∀ q ∈ qs, P q) (h0 : P (0, 1)) (k : Nat) : P (co qs k) := by
  by_cases c : k < qs.length
  · exact h _ (co_mem c)
  · rw [co_ge (by omega)]
    exact h0
theorem co_snoc {ws : List F} {z : F} {k : Nat} (h : k < ws.length) : co (ws ++ [z]) k = co ws k := by
  refine co_get ?_
  rw [List.getElem?_append_left h, co_lt h]
theorem trimN_snoc {ws : List F} {z : F} : ∀ n, n ≤ ws.length → trimN (ws ++ [z]) n = trimN ws n
  | 0, _ => rfl
  | n + 1, h => by
    unfold trimN
    rw [co_snoc (by omega), trimN_snoc n (by omega), List.take_append_of_le_length h]
theorem trim_snoc (ws : List F) : trim (ws ++ [(0, 1)]) = trim ws := by
  unfold trim
  rw [List.length_append, List.length_singleton]
  show (if co (ws ++ [(0, 1)]) ws.length = (0, 1) then _ else _) = _
  rw [if_pos (co_get (by simp)), trimN_snoc _ (Nat.le_refl _)]
theorem trim_rep : ∀ n : Nat, trim (List.replicate n (0, 1)) = []
  | 0 => rfl
  | n + 1 => by
    rw [List.replicate_succ', trim_snoc, trim_rep n]
theorem trimN_nz (qs : List F) : ∀ n, n ≤ qs.length → trimN qs n = [] ∨ ∃ k, k < n ∧ trimN qs n = qs.take (k + 1) ∧ co qs k ≠ (0, 1)
  | 0, _ => .inl rfl
  | n + 1, h => by
    unfold trimN
    split
    · rcases trimN_nz qs n (by omega) with e | ⟨k, h1, h2, h3⟩
      · exact .inl e
      · exact .inr ⟨k, by omega, h2, h3⟩
    · rename_i c
      exact .inr ⟨n, by omega, rfl, c⟩
/-- a polynomial: the last one not nought -/
def Pn (qs : List F) : Prop := qs = [] ∨ co qs (qs.length - 1) ≠ (0, 1)
theorem trim_pn (qs : List F) : Pn (trim qs) := by
  rcases trimN_nz qs qs.length (Nat.le_refl _) with e | ⟨k, h1, h2, h3⟩
  · exact .inl e
  · right
    have l : (trim qs).length = k + 1 := by
      show (trimN _ _).length = _
      rw [h2, List.length_take]
      omega
    rw [l, Nat.add_sub_cancel]
    have : co (trim qs) k = co qs k := by
      refine co_get ?_
      show (trimN _ _)[k]? = _
      rw [h2, List.getElem?_take_of_lt (by omega), co_lt h1]
    rw [this]
    exact h3
theorem trim_mem {qs : List F} {q : F} (h : q ∈ trim qs) : q ∈ qs := by
  obtain ⟨k, _, e⟩ := trimN_is qs qs.length (Nat.le_refl _)
  rw [trim, e] at h
  exact List.mem_of_mem_take h
theorem trim_len (qs : List F) : (trim qs).length ≤ qs.length := by
  obtain ⟨k, h, e⟩ := trimN_is qs qs.length (Nat.le_refl _)
  rw [trim, e, List.length_take]
  omega
theorem trim_of {qs : List F} (h : Pn qs) : trim qs = qs := by
  unfold trim
  rcases h with rfl | h
  · rfl
  · cases e : qs.length with
    | zero => rw [List.eq_nil_of_length_eq_zero e]; rfl
    | succ n =>
      rw [e, Nat.add_sub_cancel] at h
      unfold trimN
      rw [if_neg h, ← e, List.take_length]
/-- power by power -/
def byPower (op : F → F → F) (qs rs : List F) (n : Nat) : List F := (List.range n).map fun k => op (co qs k) (co rs k)
theorem byPower_succ (op : F → F → F) (qs rs : List F) (n : Nat) : byPower op qs rs (n + 1) = byPower op qs rs n ++ [op (co qs n) (co rs n)] := by
  rw [byPower, List.range_succ, List.map_append]
  rfl
theorem byPower_len (op : F → F → F) (qs rs : List F) (n : Nat) : (byPower op qs rs n).length = n := by
  rw [byPower, List.length_map, List.length_range]
theorem byPower_trim {op : F → F → F} (h0 : op (0, 1) (0, 1) = (0, 1)) {qs rs : List F} {m : Nat} (h1 : qs.length ≤ m) (h2 : rs.length ≤ m) : ∀ d, trim (byPower op qs rs (m + d)) = trim (byPower op qs rs m)
  | 0 => rfl
  | d + 1 => by
    rw [← Nat.add_assoc, byPower_succ, co_ge (by omega), co_ge (by omega), h0, trim_snoc, byPower_trim h0 h1 h2 d]
theorem byPower_mem {op : F → F → F} {qs rs : List F} {n : Nat} {q : F} (h : q ∈ byPower op qs rs n) : ∃ k, q = op (co qs k) (co rs k) := by
  obtain ⟨k, _, rfl⟩ := List.mem_map.mp h
  exact ⟨k, rfl⟩
def stepJ (w : List F) (i : Nat) (p : F) (rs : List F) : Nat → List F
  | 0 => w
  | j + 1 => (stepJ w i p rs j).set (i + j) (add (co (stepJ w i p rs j) (i + j)) (mul p (co rs j)))
def stepI (w : List F) (qs rs : List F) : Nat → List F
  | 0 => w
  | i + 1 => stepJ (stepI w qs rs i) i (co qs i) rs rs.length
def prodN (n : Nat) (qs rs : List F) : List F := stepI (List.replicate n (0, 1)) qs rs qs.length
theorem stepJ_len (w : List F) (i : Nat) (p : F) (rs : List F) : ∀ j, (stepJ w i p rs j).length = w.length
  | 0 => rfl
  | j + 1 => by
    show (List.set _ _ _).length = _
    rw [List.length_set, stepJ_len w i p rs j]
theorem stepI_len (w qs rs : List F) : ∀ i, (stepI w qs rs i).length = w.length
  | 0 => rfl
  | i + 1 => by
    show (stepJ _ _ _ _ _).length = _
    rw [stepJ_len, stepI_len w qs rs i]
theorem prodN_len (n : Nat) (qs rs : List F) : (prodN n qs rs).length = n := by
  rw [prodN, stepI_len, List.length_replicate]
theorem stepJ_snoc (w : List F) (z : F) (i : Nat) (p : F) (rs : List F) : ∀ j, i + j ≤ w.length → stepJ (w ++ [z]) i p rs j = stepJ w i p rs j ++ [z]
  | 0, _ => rfl
  | j + 1, h => by
    have l := stepJ_len w i p rs j
    show (stepJ (w ++ [z]) i p rs j).set _ _ = (stepJ w i p rs j).set _ _ ++ [z]
    rw [stepJ_snoc w z i p rs j (by omega), co_snoc (by omega), List.set_append_left _ _ (by omega)]
theorem stepI_snoc (w : List F) (z : F) (qs rs : List F) : ∀ i, i + rs.length ≤ w.length + 1 → stepI (w ++ [z]) qs rs i = stepI w qs rs i ++ [z]
  | 0, _ => rfl
  | i + 1, h => by
    have l := stepI_len w qs rs i
    show stepJ (stepI (w ++ [z]) qs rs i) _ _ _ _ = stepJ (stepI w qs rs i) _ _ _ _ ++ [z]
    rw [stepI_snoc w z qs rs i (by omega), stepJ_snoc _ _ _ _ _ _ (by omega)]
def prodL (qs rs : List F) : List F := if qs = [] ∨ rs = [] then [] else prodN (qs.length + rs.length - 1) qs rs
theorem prodN_nil (n : Nat) (qs : List F) : prodN n qs [] = List.replicate n (0, 1) := by
  have : ∀ (w : List F) i, stepI w qs [] i = w := fun w i => by
    induction i with
    | zero => rfl
    | succ i h =>
      show stepJ (stepI w qs [] i) i (co qs i) [] 0 = _
      exact h
  exact this _ _
theorem prod_all (qs rs : List F) : trim (prodN (qs.length + rs.length) qs rs) = trim (prodL qs rs) := by
  unfold prodL
  split
  · rename_i c
    rcases c with rfl | rfl
    · show trim (List.replicate _ _) = _
      rw [trim_rep]
      rfl
    · rw [prodN_nil, trim_rep]
      rfl
  · rename_i c
    have h1 : qs ≠ [] := fun z => c (.inl z)
    have h2 : rs ≠ [] := fun z => c (.inr z)
    have l1 := List.length_pos_iff.mpr h1
    have l2 := List.length_pos_iff.mpr h2
    obtain ⟨n, e⟩ : ∃ n, qs.length + rs.length = n + 1 := ⟨qs.length + rs.length - 1, by omega⟩
    rw [e, Nat.add_sub_cancel]
    unfold prodN
    rw [List.replicate_succ', stepI_snoc _ _ _ _ _ (by rw [List.length_replicate]; omega), trim_snoc]
/-- small fractions -/
structure S3 (q : F) : Prop where
  ok : Fq.Ok q
  b : q.2 ≤ 3
  a : q.1.natAbs < 16
theorem S3.zero : S3 (0, 1) := ⟨Fq.ok01, by decide, by decide⟩
theorem S3.cases {q : F} (h : S3 q) : q.2 = 1 ∨ q.2 = 2 ∨ q.2 = 3 := by
  have := h.ok.1
  have := h.b
  omega
theorem S3.d6 {q : F} (h : S3 q) : q.2 ∣ 6 := by
  rcases h.cases with e | e | e <;> rw [e] <;> decide
/-- what a product's parts may be, behind so many steps -/
structure Pb (k : Nat) (q : F) : Prop where
  ok : Fq.Ok q
  b : q.2 ∣ 36
  a : q.1.natAbs < 2 ^ (20 + 8 * k)
theorem Pb.zero : Pb 0 (0, 1) := ⟨Fq.ok01, by decide, by decide⟩
theorem Pb.mono {k m : Nat} {q : F} (h : Pb k q) (e : k ≤ m) : Pb m q := ⟨h.ok, h.b, Nat.lt_of_lt_of_le h.a (Nat.pow_le_pow_right (by decide) (by omega))⟩
theorem Pb.le {k : Nat} {q : F} (h : Pb k q) : q.2 ≤ 36 := Int.le_of_dvd (by decide) h.b
theorem red_top {a b : Int} (h : 0 < b) : (red a b).1.natAbs ≤ a.natAbs := by
  have hg := gI_pos (a := a) (b := b) (by omega)
  show (a / gI a b).natAbs ≤ a.natAbs
  obtain ⟨x, hx⟩ := gI_dvd_l a b
  have e1 : a / gI a b = x := Int.ediv_eq_of_eq_mul_right (by omega) hx
  rw [e1]
  have q1 : a.natAbs = (gI a b).natAbs * x.natAbs := by
    have := congrArg Int.natAbs hx
    rwa [Int.natAbs_mul] at this
  rw [q1]
  exact Nat.le_mul_of_pos_left _ (by omega)
theorem mul_s3 {p r : F} (hp : S3 p) (hr : S3 r) : Fq.Ok (mul p r) ∧ (mul p r).2 ∣ 36 ∧ (mul p r).1.natAbs < 256 := by
  refine ⟨ok_mul' hp.ok.1 hr.ok.1, dvd_mul hp.ok hr.ok hp.d6 hr.d6, ?_⟩
  refine Nat.lt_of_le_of_lt (red_top (Int.mul_pos hp.ok.1 hr.ok.1)) ?_
  rw [Int.natAbs_mul]
  have := hp.a
  have := hr.a
  have : p.1.natAbs * r.1.natAbs ≤ 15 * 15 := Nat.mul_le_mul (by omega) (by omega)
  omega
theorem Pb.step {k : Nat} {q p r : F} (h : Pb k q) (hp : S3 p) (hr : S3 r) : Pb (k + 1) (add q (mul p r)) := by
  obtain ⟨o, d, l⟩ := mul_s3 hp hr
  refine ⟨ok_add' h.ok.1 o.1, dvd_add h.ok o (by decide) h.b d, ?_⟩
  refine Nat.lt_of_le_of_lt (red_top (Int.mul_pos h.ok.1 o.1)) ?_
  have b1 := h.le
  have b2 : (mul p r).2 ≤ 36 := Int.le_of_dvd (by decide) d
  have p1 := h.ok.1
  have p2 := o.1
  have := Int.natAbs_add_le (q.1 * (mul p r).2) ((mul p r).1 * q.2)
  rw [Int.natAbs_mul, Int.natAbs_mul] at this
  have m1 : q.1.natAbs * (mul p r).2.natAbs ≤ q.1.natAbs * 36 := Nat.mul_le_mul (Nat.le_refl _) (by omega)
  have m2 : (mul p r).1.natAbs * q.2.natAbs ≤ 255 * 36 := Nat.mul_le_mul (by omega) (by omega)
  have e : 2 ^ (20 + 8 * (k + 1)) = 2 ^ (20 + 8 * k) * 256 := by
    rw [show 20 + 8 * (k + 1) = (20 + 8 * k) + 8 by omega, Nat.pow_add]
  have := h.a
  have : 2 ^ 20 ≤ 2 ^ (20 + 8 * k) := Nat.pow_le_pow_right (by decide) (by omega)
  have : (2 : Nat) ^ 20 = 1048576 := by decide
  rw [e]
  omega
theorem stepJ_pb {k i : Nat} {w : List F} {p : F} {rs : List F} (hw : ∀ q ∈ w, Pb k q) (hp : S3 p) (hr : ∀ r ∈ rs, S3 r) : ∀ j, i + j ≤ w.length → ∀ q ∈ stepJ w i p rs j, Pb (k + j) q
  | 0, _ => hw
  | j + 1, h => fun q hq => by
    have ih := stepJ_pb (i := i) hw hp hr j (by omega)
    have l := stepJ_len w i p rs j
    rcases List.mem_or_eq_of_mem_set hq with m | rfl
    · exact (ih q m).mono (by omega)
    · exact (ih _ (co_mem (by omega))).step hp (co_all hr S3.zero j)
theorem stepI_pb {k : Nat} {w qs rs : List F} (hw : ∀ q ∈ w, Pb k q) (hp : ∀ q ∈ qs, S3 q) (hr : ∀ r ∈ rs, S3 r) : ∀ i, i + rs.length ≤ w.length + 1 → ∀ q ∈ stepI w qs rs i, Pb (k + i * rs.length) q
  | 0, _ => by
    rw [Nat.zero_mul]
    exact hw
  | i + 1, h => fun q hq => by
    have ih := stepI_pb (qs := qs) hw hp hr i (by omega)
    have l := stepI_len w qs rs i
    have := stepJ_pb (i := i) ih (co_all hp S3.zero i) hr rs.length (by omega) q hq
    rw [Nat.succ_mul, ← Nat.add_assoc]
    exact this
theorem rep_pb (n : Nat) : ∀ q ∈ List.replicate n ((0, 1) : F), Pb 0 q := fun q h => by
  rw [(List.mem_replicate.mp h).2]
  exact Pb.zero
def hor (m : F) : List F → F
  | [] => (0, 1)
  | c :: cs => add (mul (hor m cs) m) c
def wat (m : F) : List Int → Int × Int
  | [] => (0, 1)
  | v :: vs => ((wat m vs).1 * m.1 + v * (wat m vs).2, (wat m vs).2 * m.2)
/-- each is g times the integer, divided by B -/
inductive HV (g B : Int) : List F → List Int → Prop
  | nil : HV g B [] []
  | cons {q : F} {qs : List F} {v : Int} {vs : List Int} : Fq.Ok q → Vl q (g * v) B → HV g B qs vs → HV g B (q :: qs) (v :: vs)
theorem HV.len {g B : Int} {qs : List F} {vs : List Int} (h : HV g B qs vs) : qs.length = vs.length := by
  induction h with
  | nil => rfl
  | cons _ _ _ ih => rw [List.length_cons, List.length_cons, ih]
theorem wat_pow (m : F) : ∀ vs : List Int, (wat m vs).2 = m.2 ^ vs.length
  | [] => by rw [List.length_nil, Int.pow_zero]; rfl
  | v :: vs => by
    show (wat m vs).2 * m.2 = _
    rw [wat_pow m vs, List.length_cons, Int.pow_succ]
theorem hor_vl {m : F} (hm : 0 < m.2) {g B : Int} (hB : 0 < B) {qs : List F} {vs : List Int} (h : HV g B qs vs) :
    Fq.Ok (hor m qs) ∧ Vl (hor m qs) (g * (wat m vs).1 * m.2) (B * (wat m vs).2) ∧ 0 < (wat m vs).2 := by
  induction h with
  | nil => exact ⟨ok01, by show (0 : Int) * _ = g * 0 * m.2 * 1; rw [Int.mul_zero, Int.zero_mul, Int.zero_mul, Int.zero_mul], Int.zero_lt_one⟩
  | cons o hv h ih =>
    rename_i q qs v vs
    obtain ⟨i1, i2, i3⟩ := ih
    have om := ok_mul' i1.1 hm
    refine ⟨ok_add' om.1 o.1, ?_, Int.mul_pos i3 hm⟩
    have t := vl_add om.1 o.1 (vl_mul i1.1 hm i2 (vl_self m)) hv
    show Vl (add (mul (hor m qs) m) q) (g * ((wat m vs).1 * m.1 + v * (wat m vs).2) * m.2) (B * ((wat m vs).2 * m.2))
    generalize add (mul (hor m qs) m) q = s at *
    generalize (wat m vs).1 = W at *
    generalize (wat m vs).2 = b at *
    unfold Vl at *
    refine mul_cancel (m := B) (by omega) ?_
    have e : s.1 * (B * (b * m.2)) * B = s.1 * (B * b * m.2 * B) := by grind
    rw [e, t]
    grind
theorem worth_eq {m : F} (hm : 0 < m.2) {g B : Int} (hB : 0 < B) {qs : List F} {vs : List Int} (h : HV g B qs vs) :
    mul (red g B) (red (wat m vs).1 (m.2 ^ (vs.length - 1))) = hor m qs := by
  obtain ⟨i1, i2, i3⟩ := hor_vl hm hB h
  have hp : 0 < m.2 ^ (vs.length - 1) := Int.pow_pos hm
  have o1 := red_ok (a := g) hB
  have o2 := red_ok (a := (wat m vs).1) hp
  have t := vl_mul o1.1 o2.1 (vl_red hB) (vl_red hp)
  refine vl_uniq (ok_mul' o1.1 o2.1) i1 (Int.ne_of_gt (Int.mul_pos hB i3)) ?_ i2
  cases vs with
  | nil =>
    have e : (wat m []).1 = 0 := rfl
    have e2 : (wat m []).2 = 1 := rfl
    rw [e] at t ⊢
    rw [e2]
    have e3 : m.2 ^ (([] : List Int).length - 1) = 1 := by rw [List.length_nil, Nat.zero_sub, Int.pow_zero]
    rw [e3] at t ⊢
    rw [Int.mul_zero] at t ⊢
    rw [Int.zero_mul]
    exact t
  | cons v vs =>
    have e : m.2 ^ ((v :: vs).length - 1) * m.2 = (wat m (v :: vs)).2 := by
      rw [wat_pow, List.length_cons, Nat.add_sub_cancel, Int.pow_succ]
    have t2 := vl_times m.2 t
    rw [Int.mul_assoc B, e] at t2
    exact t2
end Rs
namespace Rs
open Fq
theorem hv6 : ∀ {qs : List F}, (∀ q ∈ qs, S3 q) → HV 1 6 qs (qs.map fun q => q.1 * (6 / q.2))
  | [], _ => .nil
  | q :: qs, h => by
    have s := h q List.mem_cons_self
    refine .cons s.ok ?_ (hv6 fun r hr => h r (List.mem_cons_of_mem _ hr))
    show q.1 * 6 = 1 * (q.1 * (6 / q.2)) * q.2
    rw [Int.one_mul, Int.mul_assoc, Int.ediv_mul_cancel s.d6]
theorem pow3 {m : F} (hm : S3 m) (k : Nat) : 0 < m.2 ^ k ∧ m.2 ^ k ≤ 3 ^ k := by
  refine ⟨Int.pow_pos hm.ok.1, ?_⟩
  induction k with
  | zero => simp
  | succ k ih =>
    have := hm.ok.1
    have := hm.b
    rw [Int.pow_succ, Int.pow_succ]
    exact Int.mul_le_mul ih hm.b (by omega) (Int.le_of_lt (Int.pow_pos (by decide)))
theorem pow3_le {k : Nat} (h : k ≤ 6) : (3 : Int) ^ k ≤ 729 := by
  have : ∀ k, k < 7 → (3 : Int) ^ k ≤ 729 := by decide
  exact this k (by omega)
theorem hor_ok {m : F} (hm : S3 m) {qs : List F} (h : ∀ q ∈ qs, S3 q) : Fq.Ok (hor m qs) ∧ (hor m qs).2 ≤ 6 * 3 ^ qs.length := by
  obtain ⟨o, v, p⟩ := hor_vl hm.ok.1 (g := 1) (B := 6) (by decide) (hv6 h)
  refine ⟨o, ?_⟩
  have d := vl_dvd o v
  have hp : 0 < 6 * (wat m (qs.map fun q => q.1 * (6 / q.2))).2 := Int.mul_pos (by decide) p
  have l := Int.le_of_dvd hp d
  rw [wat_pow, List.length_map] at l
  have := (pow3 hm qs.length).2
  omega
theorem hor_num {m : F} (hm : S3 m) : ∀ {qs : List F}, (∀ q ∈ qs, S3 q) → qs.length ≤ 6 → (hor m qs).1.natAbs < 2 ^ (20 + 12 * qs.length)
  | [], _, _ => by
    show (0 : Nat) < _
    exact Nat.pow_pos (by decide)
  | c :: cs, h, l => by
    have hc := h c List.mem_cons_self
    have hs : ∀ q ∈ cs, S3 q := fun r hr => h r (List.mem_cons_of_mem _ hr)
    simp only [List.length_cons] at l ⊢
    have ih := hor_num hm hs (by omega)
    obtain ⟨o, d⟩ := hor_ok hm hs
    show (add (mul (hor m cs) m) c).1.natAbs < _
    generalize hor m cs = q at *
    have mp := Int.mul_pos o.1 hm.ok.1
    have om := ok_mul' o.1 hm.ok.1
    have t1 : (mul q m).1.natAbs ≤ q.1.natAbs * 16 := by
      refine Nat.le_trans (red_top mp) ?_
      rw [Int.natAbs_mul]
      exact Nat.mul_le_mul (Nat.le_refl _) (by have := hm.a; omega)
    have t2 : (mul q m).2 ≤ q.2 * m.2 := Int.le_of_dvd mp (vl_dvd om (vl_mul o.1 hm.ok.1 (vl_self q) (vl_self m)))
    have t3 : q.2 * m.2 ≤ 4374 * 3 := by
      have := pow3_le (k := cs.length) (by omega)
      exact Int.mul_le_mul (by omega) hm.b (by have := hm.ok.1; omega) (by decide)
    refine Nat.lt_of_le_of_lt (red_top (Int.mul_pos om.1 hc.ok.1)) ?_
    have p1 := om.1
    have p2 := hc.ok.1
    have b2 := hc.b
    have := Int.natAbs_add_le ((mul q m).1 * c.2) (c.1 * (mul q m).2)
    rw [Int.natAbs_mul, Int.natAbs_mul] at this
    have m1 : (mul q m).1.natAbs * c.2.natAbs ≤ (q.1.natAbs * 16) * 3 := Nat.mul_le_mul t1 (by omega)
    have m2 : c.1.natAbs * (mul q m).2.natAbs ≤ 15 * 13122 := Nat.mul_le_mul (by have := hc.a; omega) (by omega)
    have e : 2 ^ (20 + 12 * (cs.length + 1)) = 2 ^ (20 + 12 * cs.length) * 4096 := by
      rw [show 20 + 12 * (cs.length + 1) = (20 + 12 * cs.length) + 12 by omega, Nat.pow_add]
    have : 2 ^ 20 ≤ 2 ^ (20 + 12 * cs.length) := Nat.pow_le_pow_right (by decide) (by omega)
    have : (2 : Nat) ^ 20 = 1048576 := by decide
    rw [e]
    omega
def botN (qs : List F) : Nat → Int
  | 0 => 1
  | i + 1 => botN qs i / gI (botN qs i) (co qs i).2 * (co qs i).2
def B6 (b : Int) : Prop := b = 1 ∨ b = 2 ∨ b = 3 ∨ b = 6
theorem bot_step {b d : Int} (hb : B6 b) (hd : d = 1 ∨ d = 2 ∨ d = 3) : B6 (b / gI b d * d) ∧ b ∣ b / gI b d * d ∧ d ∣ b / gI b d * d := by
  unfold B6
  rcases hb with rfl | rfl | rfl | rfl <;> rcases hd with rfl | rfl | rfl <;> decide
theorem botN_ok {qs : List F} (h : ∀ q ∈ qs, S3 q) : ∀ i, B6 (botN qs i) ∧ ∀ k, k < i → (co qs k).2 ∣ botN qs i
  | 0 => ⟨.inl rfl, fun k hk => absurd hk (by omega)⟩
  | i + 1 => by
    obtain ⟨a, b⟩ := botN_ok h i
    obtain ⟨c, d, e⟩ := bot_step a (co_all h S3.zero i).cases
    refine ⟨c, fun k hk => ?_⟩
    by_cases z : k = i
    · rw [z]
      exact e
    · exact Int.dvd_trans (b k (by omega)) d
theorem B6.pos {b : Int} (h : B6 b) : 0 < b ∧ b ≤ 6 := by unfold B6 at h; omega
def wholeL (B : Int) (qs : List F) : List Int := qs.map fun q => q.1 * (B / q.2)
def cmN (ws : List Int) : Nat → Int
  | 0 => 0
  | i + 1 => gI (cmN ws i) (ws.getD i 0)
theorem gI_lt {a b : Int} {n : Nat} (h1 : a.natAbs < n) (h2 : b.natAbs < n) : 0 ≤ gI a b ∧ (gI a b).natAbs < n := by
  unfold gI
  refine ⟨Int.natCast_nonneg _, ?_⟩
  rw [Int.natAbs_natCast]
  by_cases z : b.natAbs = 0
  · rw [z, Nat.gcd_zero_right]
    exact h1
  · exact Nat.lt_of_le_of_lt (Nat.gcd_le_right _ (by omega)) h2
theorem getD_mem {ws : List Int} {P : Int → Prop} (h : ∀ w ∈ ws, P w) (h0 : P 0) (k : Nat) : P (ws.getD k 0) := by
  rw [List.getD_eq_getElem?_getD]
  cases e : ws[k]? with
  | none => exact h0
  | some w => exact h w (List.mem_of_getElem? e)
theorem cmN_ok {ws : List Int} (h : ∀ w ∈ ws, w.natAbs < 128) : ∀ i, 0 ≤ cmN ws i ∧ (cmN ws i).natAbs < 128 ∧ ∀ k, k < i → cmN ws i ∣ ws.getD k 0
  | 0 => ⟨Int.le_refl _, (by show (0 : Int).natAbs < 128; decide), fun k hk => absurd hk (by omega)⟩
  | i + 1 => by
    obtain ⟨a, b, c⟩ := cmN_ok h i
    obtain ⟨d, e⟩ := gI_lt b (getD_mem (P := fun w => w.natAbs < 128) h (by decide) i)
    refine ⟨d, e, fun k hk => ?_⟩
    by_cases z : k = i
    · rw [z]
      exact gI_dvd_r _ _
    · exact Int.dvd_trans (gI_dvd_l _ _) (c k (by omega))
def gg (c : Int) : Int := if (1 : Int) > c then 1 else c
theorem gg_ok {ws : List Int} (h : ∀ w ∈ ws, w.natAbs < 128) : 0 < gg (cmN ws ws.length) ∧ (gg (cmN ws ws.length)).natAbs < 128 ∧ ∀ w ∈ ws, gg (cmN ws ws.length) ∣ w := by
  obtain ⟨a, b, c⟩ := cmN_ok h ws.length
  unfold gg
  split
  · exact ⟨by decide, by decide, fun w _ => Int.one_dvd w⟩
  · refine ⟨by omega, b, fun w hw => ?_⟩
    obtain ⟨k, hk, e⟩ := List.getElem_of_mem hw
    have := c k hk
    rw [List.getD_eq_getElem?_getD, List.getElem?_eq_getElem hk] at this
    rw [← e]
    exact this
theorem whole_lt {B : Int} {qs : List F} (hB : B6 B) (h : ∀ q ∈ qs, S3 q) (hd : ∀ q ∈ qs, q.2 ∣ B) : ∀ w ∈ wholeL B qs, w.natAbs < 128 := by
  intro w hw
  obtain ⟨q, hq, rfl⟩ := List.mem_map.mp hw
  have s := h q hq
  have l : B / q.2 ≤ 6 ∧ 0 ≤ B / q.2 := by
    have := hB.pos
    rcases s.cases with e | e | e <;> rw [e] <;> omega
  rw [Int.natAbs_mul]
  have := s.a
  have : q.1.natAbs * (B / q.2).natAbs ≤ 15 * 6 := Nat.mul_le_mul (by omega) (by omega)
  omega
theorem hv_of {B g : Int} : ∀ {qs : List F}, (∀ q ∈ qs, S3 q) → (∀ q ∈ qs, q.2 ∣ B) → (∀ w ∈ wholeL B qs, g ∣ w) → HV g B qs ((wholeL B qs).map (· / g))
  | [], _, _, _ => .nil
  | q :: qs, h, hd, hg => by
    refine .cons (h q List.mem_cons_self).ok ?_ (hv_of (fun r hr => h r (List.mem_cons_of_mem _ hr)) (fun r hr => hd r (List.mem_cons_of_mem _ hr)) (fun w hw => hg w (List.mem_cons_of_mem _ hw)))
    show q.1 * B = g * (q.1 * (B / q.2) / g) * q.2
    rw [Int.mul_ediv_cancel' (hg _ List.mem_cons_self), Int.mul_assoc, Int.ediv_mul_cancel (hd q List.mem_cons_self)]
theorem wat_num {m : F} (hm : S3 m) : ∀ {vs : List Int}, (∀ v ∈ vs, v.natAbs < 128) → vs.length ≤ 6 → (wat m vs).1.natAbs < 2 ^ (20 + 8 * vs.length) ∧ 0 < (wat m vs).2 ∧ (wat m vs).2 ≤ 729
  | [], _, _ => ⟨by show (0 : Nat) < _; exact Nat.pow_pos (by decide), Int.zero_lt_one, (by show (1 : Int) ≤ 729; decide)⟩
  | v :: vs, h, l => by
    have hv := h v List.mem_cons_self
    simp only [List.length_cons] at l
    obtain ⟨i1, i2, i3⟩ := wat_num hm (vs := vs) (fun r hr => h r (List.mem_cons_of_mem _ hr)) (by omega)
    refine ⟨?_, ?_, ?_⟩
    · show ((wat m vs).1 * m.1 + v * (wat m vs).2).natAbs < 2 ^ (20 + 8 * (vs.length + 1))
      have := Int.natAbs_add_le ((wat m vs).1 * m.1) (v * (wat m vs).2)
      rw [Int.natAbs_mul, Int.natAbs_mul] at this
      have m1 : (wat m vs).1.natAbs * m.1.natAbs ≤ (wat m vs).1.natAbs * 16 := Nat.mul_le_mul (Nat.le_refl _) (by have := hm.a; omega)
      have m2 : v.natAbs * (wat m vs).2.natAbs ≤ 127 * 729 := Nat.mul_le_mul (by omega) (by omega)
      have e : 2 ^ (20 + 8 * (vs.length + 1)) = 2 ^ (20 + 8 * vs.length) * 256 := by
        rw [show 20 + 8 * (vs.length + 1) = (20 + 8 * vs.length) + 8 by omega, Nat.pow_add]
      have : 2 ^ 20 ≤ 2 ^ (20 + 8 * vs.length) := Nat.pow_le_pow_right (by decide) (by omega)
      have : (2 : Nat) ^ 20 = 1048576 := by decide
      rw [e]
      omega
    · rw [wat_pow]
      exact (pow3 hm _).1
    · rw [wat_pow]
      have := (pow3 hm (v :: vs).length).2
      have := pow3_le (k := (v :: vs).length) (by rw [List.length_cons]; omega)
      omega
theorem div_lt {ws : List Int} {g : Int} (h : ∀ w ∈ ws, w.natAbs < 128) : ∀ v ∈ ws.map (· / g), v.natAbs < 128 := by
  intro v hv
  obtain ⟨w, hw, rfl⟩ := List.mem_map.mp hv
  exact Nat.lt_of_le_of_lt (Int.natAbs_ediv_le_natAbs w g) (h w hw)
end Rs


set_option Elab.async false
set_option linter.all false
set_option maxRecDepth 100000
set_option maxHeartbeats 2000000
namespace TA2
open PySem PySem.Spec PyProof.Rows L2
/-- what the suite's ends are where the name in slot i goes behind it -/
def less (D : Ends) (i : Nat) : Ends where
  nx := fun τ G => D.nx (τ.set i none) G
  rt := D.rt
  bk := fun τ G => D.bk (τ.set i none) G
  ct := fun τ G => D.ct (τ.set i none) G
end TA2


set_option Elab.async false
set_option linter.all false
set_option maxRecDepth 100000
set_option maxHeartbeats 2000000
namespace LmD
open PySem PySem.Spec PyProof.Rows L2 LamX PySem.W
/-- the parameters: one, x, with the default i -/
def one (x : Str) (i : Int) (p1 p2 : Pos) (j : Nat) : Arguments :=
  { posonlyargs := [], args := [{ arg := x, annotation := none, pos := p1 }], vararg := none, kwonlyargs := [], kw_defaults := [], kwarg := none, defaults := [.Constant (.int i) j p2] }
end LmD


set_option Elab.async false
set_option linter.all false
set_option maxRecDepth 100000
set_option maxHeartbeats 400000
namespace Rs
open PySem L2 Bs Fq LamX
inductive FrAll (K : PySem.W.Frag) (H : Hp) : List V → List F → Prop
  | nil : FrAll K H [] []
  | cons {v : V} {vs : List V} {q : F} {qs : List F} : Fr K H v q → FrAll K H vs qs → FrAll K H (v :: vs) (q :: qs)
theorem FrAll.mono {K : PySem.W.Frag} {H H' : Hp} (e : Same H H') : ∀ {vs : List V} {qs : List F}, FrAll K H vs qs → FrAll K H' vs qs
  | _, _, .nil => .nil
  | _, _, .cons a b => .cons (a.mono e) (FrAll.mono e b)
theorem FrAll.len {K : PySem.W.Frag} {H : Hp} : ∀ {vs : List V} {qs : List F}, FrAll K H vs qs → vs.length = qs.length
  | _, _, .nil => rfl
  | _, _, .cons _ b => congrArg (· + 1) (FrAll.len b)
theorem FrAll.get {K : PySem.W.Frag} {H : Hp} : ∀ {vs : List V} {qs : List F} {i : Nat}, FrAll K H vs qs → i < qs.length → ∃ v q, vs[i]? = some v ∧ qs[i]? = some q ∧ Fr K H v q
  | _, _, 0, .cons a _, _ => ⟨_, _, rfl, rfl, a⟩
  | _, _, i + 1, .cons _ b, h => by
    obtain ⟨v, q, h1, h2, h3⟩ := FrAll.get (i := i) b (by simp only [List.length_cons] at h; omega)
    exact ⟨v, q, h1, h2, h3⟩
  | _, _, _, .nil, h => absurd h (by simp)
/-- a tuple of fractions -/
def Po (K : PySem.W.Frag) (H : Hp) (v : V) (qs : List F) : Prop := ∃ a xs, v = .ref a ∧ SqT K H a xs ∧ FrAll K H xs qs
abbrev sAt : Stmt := top 10
def spAt (K : PySem.W.Frag) : Sp := fun vs H Q _ => ∃ (v : V) (qs : List F) (k : Nat), vs = [v, .int k] ∧ Po K H v qs ∧ ∀ u, Fr K H u (co qs k) → Q u H
section
variable {P : Program} {w : World} {K : PySem.W.Frag} {mg : Str → Option Value} {base : Heap} {f : Addr} {fd : FuncData}
theorem scAt : FnScope ["poly", "number"] ["poly", "number"] (defScope sAt) := ⟨rfl, rfl, rfl, by decide +kernel, rfl, by decide +kernel, by decide +kernel⟩
theorem ok_at (F : Fun K "at_power" "at_power" sAt f fd) (T : Blt mg) (Z : Nou K mg) : FnOk P w K mg base CX0 1 f fd ["poly", "number"] (spAt K) := by
  refine F.ok scAt (fun vs H Q E h => ?_) (fun cdv A outer s H vs Q E hr h => ?_)
  · obtain ⟨v, qs, k, rfl, _⟩ := h
    rfl
  · obtain ⟨v, qs, k, rfl, ⟨a, xs, rfl, sx, fx⟩, kk⟩ := h
    obtain ⟨z, mz, sz⟩ := Z.ex
    refine ⟨_, pss_one (ps_ret (pe_ifExp (pt_cmpR op_lt (pv 1) (pe_callB call_len_seq (by rfl) T.len (by decide +kernel) (pa_cons (pv 0) pa_nil)) (nomark _)) (pe_ix ix_tup (pv 0) (pv 1) (fun _ _ => rfl)) (pe_glob (v := .ref z) (by rfl) mz rfl))), ?_⟩
    refine ⟨_, rfl, _, rfl, a, xs, rfl, Or.inr sx, _, _, rfl, rfl, _, rfl, ?_⟩
    refine ite2 (fun c => ?_) (fun c => ?_)
    · have c1 : (k : Int) < (xs.length : Int) := of_decide_eq_true c
      have c2 : k < qs.length := by
        have := fx.len
        omega
      obtain ⟨u, q, h1, h2, h3⟩ := fx.get c2
      have e : co qs k = q := by
        unfold co
        rw [List.getD_eq_getElem?_getD, h2]
        rfl
      exact ⟨_, rfl, _, rfl, a, xs, _, u, rfl, rfl, sx, atI_nat (j := k) h1, kk u (by rw [e]; exact h3)⟩
    · have c1 : ¬ (k : Int) < (xs.length : Int) := fun z => c (decide_eq_true z)
      have e : co qs k = (0, 1) := by
        unfold co
        rw [List.getD_eq_getElem?_getD, List.getElem?_eq_none (by have := fx.len; omega)]
        rfl
      exact kk _ (by rw [e]; exact ⟨z, rfl, sz H⟩)
end
end Rs


set_option Elab.async false
set_option linter.all false
set_option maxRecDepth 100000
set_option maxHeartbeats 400000
namespace Rs
open PySem L2 Bs Fq LamX
theorem FrAll.take {K : PySem.W.Frag} {H : Hp} : ∀ {vs : List V} {qs : List F} (n : Nat), FrAll K H vs qs → FrAll K H (vs.take n) (qs.take n)
  | _, _, 0, _ => .nil
  | _, _, n + 1, .nil => .nil
  | _, _, n + 1, .cons a b => .cons a (FrAll.take n b)
theorem eqv_nought {q : F} : PyData.eqv (dF q) (dF (0, 1)) = decide (q = (0, 1)) := by
  obtain ⟨a, b⟩ := q
  have e : PyData.eqv (dF (a, b)) (dF (0, 1)) = (decide (a = 0) && decide (b = 1)) := by
    simp only [dF, PyData.eqv, PyData.eqvAll, Bool.and_true]
    rfl
  rw [e]
  simp [Prod.ext_iff]
abbrev sTrim : Stmt := top 9
def spTrim (K : PySem.W.Frag) : Sp := fun vs H Q _ => ∃ (a : Addr) (xs : List V) (qs : List F), vs = [.ref a] ∧ (SqL K H a xs ∨ SqT K H a xs) ∧ FrAll K H xs qs ∧ xs.length ≤ 1000 ∧
  ∀ H' p ys, Same H H' → SqT K H' p ys → FrAll K H' ys (trim qs) → Q (.ref p) H'
section
variable {P : Program} {w : World} {K : PySem.W.Frag} {mg : Str → Option Value} {base : Heap} {f : Addr} {fd : FuncData}
theorem scTrim : FnScope ["some", "many"] ["some"] (defScope sTrim) := ⟨rfl, rfl, rfl, by decide +kernel, rfl, by decide +kernel, by decide +kernel⟩
theorem ok_trim (F : Fun K "trimmed" "trimmed" sTrim f fd) (T : Blt mg) (Z : Nou K mg) : FnOk P w K mg base CX0 1 f fd ["some"] (spTrim K) := by
  refine F.ok scTrim (fun vs H Q E h => ?_) (fun cdv A outer s H vs Q E hr h => ?_)
  · obtain ⟨a, xs, qs, rfl, _⟩ := h
    rfl
  · obtain ⟨a, xs, qs, rfl, sx, fx, l1, kk⟩ := h
    obtain ⟨z, mz, sz⟩ := Z.ex
    refine ⟨_, pss_cons (ps_set (i := 1) scTrim.nd rfl (Or.inl rfl) (pe_callB call_len_seq (by rfl) T.len (by decide +kernel) (pa_cons (pv 0) pa_nil)))
      (pss_cons (ps_while PassesOwn.never (PW.pt (pw_and (pt_cmpR op_gt (pv 1) pe_int (nomark _)) (pw_and1 (pt_cmpR (op_eqD hr.units) (pe_ix ix_seq (pv 0) (pe_op op_sub (pv 1) pe_int) (fun _ _ => rfl)) (pe_glob (v := .ref z) (by rfl) mz rfl) (nomark _)))))
        (pss_one (ps_aug (i := 1) scTrim.nd rfl (.inl rfl) pe_int ip_sub)))
      (pss_one (ps_ret (pe_callTy call_tuple_of (by rfl) T.tuple (by decide +kernel) (pa_cons (pe_slice (sl_list.or sl_tupA) (pv 0) po_none (po_some (pv 1))) pa_nil))))), ?_⟩
    have lx := fx.len
    refine ⟨_, rfl, a, xs, rfl, sx, fun m σ H1 => H1 = H ∧ m ≤ qs.length ∧ trim qs = trimN qs m ∧ σ = [some (V.ref a), some (V.int m)], ⟨qs.length, rfl, Nat.le_refl _, rfl, by rw [← lx]; rfl⟩, ?_⟩
    rintro m σ H1 ⟨rfl, hm, e, rfl⟩
    -- the end
    have fin : trim qs = qs.take m → tRet (tCB (fun xs H Q => ∃ p ys, xs = [V.ref p] ∧ ((SqL K H p ys ∧ ∀ l, H l = none → Q (.ref l) (upd H l (.tup ys))) ∨ (SqT K H p ys ∧ Q (.ref p) H))) (tCons (tSl (fun x lo hi H_1 Q => rSlL K x lo hi H_1 Q ∨ rSlA K x lo hi H_1 Q) (tVar 0) tNoPart (tPart (tVar 1))) tNil))
        { nx := fun _ H' => Q .non H', rt := Q } [some (V.ref a), some (V.int m)] H1 := by
      intro et
      have cut : cutV xs none (some (m : Int)) = xs.take m := by
        simp only [cutV, HT.sIx_none, HT.sIx_nat, List.drop_zero, Nat.sub_zero]
        rw [Nat.min_eq_left (by omega)]
      have ft : FrAll K H1 (xs.take m) (trim qs) := by
        rw [et]
        exact fx.take m
      rcases sx with sq | sq
      · refine ⟨_, rfl, _, rfl, _, rfl, Or.inl ⟨a, xs, rfl, sq, fun p hp => ⟨p, _, rfl, Or.inl ⟨SqL.of upd_same, fun l hl => ?_⟩⟩⟩⟩
        rw [cut]
        have s1 := same_new (o := .lst (xs.take m)) hp
        rw [cut] at hl
        have s2 := same_new (o := .tup (xs.take m)) hl
        exact kk _ l _ (s1.trans s2) (SqT.of upd_same) (ft.mono (s1.trans s2))
      · refine ⟨_, rfl, _, rfl, _, rfl, Or.inr ⟨a, xs, rfl, sq, fun hw => ⟨a, xs, rfl, Or.inr ⟨sq, ?_⟩⟩, fun _ p hp => ⟨p, _, rfl, Or.inr ⟨SqT.of upd_same, ?_⟩⟩⟩⟩
        · have h2 := hw.2
          rw [HT.sIx_nat, Nat.min_eq_left (by omega)] at h2
          refine kk _ a xs (fun _ _ z => z) sq ?_
          rw [et, List.take_of_length_le (by omega)]
          exact fx
        · rw [cut]
          have s1 := same_new (o := .tup (xs.take m)) hp
          exact kk _ p _ s1 (SqT.of upd_same) (ft.mono s1)
    cases m with
    | zero =>
      refine ⟨_, rfl, _, _, rfl, rfl, _, rfl, ?_⟩
      refine fin ?_
      rw [e]
      rfl
    | succ n =>
      have ei : ((n + 1 : Nat) : Int) - 1 = (n : Int) := by omega
      obtain ⟨u, q, h1, h2, h3⟩ := fx.get (i := n) (by omega)
      have ec : co qs n = q := by
        unfold co
        rw [List.getD_eq_getElem?_getD, h2]
        rfl
      have ha : atI xs (((n + 1 : Nat) : Int) - 1) = some u := by
        rw [ei]
        exact atI_nat (j := n) h1
      refine ⟨_, rfl, _, _, rfl, rfl, true, congrArg V.bl (decide_eq_true (by omega)), iteT ?_⟩
      have rest : rEqD K u (.ref z) H1 fun x H' => ∃ k, x = .bl k ∧ (if k = true then ∃ N : L2.St → Hp → Prop, (∀ σ' H', N σ' H' → ∃ m', m' < n + 1 ∧ (H' = H1 ∧ m' ≤ qs.length ∧ trim qs = trimN qs m' ∧ σ' = [some (V.ref a), some (V.int m')])) ∧
          N [some (V.ref a), some (V.int (((n + 1 : Nat) : Int) - 1))] H' else
          tRet (tCB (fun xs H Q => ∃ p ys, xs = [V.ref p] ∧ ((SqL K H p ys ∧ ∀ l, H l = none → Q (.ref l) (upd H l (.tup ys))) ∨ (SqT K H p ys ∧ Q (.ref p) H))) (tCons (tSl (fun x lo hi H_1 Q => rSlL K x lo hi H_1 Q ∨ rSlA K x lo hi H_1 Q) (tVar 0) tNoPart (tPart (tVar 1))) tNil))
            { nx := fun _ H' => Q .non H', rt := Q } [some (V.ref a), some (V.int ((n + 1 : Nat) : Int))] H') := by
        refine ⟨dF q, dF (0, 1), h3.dp, .tup (sz H1) (.cons (.int 0) (.cons (.int 1) .nil)), rfl, rfl, _, rfl, ?_⟩
        rw [eqv_nought]
        refine ite2 (fun c => ?_) (fun c => ?_)
        · have c1 : q = (0, 1) := of_decide_eq_true c
          refine ⟨fun σ' H' => H' = H1 ∧ n ≤ qs.length ∧ trim qs = trimN qs n ∧ σ' = [some (V.ref a), some (V.int n)], fun σ' H' h => ⟨n, by omega, h⟩, rfl, by omega, ?_, by rw [ei]⟩
          rw [e, trimN, if_pos (by rw [ec]; exact c1)]
        · have c1 : ¬ q = (0, 1) := fun w => c (decide_eq_true w)
          refine fin ?_
          rw [e, trimN, if_neg (by rw [ec]; exact c1)]
      obtain ⟨d1, d2, g1, g2, g3, g4, k, ek, g5⟩ := rest
      rcases sx with sq | sq
      · refine ⟨_, rfl, _, rfl, _, _, rfl, rfl, Or.inl ⟨a, xs, _, u, rfl, rfl, sq, ha, d1, d2, g1, g2, g3, g4, k, ek, ?_⟩⟩
        cases k with
        | true =>
          obtain ⟨N, n1, n2⟩ := g5
          exact ⟨N, n1, _, rfl, _, _, rfl, rfl, n2⟩
        | false => exact g5
      · refine ⟨_, rfl, _, rfl, _, _, rfl, rfl, Or.inr (Or.inl ⟨a, xs, _, u, rfl, rfl, sq, ha, d1, d2, g1, g2, g3, g4, k, ek, ?_⟩)⟩
        cases k with
        | true =>
          obtain ⟨N, n1, n2⟩ := g5
          exact ⟨N, n1, _, rfl, _, _, rfl, rfl, n2⟩
        | false => exact g5
end
end Rs


set_option Elab.async false
set_option linter.all false
set_option maxRecDepth 100000
set_option maxHeartbeats 400000
namespace Rs
open PySem L2 Bs Fq LamX
theorem Fr.off {K : PySem.W.Frag} {H : Hp} {v : V} {q : F} {D : Addr} {acc : List V} {o : HO} (h : Fr K H v q) (hD : H D = some (.lst acc)) : Fr K (upd H D o) v q := by
  obtain ⟨a, rfl, s⟩ := h
  refine ⟨a, rfl, ?_⟩
  rcases s with (s | ⟨o', s⟩) | s
  · exact .inl (.inl ((upd_ne (ne_of s hD (by intro z; cases z))).trans s))
  · exact .inl (.inr ⟨o', (upd_ne (ne_of s hD (by intro z; cases z))).trans s⟩)
  · exact .inr s
theorem FrAll.off {K : PySem.W.Frag} {H : Hp} {D : Addr} {acc : List V} {o : HO} (hD : H D = some (.lst acc)) : ∀ {vs : List V} {qs : List F}, FrAll K H vs qs → FrAll K (upd H D o) vs qs
  | _, _, .nil => .nil
  | _, _, .cons a b => .cons (a.off hD) (FrAll.off hD b)
theorem FrAll.snoc {K : PySem.W.Frag} {H : Hp} : ∀ {vs : List V} {qs : List F} {v : V} {q : F}, FrAll K H vs qs → Fr K H v q → FrAll K H (vs ++ [v]) (qs ++ [q])
  | _, _, _, _, .nil, h => .cons h .nil
  | _, _, _, _, .cons a b, h => .cons a (FrAll.snoc b h)
theorem Po.mono {K : PySem.W.Frag} {H H' : Hp} {v : V} {qs : List F} (e : Same H H') (h : Po K H v qs) : Po K H' v qs := by
  obtain ⟨a, xs, rfl, s, f⟩ := h
  exact ⟨a, xs, rfl, Bs.Same.t e s, f.mono e⟩
end Rs


set_option linter.all false
set_option maxRecDepth 100000
set_option maxHeartbeats 400000
namespace Fq
def val (q : F) : Rat := (q.1 : Rat) / (q.2 : Rat)
theorem ne0 {b : Int} (h : 0 < b) : (b : Rat) ≠ 0 := by exact_mod_cast (by omega : b ≠ 0)
theorem val_vl {q : F} {a b : Int} (hq : 0 < q.2) (hb : 0 < b) (h : Vl q a b) : val q = (a : Rat) / (b : Rat) := by
  have h1 := ne0 hq
  have h2 := ne0 hb
  unfold Vl at h
  have h3 : (q.1 : Rat) * (b : Rat) = (a : Rat) * (q.2 : Rat) := by
    rw [← Rat.intCast_mul, ← Rat.intCast_mul, h]
  unfold val
  grind
theorem val_add {q r : F} (hq : 0 < q.2) (hr : 0 < r.2) : val (add q r) = val q + val r := by
  have o := ok_add' hq hr
  have v := vl_add hq hr (vl_self q) (vl_self r)
  rw [val_vl o.1 (Int.mul_pos hq hr) v]
  have h1 := ne0 hq
  have h2 := ne0 hr
  unfold val
  rw [Rat.intCast_add, Rat.intCast_mul, Rat.intCast_mul, Rat.intCast_mul]
  grind
theorem val_red {a b : Int} (h : 0 < b) : val (red a b) = (a : Rat) / (b : Rat) := val_vl (red_ok h).1 h (vl_red h)
theorem val_sub {q r : F} (hq : 0 < q.2) (hr : 0 < r.2) : val (sub q r) = val q - val r := by
  show val (red _ _) = _
  rw [val_red (Int.mul_pos hq hr)]
  have h1 := ne0 hq
  have h2 := ne0 hr
  unfold val
  rw [Rat.intCast_sub, Rat.intCast_mul, Rat.intCast_mul, Rat.intCast_mul]
  grind
theorem val_mul {q r : F} (hq : 0 < q.2) (hr : 0 < r.2) : val (mul q r) = val q * val r := by
  show val (red _ _) = _
  rw [val_red (Int.mul_pos hq hr)]
  have h1 := ne0 hq
  have h2 := ne0 hr
  unfold val
  rw [Rat.intCast_mul, Rat.intCast_mul]
  grind
theorem val_zero : val (0, 1) = 0 := by
  unfold val
  simp
  grind
theorem val_one : val (1, 1) = 1 := by
  unfold val
  simp
  grind
theorem val_inj {q r : F} (o : Ok q) (o' : Ok r) (h : val q = val r) : q = r := by
  refine vl_uniq (a := r.1) (b := r.2) o o' (by have := o'.1; omega) ?_ rfl
  have h1 := ne0 o.1
  have h2 := ne0 o'.1
  have h3 : (q.1 : Rat) * (r.2 : Rat) = (r.1 : Rat) * (q.2 : Rat) := by
    unfold val at h
    grind
  show q.1 * r.2 = r.1 * q.2
  rw [← Rat.intCast_mul, ← Rat.intCast_mul] at h3
  exact_mod_cast h3
def sm (f : Nat → Rat) : Nat → Rat
  | 0 => 0
  | n + 1 => sm f n + f n
theorem sm_congr {f g : Nat → Rat} : ∀ {n : Nat}, (∀ i, i < n → f i = g i) → sm f n = sm g n
  | 0, _ => rfl
  | n + 1, h => by
    show sm f n + f n = sm g n + g n
    rw [sm_congr (fun i hi => h i (by omega)), h n (by omega)]
theorem sm_zero {f : Nat → Rat} {n : Nat} (h : ∀ i, i < n → f i = 0) : sm f n = 0 := by
  rw [sm_congr h]
  induction n with
  | zero => rfl
  | succ n ih =>
    show sm (fun _ => 0) n + 0 = 0
    rw [ih (fun i hi => h i (by omega))]
    grind
theorem sm_sub (f g : Nat → Rat) : ∀ n, sm (fun i => f i - g i) n = sm f n - sm g n
  | 0 => by show (0 : Rat) = 0 - 0; grind
  | n + 1 => by
    show sm _ n + _ = (sm f n + f n) - (sm g n + g n)
    rw [sm_sub f g n]
    grind
theorem sm_mul (c : Rat) (f : Nat → Rat) : ∀ n, sm (fun i => c * f i) n = c * sm f n
  | 0 => by show (0 : Rat) = c * 0; grind
  | n + 1 => by
    show sm _ n + _ = c * (sm f n + f n)
    rw [sm_mul c f n]
    grind
theorem sm_left (f : Nat → Rat) : ∀ n, sm f (n + 1) = f 0 + sm (fun i => f (i + 1)) n
  | 0 => by show (0 : Rat) + f 0 = f 0 + 0; grind
  | n + 1 => by
    show sm f (n + 1) + f (n + 1) = f 0 + (sm _ n + f (n + 1))
    rw [sm_left f n]
    grind
theorem sm_more {f : Nat → Rat} {n : Nat} (h : ∀ i, n ≤ i → f i = 0) : ∀ d, sm f (n + d) = sm f n
  | 0 => rfl
  | d + 1 => by
    show sm f (n + d) + f (n + d) = _
    rw [sm_more h d, h _ (by omega)]
    grind
def J (A B : Nat → Rat) (s : Nat → Rat) : Nat → Rat := fun h => (if h = 0 then 0 else s (h - 1)) + A h * s h + B h * s (h + 1)
def Jn (A B : Nat → Rat) : Nat → (Nat → Rat) → Nat → Rat
  | 0, u => u
  | n + 1, u => J A B (Jn A B n u)
theorem Jn_in (A B : Nat → Rat) (u : Nat → Rat) : ∀ n, Jn A B n (J A B u) = Jn A B (n + 1) u
  | 0 => rfl
  | n + 1 => by
    show J A B (Jn A B n (J A B u)) = J A B (Jn A B (n + 1) u)
    rw [Jn_in A B u n]
theorem Jn_add (A B : Nat → Rat) (u : Nat → Rat) (j : Nat) : ∀ i, Jn A B (i + j) u = Jn A B i (Jn A B j u)
  | 0 => by rw [Nat.zero_add]; rfl
  | i + 1 => by
    rw [show i + 1 + j = (i + j) + 1 by omega]
    show J A B (Jn A B (i + j) u) = J A B (Jn A B i (Jn A B j u))
    rw [Jn_add A B u j i]
theorem J_sm (A B : Nat → Rat) (c : Nat → Rat) (g : Nat → Nat → Rat) : ∀ n, J A B (fun h => sm (fun i => c i * g i h) n) = fun h => sm (fun i => c i * J A B (g i) h) n
  | 0 => by
    funext h
    show (if h = 0 then (0 : Rat) else 0) + A h * 0 + B h * 0 = 0
    split <;> grind
  | n + 1 => by
    funext h
    have ih := congrFun (J_sm A B c g n) h
    show _ = sm _ n + c n * J A B (g n) h
    rw [← ih]
    unfold J
    show (if h = 0 then (0 : Rat) else sm _ n + _) + A h * (sm _ n + _) + B h * (sm _ n + _) = _
    split <;> grind
theorem Jn_sm (A B : Nat → Rat) (c : Nat → Rat) (g : Nat → Nat → Rat) (n : Nat) : ∀ m, Jn A B m (fun h => sm (fun i => c i * g i h) n) = fun h => sm (fun i => c i * Jn A B m (g i) h) n
  | 0 => rfl
  | m + 1 => by
    show J A B (Jn A B m _) = _
    rw [Jn_sm A B c g n m, J_sm]
    rfl
/-- the standard functions -/
def ek (k : Nat) : Nat → Rat := fun h => if h = k then 1 else 0
theorem J_ek (A B : Nat → Rat) (k : Nat) : J A B (ek k) = fun h => ek (k + 1) h + A k * ek k h + (if k = 0 then 0 else B (k - 1) * ek (k - 1) h) := by
  funext h
  unfold J ek
  by_cases h0 : h = 0
  · subst h0
    by_cases k0 : k = 0
    · subst k0
      simp
    · by_cases k1 : k = 1
      · subst k1
        simp
      · simp
        have : ¬ (0 = k) := by omega
        have : ¬ (0 = k - 1) := by omega
        have : ¬ (1 = k) := by omega
        grind
  · by_cases e1 : h = k + 1
    · subst e1
      simp
      have : ¬ (k + 1 = k - 1) := by omega
      grind
    · by_cases e2 : h = k
      · subst e2
        have : ¬ (h - 1 = h) := by omega
        have : ¬ (h = h - 1) := by omega
        simp
        grind
      · by_cases e3 : h + 1 = k
        · subst e3
          simp
          grind
        · have : ¬ (h - 1 = k) := by omega
          have : ¬ (h = k - 1) := by omega
          grind
def pc (A B : Nat → Rat) : Nat → Nat → Rat
  | 0 => fun i => if i = 0 then 1 else 0
  | 1 => fun i => (if i = 0 then 0 else if i = 1 then 1 else 0) - A 0 * (if i = 0 then 1 else 0)
  | k + 2 => fun i => (if i = 0 then 0 else pc A B (k + 1) (i - 1)) - A (k + 1) * pc A B (k + 1) i - B k * pc A B k i
theorem pc_hi (A B : Nat → Rat) : ∀ k i, k < i → pc A B k i = 0
  | 0, i, h => by
    show (if i = 0 then (1 : Rat) else 0) = 0
    rw [if_neg (by omega)]
  | 1, i, h => by
    show (if i = 0 then (0 : Rat) else if i = 1 then 1 else 0) - A 0 * (if i = 0 then 1 else 0) = 0
    rw [if_neg (by omega), if_neg (by omega), if_neg (by omega)]
    grind
  | k + 2, i, h => by
    show (if i = 0 then (0 : Rat) else pc A B (k + 1) (i - 1)) - A (k + 1) * pc A B (k + 1) i - B k * pc A B k i = 0
    rw [if_neg (by omega), pc_hi A B (k + 1) _ (by omega), pc_hi A B (k + 1) i (by omega), pc_hi A B k i (by omega)]
    grind
/-- a polynomial at J, on u -/
def ev (A B : Nat → Rat) (c : Nat → Rat) (n : Nat) (u : Nat → Rat) : Nat → Rat := fun h => sm (fun i => c i * Jn A B i u h) n
theorem ev_more {A B c : Nat → Rat} {n : Nat} (h : ∀ i, n ≤ i → c i = 0) (u : Nat → Rat) (d : Nat) : ev A B c (n + d) u = ev A B c n u := by
  funext x
  refine sm_more (fun i hi => ?_) d
  rw [h i hi]
  grind
theorem ev_pc2 (A B : Nat → Rat) (k : Nat) (u : Nat → Rat) : ev A B (pc A B (k + 2)) (k + 3) u = fun h => ev A B (pc A B (k + 1)) (k + 2) (J A B u) h - A (k + 1) * ev A B (pc A B (k + 1)) (k + 2) u h - B k * ev A B (pc A B k) (k + 1) u h := by
  funext h
  have e1 : sm (fun i => pc A B (k + 1) i * Jn A B i u h) (k + 3) = ev A B (pc A B (k + 1)) (k + 2) u h :=
    congrFun (ev_more (n := k + 2) (fun i hi => pc_hi A B _ _ (by omega)) u 1) h
  have e2 : sm (fun i => pc A B k i * Jn A B i u h) (k + 3) = ev A B (pc A B k) (k + 1) u h :=
    congrFun (ev_more (n := k + 1) (fun i hi => pc_hi A B _ _ (by omega)) u 2) h
  have e3 : sm (fun i => (if i = 0 then 0 else pc A B (k + 1) (i - 1)) * Jn A B i u h) (k + 3) = ev A B (pc A B (k + 1)) (k + 2) (J A B u) h := by
    rw [sm_left]
    show (if 0 = 0 then (0 : Rat) else _) * _ + _ = _
    rw [if_pos rfl]
    have : sm (fun i => (if i + 1 = 0 then 0 else pc A B (k + 1) (i + 1 - 1)) * Jn A B (i + 1) u h) (k + 2) = ev A B (pc A B (k + 1)) (k + 2) (J A B u) h := by
      refine sm_congr fun i hi => ?_
      rw [if_neg (by omega), Nat.add_sub_cancel, ← Jn_in]
    rw [this]
    grind
  rw [← e1, ← e2, ← e3, ← sm_mul, ← sm_mul, ← sm_sub, ← sm_sub]
  refine sm_congr fun i hi => ?_
  show ((if i = 0 then (0 : Rat) else pc A B (k + 1) (i - 1)) - A (k + 1) * pc A B (k + 1) i - B k * pc A B k i) * Jn A B i u h = _
  grind
theorem ev_pc0 (A B : Nat → Rat) (u : Nat → Rat) : ev A B (pc A B 0) 1 u = u := by
  funext h
  show (0 : Rat) + (if 0 = 0 then 1 else 0) * u h = u h
  rw [if_pos rfl]
  grind
theorem ev_pc1 (A B : Nat → Rat) (u : Nat → Rat) : ev A B (pc A B 1) 2 u = fun h => J A B u h - A 0 * u h := by
  funext h
  show ((0 : Rat) + ((if 0 = 0 then 0 else _) - A 0 * (if 0 = 0 then 1 else 0)) * u h) + ((if 1 = 0 then (0 : Rat) else if 1 = 1 then 1 else 0) - A 0 * (if 1 = 0 then 1 else 0)) * J A B u h = _
  rw [if_pos rfl, if_pos rfl, if_neg (by decide), if_pos rfl, if_neg (by decide)]
  grind
/-- a polynomial at J commutes with J -/
theorem ev_J (A B c : Nat → Rat) (n : Nat) (u : Nat → Rat) : ev A B c n (J A B u) = J A B (ev A B c n u) := by
  show _ = J A B (fun h => sm (fun i => c i * Jn A B i u h) n)
  rw [J_sm]
  funext h
  refine sm_congr fun i _ => ?_
  rw [Jn_in]
  rfl
theorem up2 {f : Nat → Prop} (h0 : f 0) (h1 : f 1) (h : ∀ k, f k → f (k + 1) → f (k + 2)) : ∀ k, f k := by
  have : ∀ k, f k ∧ f (k + 1) := by
    intro k
    induction k with
    | zero => exact ⟨h0, h1⟩
    | succ k ih => exact ⟨ih.2, h k ih.1 ih.2⟩
  exact fun k => (this k).1
/-- the k-th polynomial takes the first function to the k-th -/
theorem favard1 (A B : Nat → Rat) : ∀ k, ev A B (pc A B k) (k + 1) (ek 0) = ek k := by
  refine up2 (ev_pc0 A B _) ?_ fun k h1 h2 => ?_
  · rw [ev_pc1, J_ek]
    funext h
    show ek 1 h + A 0 * ek 0 h + (if 0 = 0 then 0 else _) - A 0 * ek 0 h = ek 1 h
    rw [if_pos rfl]
    grind
  · rw [ev_pc2, ev_J, h1, h2, J_ek]
    funext h
    show ek (k + 1 + 1) h + A (k + 1) * ek (k + 1) h + (if k + 1 = 0 then 0 else B (k + 1 - 1) * ek (k + 1 - 1) h) - A (k + 1) * ek (k + 1) h - B k * ek k h = ek (k + 2) h
    rw [if_neg (by omega), Nat.add_sub_cancel]
    grind
/-- the product of the first k steps -/
def pB (B : Nat → Rat) : Nat → Rat
  | 0 => 1
  | k + 1 => pB B k * B k
theorem favard2 (A B : Nat → Rat) : ∀ k, ∀ u : Nat → Rat, ev A B (pc A B k) (k + 1) u 0 = pB B k * u k := by
  refine up2 (fun u => ?_) (fun u => ?_) fun k h1 h2 u => ?_
  · rw [ev_pc0]
    show u 0 = 1 * u 0
    grind
  · rw [ev_pc1]
    show (if 0 = 0 then (0 : Rat) else _) + A 0 * u 0 + B 0 * u 1 - A 0 * u 0 = 1 * B 0 * u 1
    rw [if_pos rfl]
    grind
  · rw [ev_pc2]
    show ev A B (pc A B (k + 1)) (k + 2) (J A B u) 0 - A (k + 1) * ev A B (pc A B (k + 1)) (k + 2) u 0 - B k * ev A B (pc A B k) (k + 1) u 0 = _
    rw [h2, h2, h1]
    show pB B (k + 1) * ((if k + 1 = 0 then (0 : Rat) else u (k + 1 - 1)) + A (k + 1) * u (k + 1) + B (k + 1) * u (k + 1 + 1)) - _ - _ = pB B (k + 1) * B (k + 1) * u (k + 2)
    rw [if_neg (by omega), Nat.add_sub_cancel]
    show pB B k * B k * _ - A (k + 1) * (pB B k * B k * u (k + 1)) - _ = pB B k * B k * B (k + 1) * u (k + 2)
    grind
/-- an ended ladder: above the end nothing comes back -/
theorem ended_zero (A B : Nat → Rat) {m : Nat} (hB : B (m - 1) = 0) (hm : 0 < m) : ∀ k h, h < m → Jn A B k (ek m) h = 0
  | 0, h, hh => by
    show (if h = m then (1 : Rat) else 0) = 0
    rw [if_neg (by omega)]
  | k + 1, h, hh => by
    show (if h = 0 then (0 : Rat) else Jn A B k (ek m) (h - 1)) + A h * Jn A B k (ek m) h + B h * Jn A B k (ek m) (h + 1) = 0
    rw [ended_zero A B hB hm k h hh]
    have e : B h * Jn A B k (ek m) (h + 1) = 0 := by
      by_cases c : h + 1 < m
      · rw [ended_zero A B hB hm k (h + 1) c]
        grind
      · rw [show h = m - 1 by omega, hB]
        grind
    rw [e]
    split
    · grind
    · rw [ended_zero A B hB hm k (h - 1) (by omega)]
      grind
end Fq


set_option linter.all false
set_option maxRecDepth 100000
set_option maxHeartbeats 400000
namespace Fq
open Rs (co co_get co_lt co_ge co_mem co_all)
structure Zs (n : Nat) (q : F) : Prop where
  ok : Ok q
  v : ∃ t : Int, Vl q t (6 ^ n) ∧ t.natAbs ≤ 2 ^ (9 * n)
theorem six_pos (n : Nat) : (0 : Int) < 6 ^ n := Int.pow_pos (by decide)
theorem p9 (n : Nat) : 2 ^ (9 * (n + 1)) = 2 ^ (9 * n) * 512 := by
  rw [show 9 * (n + 1) = 9 * n + 9 by omega, Nat.pow_add]
theorem Zs.up {n : Nat} {q : F} (h : Zs n q) : Zs (n + 1) q := by
  obtain ⟨o, t, v, l⟩ := h
  refine ⟨o, t * 6, ?_, ?_⟩
  · rw [Int.pow_succ]
    exact vl_times 6 v
  · rw [Int.natAbs_mul, p9]
    exact Nat.mul_le_mul l (by decide)
theorem Zs.mono {n m : Nat} {q : F} (h : Zs n q) (e : n ≤ m) : Zs m q := by
  induction e with
  | refl => exact h
  | step _ ih => exact ih.up
theorem Zs.zero {n : Nat} : Zs n (0, 1) := ⟨ok01, 0, by show (0 : Int) * _ = 0 * 1; rw [Int.zero_mul, Int.zero_mul], Nat.zero_le _⟩
theorem Zs.one {n : Nat} : Zs n (1, 1) := Zs.mono (n := 0) ⟨⟨by decide, by decide⟩, 1, by show (1 : Int) * 1 = 1 * 1; rfl, by decide⟩ (Nat.zero_le n)
theorem Zs.mul {n m : Nat} {q r : F} (h : Zs n q) (g : Zs m r) : Zs (n + m) (mul q r) := by
  obtain ⟨o, t, v, l⟩ := h
  obtain ⟨o', t', v', l'⟩ := g
  refine ⟨ok_mul' o.1 o'.1, t * t', ?_, ?_⟩
  · rw [Int.pow_add]
    exact vl_mul o.1 o'.1 v v'
  · rw [Int.natAbs_mul, Nat.mul_add, Nat.pow_add]
    exact Nat.mul_le_mul l l'
theorem vl_sub {q r : F} {a b c d : Int} (hq : 0 < q.2) (hr : 0 < r.2) (h1 : Vl q a b) (h2 : Vl r c d) : Vl (sub q r) (a * d - c * b) (b * d) := by
  have hm : 0 < q.2 * r.2 := Int.mul_pos hq hr
  have v := vl_red (a := q.1 * r.2 - r.1 * q.2) hm
  unfold Vl at *
  show (red _ _).1 * _ = _ * (red _ _).2
  generalize red (q.1 * r.2 - r.1 * q.2) (q.2 * r.2) = s at *
  refine mul_cancel (m := q.2 * r.2) (by omega) ?_
  generalize q.1 = q1 at *; generalize q.2 = q2 at *; generalize r.1 = r1 at *; generalize r.2 = r2 at *; generalize s.1 = s1 at *; generalize s.2 = s2 at *
  have e : s1 * (b * d) * (q2 * r2) = (s1 * (q2 * r2)) * (b * d) := by grind
  rw [e, v]
  have e2 : (q1 * r2 - r1 * q2) * s2 * (b * d) = s2 * ((q1 * b) * r2 * d - (r1 * d) * q2 * b) := by grind
  rw [e2, h1, h2]
  grind
theorem vl_same {q : F} {x D : Int} (hD : 0 < D) (h : Vl q (x * D) (D * D)) : Vl q x D := by
  unfold Vl at *
  refine mul_cancel (m := D) (by omega) ?_
  rw [Int.mul_assoc, h]
  grind
theorem Zs.add {n : Nat} {q r : F} (h : Zs n q) (g : Zs n r) : Zs (n + 1) (add q r) := by
  obtain ⟨o, t, v, l⟩ := h
  obtain ⟨o', t', v', l'⟩ := g
  have s := vl_add o.1 o'.1 v v'
  rw [← Int.add_mul] at s
  refine ⟨ok_add' o.1 o'.1, (t + t') * 6, ?_, ?_⟩
  · rw [Int.pow_succ]
    exact vl_times 6 (vl_same (six_pos n) s)
  · have := Int.natAbs_add_le t t'
    rw [Int.natAbs_mul, p9, show (6 : Int).natAbs = 6 from rfl]
    generalize 2 ^ (9 * n) = X at *
    omega
theorem Zs.sub {n : Nat} {q r : F} (h : Zs n q) (g : Zs n r) : Zs (n + 1) (sub q r) := by
  obtain ⟨o, t, v, l⟩ := h
  obtain ⟨o', t', v', l'⟩ := g
  have s := vl_sub o.1 o'.1 v v'
  rw [← Int.sub_mul] at s
  refine ⟨ok_sub' o.1 o'.1, (t - t') * 6, ?_, ?_⟩
  · rw [Int.pow_succ]
    exact vl_times 6 (vl_same (six_pos n) s)
  · have := Int.natAbs_sub_le t t'
    rw [Int.natAbs_mul, p9, show (6 : Int).natAbs = 6 from rfl]
    generalize 2 ^ (9 * n) = X at *
    omega
/-- what the reckoning wants of a size -/
theorem Zs.small {n : Nat} {q : F} (h : Zs n q) (e : n ≤ 400) : q.1.natAbs < 2 ^ 4000 ∧ 0 < q.2 ∧ q.2.natAbs < 2 ^ 4000 := by
  obtain ⟨o, t, v, l⟩ := h
  have d := vl_dvd o v
  have p := six_pos n
  have s : q.2 ≤ 6 ^ n := Int.le_of_dvd p d
  obtain ⟨x, hx⟩ := d
  have x0 : 0 < x := by
    rw [hx] at p
    exact Int.pos_of_mul_pos_right p o.1 |> id
  have et : q.1 * x = t := by
    unfold Vl at v
    refine mul_cancel (m := q.2) (by have := o.1; omega) ?_
    rw [← v, hx]
    grind
  have b : 2 ^ (9 * n) < 2 ^ 4000 := Nat.pow_lt_pow_right (by decide) (by omega)
  have c : (6 ^ n : Nat) < 2 ^ 4000 := by
    refine Nat.lt_of_le_of_lt ?_ b
    rw [Nat.pow_mul]
    exact Nat.pow_le_pow_left (by decide) n
  refine ⟨?_, o.1, ?_⟩
  · refine Nat.lt_of_le_of_lt (Nat.le_trans ?_ l) b
    rw [← et, Int.natAbs_mul]
    exact Nat.le_mul_of_pos_right _ (by omega)
  · refine Nat.lt_of_le_of_lt ?_ c
    have e2 : ((6 ^ n : Nat) : Int) = 6 ^ n := by rw [Int.natCast_pow]; rfl
    have := o.1
    omega
/-- a small fraction: the law's levels, steps and totals -/
theorem Zs.of {q : F} (o : Ok q) (d : q.2 ∣ 6) (a : q.1.natAbs ≤ 85) : Zs 1 q := by
  obtain ⟨x, hx⟩ := d
  have x0 : 0 < x := by
    have : 0 < q.2 * x := by omega
    exact Int.pos_of_mul_pos_right this o.1 |> id
  have x6 : x ≤ 6 := by
    have := o.1
    have h1 : 1 * x ≤ q.2 * x := Int.mul_le_mul_of_nonneg_right (by omega) (by omega)
    omega
  refine ⟨o, q.1 * x, ?_, ?_⟩
  · show q.1 * 6 ^ 1 = q.1 * x * q.2
    rw [Int.pow_one, hx]
    grind
  · rw [Int.natAbs_mul]
    have : q.1.natAbs * x.natAbs ≤ 85 * 6 := Nat.mul_le_mul a (by omega)
    have : 2 ^ (9 * 1) = 512 := by decide
    omega
def Za (n : Nat) (l : List F) : Prop := ∀ q ∈ l, Zs n q
theorem Za.co {n : Nat} {l : List F} (h : Za n l) (k : Nat) : Zs n (Rs.co l k) := co_all h Zs.zero k
theorem Za.mono {n m : Nat} {l : List F} (h : Za n l) (e : n ≤ m) : Za m l := fun q hq => (h q hq).mono e
/-- a list of fractions by its worths -/
theorem list_eq {n m : Nat} {a b : List F} (ha : Za n a) (hb : Za m b) (hl : a.length = b.length) (h : ∀ i, i < a.length → val (co a i) = val (co b i)) : a = b := by
  refine List.ext_getElem? fun i => ?_
  by_cases c : i < a.length
  · rw [co_lt c, co_lt (hl ▸ c), val_inj (ha.co i).ok (hb.co i).ok (h i c)]
  · rw [List.getElem?_eq_none (by omega), List.getElem?_eq_none (by omega)]
theorem co_map {n : Nat} {f : Nat → F} {k : Nat} : co ((List.range n).map f) k = if k < n then f k else (0, 1) := by
  split
  · rename_i h
    refine co_get ?_
    rw [List.getElem?_map, List.getElem?_range h]
    rfl
  · rename_i h
    exact co_ge (by simp; omega)
theorem co_map1 {l : List F} {f : F → F} {k : Nat} : co (l.map f) k = if k < l.length then f (co l k) else (0, 1) := by
  split
  · rename_i h
    refine co_get ?_
    rw [List.getElem?_map, co_lt h]
    rfl
  · rename_i h
    exact co_ge (by simp; omega)
theorem trimN_co (qs : List F) : ∀ n, n ≤ qs.length → ∀ i, co (Rs.trimN qs n) i = if i < n then co qs i else (0, 1)
  | 0, _, i => by
    rw [if_neg (by omega)]
    exact co_ge (Nat.zero_le _)
  | n + 1, h, i => by
    unfold Rs.trimN
    split
    · rename_i z
      rw [trimN_co qs n (by omega)]
      by_cases c : i < n
      · rw [if_pos c, if_pos (by omega)]
      · by_cases e : i = n
        · subst e
          rw [if_neg c, if_pos (by omega), z]
        · rw [if_neg c, if_neg (by omega)]
    · split
      · rename_i c
        refine co_get ?_
        rw [List.getElem?_take_of_lt (by omega), co_lt (by omega)]
      · exact co_ge (by rw [List.length_take]; omega)
theorem trim_co (qs : List F) (i : Nat) : co (Rs.trim qs) i = co qs i := by
  unfold Rs.trim
  rw [trimN_co qs _ (Nat.le_refl _)]
  split
  · rfl
  · rw [co_ge (by omega)]
theorem trim_za {n : Nat} {l : List F} (h : Za n l) : Za n (Rs.trim l) := fun q hq => h q (Rs.trim_mem hq)
def sumF (z : F) (l : List F) : F := l.foldl add z
theorem sumF_snoc (z : F) (l : List F) (q : F) : sumF z (l ++ [q]) = add (sumF z l) q := by
  unfold sumF
  rw [List.foldl_append]
  rfl
theorem sum_map {n : Nat} {g : Nat → F} (h : ∀ i, Zs n (g i)) : ∀ m, Zs (n + m) (sumF (0, 1) ((List.range m).map g)) ∧ val (sumF (0, 1) ((List.range m).map g)) = sm (fun i => val (g i)) m
  | 0 => ⟨Zs.zero, val_zero⟩
  | m + 1 => by
    obtain ⟨a, b⟩ := sum_map h m
    rw [List.range_succ, List.map_append, List.map_singleton, sumF_snoc]
    refine ⟨a.add ((h m).mono (by omega)), ?_⟩
    rw [val_add a.ok.1 (h m).ok.1, b]
    rfl
def sumBy (some row : List F) : F := sumF (0, 1) (List.zipWith mul some row)
theorem zip_map {a b : List F} (h : a.length ≤ b.length) : List.zipWith mul a b = (List.range a.length).map fun i => mul (co a i) (co b i) := by
  refine List.ext_getElem? fun i => ?_
  rw [List.getElem?_zipWith]
  by_cases c : i < a.length
  · rw [co_lt c, co_lt (Nat.lt_of_lt_of_le c h), List.getElem?_map, List.getElem?_range c]
    rfl
  · rw [List.getElem?_eq_none (by omega), List.getElem?_eq_none (l := List.map _ _) (by simp; omega)]
theorem sumBy_val {n m : Nat} {a b : List F} (ha : Za n a) (hb : Za m b) (h : a.length ≤ b.length) :
    Zs (n + m + a.length) (sumBy a b) ∧ val (sumBy a b) = sm (fun i => val (co a i) * val (co b i)) a.length := by
  unfold sumBy
  rw [zip_map h]
  obtain ⟨x, y⟩ := sum_map (g := fun i => mul (co a i) (co b i)) (fun i => (ha.co i).mul (hb.co i)) a.length
  refine ⟨x, ?_⟩
  rw [y]
  refine sm_congr fun i _ => ?_
  exact val_mul (ha.co i).ok.1 (hb.co i).ok.1
theorem co_set {w : List F} {k : Nat} (x : F) (hk : k < w.length) (m : Nat) : co (w.set k x) m = if m = k then x else co w m := by
  split
  · rename_i e
    subst e
    exact co_get (List.getElem?_set_self hk)
  · rename_i e
    unfold Rs.co
    rw [List.getD_eq_getElem?_getD, List.getD_eq_getElem?_getD, List.getElem?_set_ne (by omega)]
theorem sm_upd (g : Nat → Rat) (c : Rat) (k : Nat) : ∀ n, k < n → sm (fun m => if m = k then g m + c else g m) n = sm g n + c
  | 0, h => absurd h (by omega)
  | n + 1, h => by
    by_cases e : k = n
    · subst e
      show sm _ k + (if k = k then g k + c else g k) = sm g k + g k + c
      rw [if_pos rfl, sm_congr (g := g) (fun i hi => if_neg (by omega))]
      grind
    · show sm _ n + (if n = k then g n + c else g n) = sm g n + g n + c
      rw [if_neg (by omega), sm_upd g c k n (by omega)]
      grind
def wt (f : Nat → Rat) (w : List F) : Rat := sm (fun m => val (co w m) * f m) w.length
theorem wt_set {n : Nat} {w : List F} (hw : Za n w) {y : F} (hy : 0 < y.2) (f : Nat → Rat) {k : Nat} (hk : k < w.length) : wt f (w.set k (add (co w k) y)) = wt f w + val y * f k := by
  unfold wt
  rw [List.length_set, ← sm_upd (fun m => val (co w m) * f m) (val y * f k) k w.length hk]
  refine sm_congr fun m _ => ?_
  show val (co (w.set k _) m) * f m = _
  rw [co_set _ hk]
  split
  · rename_i e
    subst e
    rw [val_add (hw.co m).ok.1 hy]
    grind
  · rfl
theorem za_set {n : Nat} {w : List F} (hw : Za n w) {y : F} (hy : Zs n y) (k : Nat) : Za n (w.set k y) := fun q hq => by
  rcases List.mem_or_eq_of_mem_set hq with m | rfl
  · exact hw q m
  · exact hy
theorem stepJ_wt {n a b i : Nat} {w : List F} {p : F} {rs : List F} (hw : Za n w) (hp : Zs a p) (hr : Za b rs) (hn : a + b ≤ n) (f : Nat → Rat) : ∀ j, i + j ≤ w.length →
    Za (n + j) (Rs.stepJ w i p rs j) ∧ wt f (Rs.stepJ w i p rs j) = wt f w + val p * sm (fun j => val (co rs j) * f (i + j)) j
  | 0, _ => ⟨hw, by show wt f w = wt f w + val p * 0; grind⟩
  | j + 1, h => by
    obtain ⟨x, y⟩ := stepJ_wt (i := i) hw hp hr hn f j (by omega)
    have l := Rs.stepJ_len w i p rs j
    have z : Zs (n + j) (mul p (co rs j)) := (hp.mul (hr.co j)).mono (by omega)
    refine ⟨za_set (x.mono (Nat.le_succ _)) ((x.co _).add z) _, ?_⟩
    show wt f (List.set _ _ _) = _
    rw [wt_set x z.ok.1 f (by omega), y, val_mul hp.ok.1 (hr.co j).ok.1]
    show _ = wt f w + val p * (sm _ j + val (co rs j) * f (i + j))
    grind
theorem stepI_wt {n a b : Nat} {w qs rs : List F} (hw : Za n w) (hq : Za a qs) (hr : Za b rs) (hn : a + b ≤ n) (f : Nat → Rat) : ∀ i, i + rs.length ≤ w.length + 1 →
    Za (n + i * rs.length) (Rs.stepI w qs rs i) ∧ wt f (Rs.stepI w qs rs i) = wt f w + sm (fun i => val (co qs i) * sm (fun j => val (co rs j) * f (i + j)) rs.length) i
  | 0, _ => ⟨by rw [Nat.zero_mul]; exact hw, by show wt f w = wt f w + 0; grind⟩
  | i + 1, h => by
    obtain ⟨x, y⟩ := stepI_wt hw hq hr hn f i (by omega)
    have l := Rs.stepI_len w qs rs i
    obtain ⟨u, v⟩ := stepJ_wt (i := i) x (hq.co i) hr (by omega) f rs.length (by omega)
    refine ⟨?_, ?_⟩
    · rw [Nat.succ_mul, ← Nat.add_assoc]
      exact u
    · show wt f (Rs.stepJ _ _ _ _ _) = _
      rw [v, y]
      show _ = wt f w + (sm _ i + _)
      grind
theorem prodN_wt {a b : Nat} {qs rs : List F} (hq : Za a qs) (hr : Za b rs) (h1 : qs ≠ []) (h2 : rs ≠ []) (f : Nat → Rat) :
    Za (a + b + qs.length * rs.length) (Rs.prodN (qs.length + rs.length - 1) qs rs) ∧
    wt f (Rs.prodN (qs.length + rs.length - 1) qs rs) = sm (fun i => val (co qs i) * sm (fun j => val (co rs j) * f (i + j)) rs.length) qs.length := by
  have l1 : 0 < qs.length := List.length_pos_iff.mpr h1
  have l2 : 0 < rs.length := List.length_pos_iff.mpr h2
  have hw : Za (a + b) (List.replicate (qs.length + rs.length - 1) ((0, 1) : F)) := fun q hq => by
    rw [(List.mem_replicate.mp hq).2]
    exact Zs.zero
  obtain ⟨x, y⟩ := stepI_wt hw hq hr (Nat.le_refl _) f qs.length (by rw [List.length_replicate]; omega)
  refine ⟨x, ?_⟩
  unfold Rs.prodN
  rw [y]
  have : wt f (List.replicate (qs.length + rs.length - 1) ((0, 1) : F)) = 0 := by
    refine sm_zero fun i _ => ?_
    have : co (List.replicate (qs.length + rs.length - 1) ((0, 1) : F)) i = (0, 1) := by
      unfold Rs.co
      rw [List.getD_eq_getElem?_getD]
      cases e : (List.replicate (qs.length + rs.length - 1) ((0, 1) : F))[i]? with
      | none => rfl
      | some q => exact (List.mem_replicate.mp (List.mem_of_getElem? e)).2
    rw [this, val_zero]
    grind
  rw [this]
  grind
end Fq


set_option linter.all false
set_option maxRecDepth 100000
set_option maxHeartbeats 400000
namespace Fq
open Rs (co co_get co_lt co_ge co_mem co_all)
def Ov (D : Int) (n : Nat) (x : Rat) : Prop := ∃ t : Int, x * (D : Rat) = (t : Rat) ∧ t.natAbs ≤ 2 ^ n
section
variable {D E : Int} {n m k : Nat} {x y : Rat}
theorem Ov.mono (h : Ov D n x) (e : n ≤ m) : Ov D m x := by
  obtain ⟨t, a, b⟩ := h
  exact ⟨t, a, Nat.le_trans b (Nat.pow_le_pow_right (by decide) e)⟩
theorem Ov.zero : Ov D n 0 := ⟨0, by rw [Rat.zero_mul]; rfl, Nat.zero_le _⟩
theorem Ov.one : Ov 1 n 1 := ⟨1, by rw [Rat.one_mul], Nat.one_le_two_pow⟩
theorem Ov.add (h : Ov D n x) (g : Ov D n y) : Ov D (n + 1) (x + y) := by
  obtain ⟨t, a, b⟩ := h
  obtain ⟨u, c, d⟩ := g
  refine ⟨t + u, ?_, ?_⟩
  · rw [Rat.intCast_add, ← a, ← c]
    grind
  · have := Int.natAbs_add_le t u
    rw [Nat.pow_succ]
    omega
theorem Ov.sub (h : Ov D n x) (g : Ov D n y) : Ov D (n + 1) (x - y) := by
  obtain ⟨t, a, b⟩ := h
  obtain ⟨u, c, d⟩ := g
  refine ⟨t - u, ?_, ?_⟩
  · rw [Rat.intCast_sub, ← a, ← c]
    grind
  · have := Int.natAbs_sub_le t u
    rw [Nat.pow_succ]
    omega
theorem Ov.mul (h : Ov D n x) (g : Ov E m y) : Ov (D * E) (n + m) (x * y) := by
  obtain ⟨t, a, b⟩ := h
  obtain ⟨u, c, d⟩ := g
  refine ⟨t * u, ?_, ?_⟩
  · rw [Rat.intCast_mul, Rat.intCast_mul, ← a, ← c]
    grind
  · rw [Int.natAbs_mul, Nat.pow_add]
    exact Nat.mul_le_mul b d
theorem Ov.scale (h : Ov D n x) (l : E.natAbs ≤ 2 ^ k) : Ov (D * E) (n + k) x := by
  obtain ⟨t, a, b⟩ := h
  refine ⟨t * E, ?_, ?_⟩
  · rw [Rat.intCast_mul, Rat.intCast_mul, ← a]
    grind
  · rw [Int.natAbs_mul, Nat.pow_add]
    exact Nat.mul_le_mul b l
theorem Ov.cong (h : Ov D n x) (e : D = E) : Ov E n x := e ▸ h
theorem Ov.sm {f : Nat → Rat} (h : ∀ i, Ov D n (f i)) : ∀ m, Ov D (n + m) (sm f m)
  | 0 => Ov.zero
  | m + 1 => (Ov.sm h m).add ((h m).mono (by omega))
/-- the top of what is above nought -/
theorem Ov.top (h : Ov D n x) (p : 0 < D) (q : 0 < x) : ∃ u : Int, 0 < u ∧ u.natAbs ≤ 2 ^ n ∧ x * (D : Rat) = (u : Rat) := by
  obtain ⟨t, a, b⟩ := h
  refine ⟨t, ?_, b, a⟩
  have pd : (0 : Rat) < (D : Rat) := by exact_mod_cast p
  have : (0 : Rat) < (t : Rat) := by
    rw [← a]
    exact Rat.mul_pos q pd
  exact_mod_cast this
/-- a quotient over one bottom -/
theorem Ov.div (h : Ov D n x) (g : Ov D m y) (p : 0 < D) (q : 0 < y) : ∃ u : Int, 0 < u ∧ u.natAbs ≤ 2 ^ m ∧ Ov u n (x / y) := by
  obtain ⟨u, u0, ul, ue⟩ := g.top p q
  obtain ⟨t, a, b⟩ := h
  refine ⟨u, u0, ul, t, ?_, b⟩
  have pd := ne0 p
  have py : y ≠ 0 := fun z => by
    rw [z] at q
    exact absurd q (by decide)
  rw [← a, ← ue]
  grind
/-- a quotient over two -/
theorem Ov.div2 (h : Ov D n x) (g : Ov E m y) (p : 0 < E) (q : 0 < y) (l : E.natAbs ≤ 2 ^ k) : ∃ u : Int, 0 < u ∧ u.natAbs ≤ 2 ^ m ∧ Ov (D * u) (n + k) (x / y) := by
  obtain ⟨u, u0, ul, ue⟩ := g.top p q
  obtain ⟨t, a, b⟩ := h
  refine ⟨u, u0, ul, t * E, ?_, ?_⟩
  · have py : y ≠ 0 := fun z => by
      rw [z] at q
      exact absurd q (by decide)
    rw [Rat.intCast_mul, Rat.intCast_mul, ← a, ← ue]
    grind
  · rw [Int.natAbs_mul, Nat.pow_add]
    exact Nat.mul_le_mul b l
end
theorem val_eq0 {q : F} (o : Ok q) : val q = 0 ↔ q = (0, 1) := by
  refine ⟨fun h => val_inj o ok01 (by rw [h, val_zero]), fun h => by rw [h, val_zero]⟩
theorem val_num {q : F} (o : Ok q) : val q * (q.2 : Rat) = (q.1 : Rat) := by
  have := ne0 o.1
  unfold val
  grind
theorem val_pos {q : F} (o : Ok q) : 0 < val q ↔ 0 < q.1 := by
  have p : (0 : Rat) < (q.2 : Rat) := by exact_mod_cast o.1
  rw [← Rat.mul_pos_iff_of_pos_right p, val_num o]
  exact_mod_cast Iff.rfl
theorem val_neg {q : F} (o : Ok q) : val q < 0 ↔ q.1 < 0 := by
  have p : (0 : Rat) < (q.2 : Rat) := by exact_mod_cast o.1
  rw [← Rat.mul_neg_iff_of_pos_right p, val_num o]
  exact_mod_cast Iff.rfl
/-- a fraction over a bottom -/
structure Cb (D : Int) (n : Nat) (q : F) : Prop where
  ok : Ok q
  v : Ov D n (val q)
section
variable {D E : Int} {n m k : Nat} {q r : F}
theorem Cb.mono (h : Cb D n q) (e : n ≤ m) : Cb D m q := ⟨h.ok, h.v.mono e⟩
theorem Cb.zero : Cb D n (0, 1) := ⟨ok01, by rw [val_zero]; exact Ov.zero⟩
theorem Cb.add (h : Cb D n q) (g : Cb D n r) : Cb D (n + 1) (add q r) := ⟨ok_add' h.ok.1 g.ok.1, by rw [val_add h.ok.1 g.ok.1]; exact h.v.add g.v⟩
theorem Cb.sub (h : Cb D n q) (g : Cb D n r) : Cb D (n + 1) (sub q r) := ⟨ok_sub' h.ok.1 g.ok.1, by rw [val_sub h.ok.1 g.ok.1]; exact h.v.sub g.v⟩
theorem Cb.mul (h : Cb D n q) (g : Cb E m r) : Cb (D * E) (n + m) (mul q r) := ⟨ok_mul' h.ok.1 g.ok.1, by rw [val_mul h.ok.1 g.ok.1]; exact h.v.mul g.v⟩
theorem Cb.small {N : Nat} (h : Cb D n q) (p : 0 < D) (l : D.natAbs ≤ 2 ^ N) (e : n ≤ N) : q.1.natAbs ≤ 2 ^ N ∧ 0 < q.2 ∧ q.2.natAbs ≤ 2 ^ N := by
  obtain ⟨o, t, v, b⟩ := h
  have b := Nat.le_trans b (Nat.pow_le_pow_right (by decide) e)
  have vl : q.1 * D = t * q.2 := by
    have h1 := ne0 o.1
    have h3 : (q.1 : Rat) * (D : Rat) = (t : Rat) * (q.2 : Rat) := by
      rw [← v]
      unfold val
      grind
    rw [← Rat.intCast_mul, ← Rat.intCast_mul] at h3
    exact_mod_cast h3
  have d := vl_dvd o vl
  obtain ⟨z, hz⟩ := d
  have z0 : 0 < z := by
    rw [hz] at p
    exact Int.pos_of_mul_pos_right p o.1 |> id
  have et : q.1 * z = t := by
    refine mul_cancel (m := q.2) (by have := o.1; omega) ?_
    rw [← vl, hz]
    grind
  refine ⟨?_, o.1, ?_⟩
  · refine Nat.le_trans ?_ b
    rw [← et, Int.natAbs_mul]
    exact Nat.le_mul_of_pos_right _ (by omega)
  · refine Nat.le_trans ?_ l
    rw [hz, Int.natAbs_mul]
    exact Nat.le_mul_of_pos_right _ (by omega)
end
def Ca (D : Int) (n : Nat) (l : List F) : Prop := ∀ q ∈ l, Cb D n q
section
variable {D E : Int} {n m k : Nat} {a b : List F}
theorem Ca.co (h : Ca D n a) (k : Nat) : Cb D n (Rs.co a k) := co_all h Cb.zero k
theorem Ca.mono (h : Ca D n a) (e : n ≤ m) : Ca D m a := fun q hq => (h q hq).mono e
theorem list_eqC (ha : Ca D n a) (hb : Ca E m b) (hl : a.length = b.length) (h : ∀ i, i < a.length → val (Rs.co a i) = val (Rs.co b i)) : a = b := by
  refine List.ext_getElem? fun i => ?_
  by_cases c : i < a.length
  · rw [co_lt c, co_lt (hl ▸ c), val_inj (ha.co i).ok (hb.co i).ok (h i c)]
  · rw [List.getElem?_eq_none (by omega), List.getElem?_eq_none (by omega)]
theorem sum_mapC {g : Nat → F} (h : ∀ i, Cb D n (g i)) : ∀ m, Cb D (n + m) (sumF (0, 1) ((List.range m).map g)) ∧ val (sumF (0, 1) ((List.range m).map g)) = sm (fun i => val (g i)) m
  | 0 => ⟨Cb.zero, val_zero⟩
  | m + 1 => by
    obtain ⟨a, b⟩ := sum_mapC h m
    rw [List.range_succ, List.map_append, List.map_singleton, sumF_snoc]
    refine ⟨a.add ((h m).mono (by omega)), ?_⟩
    rw [val_add a.ok.1 (h m).ok.1, b]
    rfl
theorem zip_mapC (a b : List F) : List.zipWith mul a b = (List.range (min a.length b.length)).map fun i => mul (Rs.co a i) (Rs.co b i) := by
  refine List.ext_getElem? fun i => ?_
  rw [List.getElem?_zipWith]
  by_cases c : i < min a.length b.length
  · rw [co_lt (by omega : i < a.length), co_lt (by omega : i < b.length), List.getElem?_map, List.getElem?_range c]
    rfl
  · rw [List.getElem?_eq_none (l := List.map _ _) (by simp; omega)]
    by_cases d : i < a.length
    · rw [co_lt d, List.getElem?_eq_none (by omega)]
    · rw [List.getElem?_eq_none (by omega)]
theorem sumBy_valC (ha : Ca D n a) (hb : Ca E m b) : Cb (D * E) (n + m + min a.length b.length) (sumBy a b) ∧ val (sumBy a b) = sm (fun i => val (Rs.co a i) * val (Rs.co b i)) (min a.length b.length) := by
  unfold sumBy
  rw [zip_mapC]
  obtain ⟨x, y⟩ := sum_mapC (g := fun i => mul (Rs.co a i) (Rs.co b i)) (fun i => (ha.co i).mul (hb.co i)) (min a.length b.length)
  refine ⟨x, ?_⟩
  rw [y]
  refine sm_congr fun i _ => ?_
  exact val_mul (ha.co i).ok.1 (hb.co i).ok.1
theorem ca_set {w : List F} (hw : Ca D n w) {y : F} (hy : Cb D n y) (k : Nat) : Ca D n (w.set k y) := fun q hq => by
  rcases List.mem_or_eq_of_mem_set hq with m | rfl
  · exact hw q m
  · exact hy
theorem wt_setC {w : List F} (hw : Ca D n w) {y : F} (hy : 0 < y.2) (f : Nat → Rat) {k : Nat} (hk : k < w.length) : wt f (w.set k (add (Rs.co w k) y)) = wt f w + val y * f k := by
  unfold wt
  rw [List.length_set, ← sm_upd (fun m => val (Rs.co w m) * f m) (val y * f k) k w.length hk]
  refine sm_congr fun m _ => ?_
  show val (Rs.co (w.set k _) m) * f m = _
  rw [co_set _ hk]
  split
  · rename_i e
    subst e
    rw [val_add (hw.co m).ok.1 hy]
    grind
  · rfl
theorem stepJ_wtC {D1 D2 : Int} {a b i : Nat} {w : List F} {p : F} {rs : List F} (hw : Ca (D1 * D2) n w) (hp : Cb D1 a p) (hr : Ca D2 b rs) (hn : a + b ≤ n) (f : Nat → Rat) : ∀ j, i + j ≤ w.length →
    Ca (D1 * D2) (n + j) (Rs.stepJ w i p rs j) ∧ wt f (Rs.stepJ w i p rs j) = wt f w + val p * sm (fun j => val (Rs.co rs j) * f (i + j)) j
  | 0, _ => ⟨hw, by show wt f w = wt f w + val p * 0; grind⟩
  | j + 1, h => by
    obtain ⟨x, y⟩ := stepJ_wtC (i := i) hw hp hr hn f j (by omega)
    have l := Rs.stepJ_len w i p rs j
    have z : Cb (D1 * D2) (n + j) (mul p (Rs.co rs j)) := (hp.mul (hr.co j)).mono (by omega)
    refine ⟨ca_set (x.mono (Nat.le_succ _)) ((x.co _).add z) _, ?_⟩
    show wt f (List.set _ _ _) = _
    rw [wt_setC x z.ok.1 f (by omega), y, val_mul hp.ok.1 (hr.co j).ok.1]
    show _ = wt f w + val p * (sm _ j + val (Rs.co rs j) * f (i + j))
    grind
theorem stepI_wtC {D1 D2 : Int} {a b : Nat} {w qs rs : List F} (hw : Ca (D1 * D2) n w) (hq : Ca D1 a qs) (hr : Ca D2 b rs) (hn : a + b ≤ n) (f : Nat → Rat) : ∀ i, i + rs.length ≤ w.length + 1 →
    Ca (D1 * D2) (n + i * rs.length) (Rs.stepI w qs rs i) ∧ wt f (Rs.stepI w qs rs i) = wt f w + sm (fun i => val (Rs.co qs i) * sm (fun j => val (Rs.co rs j) * f (i + j)) rs.length) i
  | 0, _ => ⟨by rw [Nat.zero_mul]; exact hw, by show wt f w = wt f w + 0; grind⟩
  | i + 1, h => by
    obtain ⟨x, y⟩ := stepI_wtC hw hq hr hn f i (by omega)
    have l := Rs.stepI_len w qs rs i
    obtain ⟨u, v⟩ := stepJ_wtC (i := i) x (hq.co i) hr (by omega) f rs.length (by omega)
    refine ⟨?_, ?_⟩
    · rw [Nat.succ_mul, ← Nat.add_assoc]
      exact u
    · show wt f (Rs.stepJ _ _ _ _ _) = _
      rw [v, y]
      show _ = wt f w + (sm _ i + _)
      grind
/-- a product, N places -/
theorem prodN_wtC {D1 D2 : Int} {a b N : Nat} {qs rs : List F} (hq : Ca D1 a qs) (hr : Ca D2 b rs) (hN : qs.length + rs.length ≤ N + 1) (f : Nat → Rat) :
    Ca (D1 * D2) (a + b + qs.length * rs.length) (Rs.prodN N qs rs) ∧
    wt f (Rs.prodN N qs rs) = sm (fun i => val (Rs.co qs i) * sm (fun j => val (Rs.co rs j) * f (i + j)) rs.length) qs.length := by
  have hw : Ca (D1 * D2) (a + b) (List.replicate N ((0, 1) : F)) := fun q hq => by
    rw [(List.mem_replicate.mp hq).2]
    exact Cb.zero
  obtain ⟨x, y⟩ := stepI_wtC hw hq hr (Nat.le_refl _) f qs.length (by rw [List.length_replicate]; omega)
  refine ⟨x, ?_⟩
  unfold Rs.prodN
  rw [y]
  have : wt f (List.replicate N ((0, 1) : F)) = 0 := by
    refine sm_zero fun i _ => ?_
    have : Rs.co (List.replicate N ((0, 1) : F)) i = (0, 1) := by
      unfold Rs.co
      rw [List.getD_eq_getElem?_getD]
      cases e : (List.replicate N ((0, 1) : F))[i]? with
      | none => rfl
      | some q => exact (List.mem_replicate.mp (List.mem_of_getElem? e)).2
    rw [this, val_zero]
    grind
  rw [this]
  grind
end
end Fq


set_option linter.all false
set_option maxRecDepth 100000
set_option maxHeartbeats 400000
namespace Fq
open Rs (co co_get co_lt co_ge co_mem co_all)
/-- the sum of a product of two polynomials of less than m coefficients, by the moments from s on -/
def gsq (r p q : Nat → Rat) (m s : Nat) : Rat := sm (fun i => p i * sm (fun j => q j * r (i + j + s)) m) m
def gs (r : Nat → Rat) : Nat → (Nat → Rat) × (Nat → Rat) × Rat
  | 0 => (fun _ => 0, fun i => if i = 0 then 1 else 0, 0)
  | k + 1 =>
    let g := gs r k
    let n1 := gsq r g.2.1 g.2.1 (k + 1) 0
    let l := gsq r g.2.1 g.2.1 (k + 1) 1 / n1
    let s := if k = 0 then 0 else n1 / g.2.2
    (g.2.1, fun i => (if i = 0 then 0 else g.2.1 (i - 1)) - l * g.2.1 i - s * g.1 i, n1)
def pol (r : Nat → Rat) (k : Nat) : Nat → Rat := (gs r k).2.1
def nor (r : Nat → Rat) (k : Nat) : Rat := gsq r (pol r k) (pol r k) (k + 1) 0
def mid (r : Nat → Rat) (k : Nat) : Rat := gsq r (pol r k) (pol r k) (k + 1) 1
def lvl (r : Nat → Rat) (k : Nat) : Rat := mid r k / nor r k
def pre (r : Nat → Rat) (k : Nat) : Nat → Rat := if k = 0 then fun _ => 0 else pol r (k - 1)
def stp (r : Nat → Rat) (k : Nat) : Rat := if k = 0 then 0 else nor r k / nor r (k - 1)
theorem gs_pre (r : Nat → Rat) : ∀ k, (gs r k).1 = pre r k
  | 0 => rfl
  | k + 1 => rfl
theorem gs_nor (r : Nat → Rat) : ∀ k, (gs r k).2.2 = if k = 0 then 0 else nor r (k - 1)
  | 0 => rfl
  | k + 1 => rfl
theorem pol_zero (r : Nat → Rat) : pol r 0 = fun i => if i = 0 then 1 else 0 := rfl
theorem pol_succ (r : Nat → Rat) (k i : Nat) : pol r (k + 1) i = (if i = 0 then 0 else pol r k (i - 1)) - lvl r k * pol r k i - stp r k * pre r k i := by
  show (if i = 0 then 0 else (gs r k).2.1 (i - 1)) - gsq r (gs r k).2.1 (gs r k).2.1 (k + 1) 1 / gsq r (gs r k).2.1 (gs r k).2.1 (k + 1) 0 * (gs r k).2.1 i - (if k = 0 then 0 else gsq r (gs r k).2.1 (gs r k).2.1 (k + 1) 0 / (gs r k).2.2) * (gs r k).1 i = _
  rw [gs_pre, gs_nor]
  unfold stp
  by_cases c : k = 0
  · rw [if_pos c, if_pos c]
    rfl
  · rw [if_neg c, if_neg c, if_neg c]
    rfl
theorem pol_hi (r : Nat → Rat) : ∀ k, (∀ i, k < i → pol r k i = 0) ∧ (∀ i, k ≤ i → pre r k i = 0) ∧ pol r k k = 1
  | 0 => ⟨fun i h => if_neg (by omega), fun i h => rfl, rfl⟩
  | k + 1 => by
    obtain ⟨a, b, c⟩ := pol_hi r k
    refine ⟨fun i h => ?_, fun i h => ?_, ?_⟩
    · rw [pol_succ, if_neg (by omega), a (i - 1) (by omega), a i (by omega), b i (by omega)]
      grind
    · exact a i (by omega)
    · rw [pol_succ, if_neg (by omega), Nat.add_sub_cancel, c, a (k + 1) (by omega), b (k + 1) (by omega)]
      grind
/-- bits of a sum, of a rung -/
def bS (A : Nat) : Nat := 2 * A + 42
section
variable {r : Nat → Rat} {M : Int}
/-- what is known of a row: over M, in 2^30 -/
structure Rv (r : Nat → Rat) (M : Int) : Prop where
  p : 0 < M
  m : M.natAbs ≤ 2 ^ 8
  v : ∀ i, Ov M 30 (r i)
theorem gsq_ov (R : Rv r M) {d : Int} {a m : Nat} {p : Nat → Rat} (h : ∀ i, Ov d a (p i)) (hm : m ≤ 5) (s : Nat) : Ov (d * (d * M)) (bS a) (gsq r p p m s) := by
  refine (Ov.sm (n := a + (a + 30 + m)) (fun i => (h i).mul (Ov.sm (fun j => (h j).mul (R.v _)) m)) m).mono ?_
  unfold bS
  omega
/-- a rung's bottom and size -/
structure Pd (r : Nat → Rat) (k : Nat) (d : Int) (a : Nat) : Prop where
  p : 0 < d
  l : d.natAbs ≤ 2 ^ a
  v : ∀ i, Ov d a (pol r k i)
theorem pd_zero : Pd r 0 1 0 := ⟨by decide, by decide, fun i => by
  rw [pol_zero]
  show Ov 1 0 (if i = 0 then 1 else 0)
  split
  · exact Ov.one
  · exact Ov.zero⟩
theorem natAbs_mul_le {x y : Int} {n m : Nat} (h : x.natAbs ≤ 2 ^ n) (g : y.natAbs ≤ 2 ^ m) : (x * y).natAbs ≤ 2 ^ (n + m) := by
  rw [Int.natAbs_mul, Nat.pow_add]
  exact Nat.mul_le_mul h g
/-- all that is known of one turn: bottoms of the rung, of the level, of the step -/
structure Tn (r : Nat → Rat) (M : Int) (k : Nat) (d : Int) (a : Nat) (u : Int) : Prop where
  pd : Pd r k d a
  u0 : 0 < u
  ul : u.natAbs ≤ 2 ^ bS a
  ue : nor r k * ((d * (d * M) : Int) : Rat) = (u : Rat)
  lv : Ov u (bS a) (lvl r k)
theorem turn (R : Rv r M) {k : Nat} {d : Int} {a : Nat} (h : Pd r k d a) (hk : k ≤ 4) (n : 0 < nor r k) : ∃ u, Tn r M k d a u := by
  have pm : 0 < d * (d * M) := Int.mul_pos h.p (Int.mul_pos h.p R.p)
  have o0 : Ov (d * (d * M)) (bS a) (nor r k) := gsq_ov R h.v (by omega) 0
  have o1 : Ov (d * (d * M)) (bS a) (mid r k) := gsq_ov R h.v (by omega) 1
  obtain ⟨u, u0, ul, ue⟩ := o0.top pm n
  obtain ⟨t, te, tl⟩ := o1
  refine ⟨u, h, u0, ul, ue, t, ?_, tl⟩
  have pd := ne0 pm
  have py : nor r k ≠ 0 := fun z => by
    rw [z] at n
    exact absurd n (by decide)
  rw [← te, ← ue]
  unfold lvl
  grind
theorem step_ov (R : Rv r M) {k : Nat} {d d' : Int} {a a' : Nat} {u u' : Int} (t : Tn r M (k + 1) d a u) (t' : Tn r M k d' a' u') (n : 0 < nor r k) : Ov (d * (d * M) * u') (bS a + (2 * a' + 8)) (stp r (k + 1)) := by
  have l : (d' * (d' * M)).natAbs ≤ 2 ^ (2 * a' + 8) := by
    have := natAbs_mul_le t'.pd.l (natAbs_mul_le t'.pd.l R.m)
    rw [show 2 * a' + 8 = a' + (a' + 8) by omega]
    exact this
  have e : stp r (k + 1) = nor r (k + 1) / nor r k := rfl
  rw [e]
  refine ⟨u * (d' * (d' * M)), ?_, ?_⟩
  · have py : nor r k ≠ 0 := fun z => by
      rw [z] at n
      exact absurd n (by decide)
    have e1 := t.ue
    have e2 := t'.ue
    have e3 : ((u * (d' * (d' * M)) : Int) : Rat) = (u : Rat) * ((d' * (d' * M) : Int) : Rat) := Rat.intCast_mul _ _
    have e4 : ((d * (d * M) * u' : Int) : Rat) = ((d * (d * M) : Int) : Rat) * (u' : Rat) := Rat.intCast_mul _ _
    rw [e3, e4, ← e1, ← e2]
    generalize ((d * (d * M) : Int) : Rat) = X
    generalize ((d' * (d' * M) : Int) : Rat) = Y
    grind
  · exact natAbs_mul_le t.ul l
/-- the next rung, behind the first -/
theorem pd_one (R : Rv r M) {d u : Int} {a : Nat} (t : Tn r M 0 d a u) : Pd r 1 (u * d) (bS a + a + 2) := by
  refine ⟨Int.mul_pos t.u0 t.pd.p, ?_, fun i => ?_⟩
  · exact Nat.le_trans (natAbs_mul_le t.ul t.pd.l) (Nat.pow_le_pow_right (by decide) (by omega))
  · rw [pol_succ]
    have e : stp r 0 * pre r 0 i = 0 := by
      show (0 : Rat) * _ = 0
      grind
    rw [e, show ∀ x : Rat, x - 0 = x from fun x => by grind]
    have x1 : Ov (u * d) (a + bS a) (if i = 0 then 0 else pol r 0 (i - 1)) := by
      split
      · exact Ov.zero
      · exact ((t.pd.v _).scale t.ul).cong (Int.mul_comm _ _)
    have x2 : Ov (u * d) (bS a + a) (lvl r 0 * pol r 0 i) := t.lv.mul (t.pd.v i)
    exact ((x1.mono (by omega)).sub x2).mono (by omega)
def bA (a a' : Nat) : Nat := bS a + 2 * a + 3 * a' + 52
theorem pd_more (R : Rv r M) {k : Nat} {d d' u u' : Int} {a a' : Nat} (t : Tn r M (k + 1) d a u) (t' : Tn r M k d' a' u') (n : 0 < nor r k) (le : a' ≤ a) : ∃ D, Pd r (k + 2) D (bA a a') := by
  have s := step_ov R t t' n
  have pm : 0 < d * (d * M) := Int.mul_pos t.pd.p (Int.mul_pos t.pd.p R.p)
  have lm : (d * M).natAbs ≤ 2 ^ (a + 8) := natAbs_mul_le t.pd.l R.m
  have l1 : (d * (d * M)).natAbs ≤ 2 ^ (a + (a + 8)) := natAbs_mul_le t.pd.l lm
  refine ⟨u * d * ((d * M) * (u' * d')), Int.mul_pos (Int.mul_pos t.u0 t.pd.p) (Int.mul_pos (Int.mul_pos t.pd.p R.p) (Int.mul_pos t'.u0 t'.pd.p)), ?_, fun i => ?_⟩
  · refine Nat.le_trans (natAbs_mul_le (natAbs_mul_le t.ul t.pd.l) (natAbs_mul_le lm (natAbs_mul_le t'.ul t'.pd.l))) (Nat.pow_le_pow_right (by decide) ?_)
    unfold bA bS
    omega
  · rw [pol_succ]
    have x1 : Ov (u * d * ((d * M) * (u' * d'))) (a + (bS a + ((a + 8) + (bS a' + a')))) (if i = 0 then 0 else pol r (k + 1) (i - 1)) := by
      split
      · exact Ov.zero
      · exact ((t.pd.v _).scale (natAbs_mul_le t.ul (natAbs_mul_le lm (natAbs_mul_le t'.ul t'.pd.l)))).cong (by grind)
    have x2 : Ov (u * d * ((d * M) * (u' * d'))) (bS a + a + ((a + 8) + (bS a' + a'))) (lvl r (k + 1) * pol r (k + 1) i) := (t.lv.mul (t.pd.v i)).scale (natAbs_mul_le lm (natAbs_mul_le t'.ul t'.pd.l))
    have x3 : Ov (u * d * ((d * M) * (u' * d'))) (bS a + (2 * a' + 8) + a' + bS a) (stp r (k + 1) * pre r (k + 1) i) := ((s.mul (t'.pd.v i)).scale t.ul).cong (by grind)
    have y1 := x1.mono (m := bA a a' - 2) (by unfold bA bS; omega)
    have y2 := x2.mono (m := bA a a' - 2) (by unfold bA bS; omega)
    have y3 := x3.mono (m := bA a a' - 1) (by unfold bA bS; omega)
    exact (((y1.sub y2).mono (m := bA a a' - 1) (by unfold bA; omega)).sub y3).mono (by unfold bA; omega)
end
end Fq


set_option linter.all false
set_option maxRecDepth 100000
set_option maxHeartbeats 400000
namespace Fq
open Rs (co co_get co_lt co_ge co_mem co_all)
def rf (x : Rat) : F := (x.num, (x.den : Int))
theorem rf_ok (x : Rat) : Ok (rf x) := ⟨by show (0 : Int) < (x.den : Int); exact_mod_cast x.den_pos, by show Nat.gcd x.num.natAbs (x.den : Int).natAbs = 1; rw [Int.natAbs_natCast]; exact x.reduced⟩
theorem rf_val (x : Rat) : val (rf x) = x := by
  show (x.num : Rat) / (((x.den : Nat) : Int) : Rat) = x
  rw [← Rat.divInt_eq_div]
  exact Rat.num_divInt_den x
theorem rf_of {q : F} (o : Ok q) : rf (val q) = q := val_inj (rf_ok _) o (rf_val _)
theorem rf_is {q : F} {x : Rat} (o : Ok q) (h : val q = x) : q = rf x := by rw [← h, rf_of o]
theorem rf_zero : rf 0 = (0, 1) := rfl
theorem rf_one : rf 1 = (1, 1) := rfl
theorem rf_cb {D : Int} {n : Nat} {x : Rat} (h : Ov D n x) : Cb D n (rf x) := ⟨rf_ok x, by rw [rf_val]; exact h⟩
def OkA (l : List F) : Prop := ∀ q ∈ l, Ok q
theorem OkA.co {l : List F} (h : OkA l) (k : Nat) : Ok (Rs.co l k) := co_all h ok01 k
theorem Ca.okA {D : Int} {n : Nat} {l : List F} (h : Ca D n l) : OkA l := fun q hq => (h q hq).ok
theorem list_eqO {a b : List F} (ha : OkA a) (hb : OkA b) (hl : a.length = b.length) (h : ∀ i, i < a.length → val (Rs.co a i) = val (Rs.co b i)) : a = b := by
  refine List.ext_getElem? fun i => ?_
  by_cases c : i < a.length
  · rw [co_lt c, co_lt (hl ▸ c), val_inj (ha.co i) (hb.co i) (h i c)]
  · rw [List.getElem?_eq_none (by omega), List.getElem?_eq_none (by omega)]
def rg (r : Nat → Rat) (k : Nat) : List F := (List.range (k + 1)).map fun i => rf (pol r k i)
def rgB (r : Nat → Rat) (k : Nat) : List F := if k = 0 then [] else rg r (k - 1)
theorem rg_len (r : Nat → Rat) (k : Nat) : (rg r k).length = k + 1 := by simp [rg]
theorem rg_ok (r : Nat → Rat) (k : Nat) : OkA (rg r k) := fun q hq => by
  obtain ⟨i, _, rfl⟩ := List.mem_map.mp hq
  exact rf_ok _
theorem rg_co (r : Nat → Rat) (k i : Nat) : val (co (rg r k) i) = pol r k i := by
  unfold rg
  rw [co_map]
  split
  · exact rf_val _
  · rw [val_zero, (pol_hi r k).1 i (by omega)]
theorem rg_zero (r : Nat → Rat) : rg r 0 = [(1, 1)] := rfl
theorem rg_ca {r : Nat → Rat} {k : Nat} {d : Int} {a : Nat} (h : Pd r k d a) : Ca d a (rg r k) := fun q hq => by
  obtain ⟨i, _, rfl⟩ := List.mem_map.mp hq
  exact rf_cb (h.v i)
theorem rg_pn (r : Nat → Rat) (k : Nat) : Rs.Pn (rg r k) := by
  right
  rw [rg_len, Nat.add_sub_cancel]
  intro z
  have := rg_co r k k
  rw [z, val_zero, (pol_hi r k).2.2] at this
  exact absurd this (by decide)
theorem rgB_co (r : Nat → Rat) (k i : Nat) : val (co (rgB r k) i) = pre r k i := by
  unfold rgB pre
  split
  · exact val_zero
  · exact rg_co _ _ _
theorem rgB_ok (r : Nat → Rat) (k : Nat) : OkA (rgB r k) := by
  unfold rgB
  split
  · exact fun q hq => by cases hq
  · exact rg_ok _ _
theorem rgB_len (r : Nat → Rat) (k : Nat) : (rgB r k).length = k := by
  unfold rgB
  split
  · rename_i h
    rw [h]
    rfl
  · rw [rg_len]
    omega
def plL (a b : List F) : List F := Rs.trim (Rs.byPower sub a b (max a.length b.length))
def scP (a : List F) (c : F) : List F := Rs.trim (a.map fun q => mul q c)
def nxt (before here : List F) (level step : F) : List F := plL (plL ((0, 1) :: here) (scP here level)) (scP before step)
theorem shift_co (l : List F) (i : Nat) : co ((0, 1) :: l) i = if i = 0 then (0, 1) else co l (i - 1) := by
  cases i with
  | zero => rfl
  | succ i => rfl
theorem shift_okA {l : List F} (h : OkA l) : OkA ((0, 1) :: l) := fun q hq => by
  rcases List.mem_cons.mp hq with rfl | hq
  · exact ok01
  · exact h q hq
theorem shift_val (l : List F) (i : Nat) : val (co ((0, 1) :: l) i) = if i = 0 then 0 else val (co l (i - 1)) := by
  rw [shift_co]
  split
  · exact val_zero
  · rfl
theorem scP_okA {c : F} {a : List F} (hc : Ok c) (ha : OkA a) : OkA (scP a c) ∧ (∀ i, val (co (scP a c) i) = val c * val (co a i)) ∧ (scP a c).length ≤ a.length := by
  refine ⟨fun q hq => ?_, fun i => ?_, ?_⟩
  · obtain ⟨r, hr, rfl⟩ := List.mem_map.mp (Rs.trim_mem hq)
    exact ok_mul' (ha r hr).1 hc.1
  · unfold scP
    rw [trim_co, co_map1]
    split
    · rw [val_mul (ha.co i).1 hc.1]
      grind
    · rw [co_ge (qs := a) (by omega), val_zero]
      grind
  · have := Rs.trim_len (a.map fun q => mul q c)
    rw [List.length_map] at this
    exact this
theorem plL_okA {a b : List F} (ha : OkA a) (hb : OkA b) (hl : b.length ≤ a.length) (hz : val (co a (a.length - 1)) - val (co b (a.length - 1)) ≠ 0) :
    OkA (plL a b) ∧ (∀ i, val (co (plL a b) i) = val (co a i) - val (co b i)) ∧ (plL a b).length = a.length := by
  have t : ∀ i, val (co (Rs.byPower sub a b a.length) i) = val (co a i) - val (co b i) := by
    intro i
    unfold Rs.byPower
    rw [co_map]
    split
    · exact val_sub (ha.co i).1 (hb.co i).1
    · rw [co_ge (qs := a) (by omega), co_ge (qs := b) (by omega), val_zero]
      grind
  have e : max a.length b.length = a.length := Nat.max_eq_left hl
  have p : Rs.Pn (Rs.byPower sub a b a.length) := by
    right
    rw [Rs.byPower_len]
    intro z
    have := t (a.length - 1)
    rw [z, val_zero] at this
    exact hz this.symm
  unfold plL
  rw [e, Rs.trim_of p]
  refine ⟨fun q hq => ?_, t, Rs.byPower_len _ _ _ _⟩
  obtain ⟨k, rfl⟩ := Rs.byPower_mem hq
  exact ok_sub' (ha.co k).1 (hb.co k).1
theorem nxt_rg (r : Nat → Rat) (k : Nat) : nxt (rgB r k) (rg r k) (rf (lvl r k)) (rf (stp r k)) = rg r (k + 1) := by
  obtain ⟨h1, h2, h3⟩ := pol_hi r k
  have s1 := shift_okA (rg_ok r k)
  obtain ⟨c1, c2, c3⟩ := scP_okA (rf_ok (lvl r k)) (rg_ok r k)
  have sl : ((0, 1) :: rg r k).length = k + 2 := by rw [List.length_cons, rg_len]
  obtain ⟨l1, l2, l3⟩ := plL_okA s1 c1 (by rw [sl]; have := rg_len r k; omega) (by
    rw [sl, shift_val, c2, if_neg (by omega), show k + 2 - 1 - 1 = k by omega, rg_co, rg_co, h3, h1 _ (by omega)]
    grind)
  obtain ⟨d1, d2, d3⟩ := scP_okA (rf_ok (stp r k)) (rgB_ok r k)
  obtain ⟨m1, m2, m3⟩ := plL_okA l1 d1 (by rw [l3, sl]; have := rgB_len r k; omega) (by
    rw [l3, sl, l2, shift_val, c2, d2, if_neg (by omega), show k + 2 - 1 - 1 = k by omega, rg_co, rg_co, h3, h1 _ (by omega), rgB_co, h2 _ (by omega)]
    grind)
  refine list_eqO m1 (rg_ok _ _) (by show (plL _ _).length = _; rw [m3, l3, sl, rg_len]) fun i _ => ?_
  show val (co (plL _ _) i) = _
  rw [m2, l2, shift_val, c2, d2, rg_co, rg_co, rgB_co, rg_co, pol_succ, rf_val, rf_val]
def aB (k : Nat) : Nat := if k = 0 then 0 else if k = 1 then 44 else if k = 2 then 270 else if k = 3 then 1306 else 6128
theorem pd_all {r : Nat → Rat} {M : Int} (R : Rv r M) : ∀ k, k ≤ 4 → (∀ j, j < k → 0 < nor r j) → ∃ d, Pd r k d (aB k)
  | 0, _, _ => ⟨1, pd_zero⟩
  | 1, _, n => by
    obtain ⟨u, t⟩ := turn R (pd_zero (r := r)) (by decide) (n 0 (by decide))
    exact ⟨_, pd_one R t⟩
  | k + 2, h, n => by
    obtain ⟨d, p⟩ := pd_all R (k + 1) (by omega) fun j hj => n j (by omega)
    obtain ⟨d', p'⟩ := pd_all R k (by omega) fun j hj => n j (by omega)
    obtain ⟨u, t⟩ := turn R p (by omega) (n (k + 1) (by omega))
    obtain ⟨u', t'⟩ := turn R p' (by omega) (n k (by omega))
    have le : aB k ≤ aB (k + 1) := by
      rcases (by omega : k = 0 ∨ k = 1 ∨ k = 2) with rfl | rfl | rfl <;> decide
    obtain ⟨D, q⟩ := pd_more R t t' (n k (by omega)) le
    refine ⟨D, ?_⟩
    have e : aB (k + 2) = bA (aB (k + 1)) (aB k) := by
      rcases (by omega : k = 0 ∨ k = 1 ∨ k = 2) with rfl | rfl | rfl <;> decide
    rw [e]
    exact q
end Fq


set_option Elab.async false
set_option linter.all false
set_option maxRecDepth 100000
set_option maxHeartbeats 1000000
namespace EnT
open PySem PySem.Spec PyProof.Rows L2
theorem meets_new {v : Value} {o : Obj} {H : Heap → Prop} (B : Begins v o H) :
    Meets (Builtin.«enumerate.__new__» ⟨[.type "enumerate", v], []⟩) (fun _ R s => H s.heap ∧
      R (.ok (.ret (.ref (s.heap.push o).objs.size))) { s with heap := (s.heap.push o).push { cls := .type "enumerate", data := .fields #[.none, .bool false, .ref s.heap.objs.size, rawInt 0, .none, .none] } }) :=
  .of_wp fun prog w A R s h => by
    obtain ⟨hp, g, d, tk, os⟩ := s; obtain ⟨h1, h⟩ := h
    have hsub := sub_enumerate
    have q1 : ∀ {A' : Around} {E : Value → Shared → Prop} {Q : Value → Shared → Prop}, Q (.ref hp.objs.size) ⟨hp.push o, g, d, tk, os⟩ → wpAny (model prog w) A' (pyIter v) Q E ⟨hp, g, d, tk, os⟩ :=
      fun q => B.iter prog w _ _ ⟨hp, g, d, tk, os⟩ _ h1 q
    wp_walk using q1
    refine wpAny_stack_any fun st => wpAny_pure ?_
    split
    · rename_i c _ _ _ _ _
      cases (c == Value.type "enumerate")
      · wp_walk using q1
        exact ⟨_, rfl, h⟩
      · wp_walk using q1
        exact ⟨_, rfl, h⟩
    · wp_walk using q1
      exact ⟨_, rfl, h⟩
theorem call_enum {prog : Program} {w : World} {A : Around} {E : Value → Shared → Prop} {s : Shared} {v : Value} {o : Obj} {H : Heap → Prop} {Q : Value → Shared → Prop} (B : Begins v o H) (h1 : H s.heap)
    (h : ∀ h', IsEnum h' (s.heap.objs.size + 1) s.heap.objs.size 0 .none → h'.get? s.heap.objs.size = some o → h'.objs.size = s.heap.objs.size + 2 →
      (∀ b o, s.heap.get? b = some o → h'.get? b = some o) → Q (.ref (s.heap.objs.size + 1)) { s with heap := h' }) :
    wpAny (model prog w) A (call (.type "enumerate") [v]) Q E s := by
  refine callType_new F.called_enumerate (by decide) (F.typeCall_enumerate_1 _) (F.newCall_enumerate_1 _) (fun obj => F.args_object_init_2 obj _) F.entry_enumerate_new
    (meets_new B) ⟨h1, ?_⟩
  have hz : (s.heap.push o).objs.size = s.heap.objs.size + 1 := Heap.size_push ..
  show _ ∧ _
  rw [hz]
  have he : IsEnum ((s.heap.push o).push { cls := .type "enumerate", data := .fields #[.none, .bool false, .ref s.heap.objs.size, rawInt 0, .none, .none] }) (s.heap.objs.size + 1) s.heap.objs.size 0 .none := by
    have := Heap.get?_push_size (s.heap.push o) (o := { cls := .type "enumerate", data := .fields #[.none, .bool false, .ref s.heap.objs.size, rawInt 0, .none, .none] }) rfl
    rw [hz] at this; exact this
  refine ⟨⟨_, he, rfl⟩, h _ he (Heap.get?_push_of_some _ (Heap.get?_push_size _ B.free)) (by rw [Heap.size_push, hz]) fun b o x => Heap.get?_push_of_some _ (Heap.get?_push_of_some _ x)⟩
/-- the turns -/
def IteT (K : PySem.W.Frag) (a : Addr) : It :=
  ⟨fun i H => ∃ (xs : List V) (x : V), SqT K H a xs ∧ xs[i]? = some x, fun i H v H' => ∃ T x, v = .ref T ∧ H T = none ∧ H' = upd H T (.tup [.int (i : Nat), x]) ∧ ∀ xs, SqT K H a xs → xs[i]? = some x, fun i H => ∃ xs : List V, SqT K H a xs ∧ xs.length ≤ i⟩
theorem turn_enumT {P : Program} {w : World} {K : PySem.W.Frag} {elts : List Expr} {kk : Nat} {tpos : Pos} (a e it : Addr) (n : Nat) :
    Turn P w K (.Tuple elts kk tpos) (IteT K a) [e, it] e (fun i h => (∃ old, IsEnum h e it ((i : Nat) : Int) old) ∧ h.IsTupleIter it a i ∧ e ≠ it ∧ a ≠ it ∧ a ≠ e) where
  mem := by simp
  obj := fun i h st b hb => by
    obtain ⟨⟨old, he⟩, ⟨o, ho, hc, hd⟩, _⟩ := st
    have e' : b = e ∨ b = it := by simpa using hb
    rcases e' with z | z
    · rw [z]; exact ⟨_, he, fun v q => nomatch q⟩
    · rw [z]; exact ⟨o, ho, fun v q => by rw [hd] at q; cases q⟩
  keep := fun i h h' st k => let ⟨⟨old, he⟩, hi, hne⟩ := st; ⟨⟨old, k e (by simp) _ he⟩, hi.at fun o q => k it (by simp) o q, hne⟩
  item := by
    intro X hP hw hK hc i pins s σ H E I hf st hg
    subst hP hw hK
    obtain ⟨⟨old, he⟩, hit, hne, hai, hae⟩ := st
    obtain ⟨xs, x, hq, hx⟩ := hg
    obtain ⟨its, rv, p, hz⟩ := I.tuple hq
    obtain ⟨u, hu, ru⟩ := rv.get hx
    have hel : e < s.heap.objs.size := Heap.lt_size he
    have hil : it < s.heap.objs.size := by obtain ⟨_, q, _⟩ := hit; exact Heap.lt_size q
    have hlt : i < its.toArray.size := by
      obtain ⟨hlt, _⟩ := List.getElem?_eq_some_iff.mp hu
      simpa using hlt
    have p' : s.heap.IsTuple a its.toArray := p
    refine wpAny_pyNext_enum_itemD (Draws.tuple (A := X.A.in1) (I.ok.hd hc) it a hai its.toArray) he ⟨hit, p'⟩ hlt hne (by simp [hne, Ne.symm hae]) fun x' h' tk hP ho hit' hT hsz hk => ?_
    have ex : x' = u := by
      have : its[i]? = some x' := by simpa using hP
      rw [hu] at this
      exact (Option.some.inj this).symm
    subst ex
    refine ⟨_, rfl, wpAny_letOwnedTupleGo_enum (s := { s with heap := h', toks := tk + 1 }) ho fun h'' he' sb => ?_⟩
    have hT2 : h''.get? s.heap.objs.size = some { cls := .type "tuple", data := .seq #[.int i tk, x'] } := (sb.2 _ (Nat.ne_of_gt hel)).trans hT
    have new : ObjOk X.prog X.w (upd H s.heap.objs.size (.tup [.int (i : Nat), x])) h'' s.heap.objs.size (.tup [.int (i : Nat), x]) :=
      ⟨by show 2 ≤ sizeLine; decide, [.int i tk, x'], .cons ⟨_, rfl⟩ (.cons ru .nil), ⟨_, hT2, rfl, _, rfl⟩⟩
    have I1 : Inv X pins σ (upd H s.heap.objs.size (.tup [.int (i : Nat), x])) { s with heap := h'', toks := tk + 1 } :=
      I.turnedNew (ch := [e, it]) (fun b ob hb q => (sb.2 b (fun z => hb (by simp [z]))).trans (hk b ob (fun z => hb (by simp [z])) (fun z => hb (by simp [z])) q)) hf (Nat.le_refl _) new
    refine ⟨.ref s.heap.objs.size, _, I1, rfl, ⟨_, x, rfl, I.hok.fresh (Nat.le_refl _), rfl, fun ys hy => by rw [I.tuple_inj hy hq]; exact hx⟩, ⟨⟨x', ?_⟩, hit'.1.at fun o q => (sb.2 it (Ne.symm hne)).trans q, hne, hai, hae⟩, fun b hb => ?_⟩
    · have e1 : ((i + 1 : Nat) : Int) = (i : Int) + 1 := by omega
      rw [e1]; exact he'
    · have hb' : b < s.heap.objs.size := by
        have e' : b = e ∨ b = it := by simpa using hb
        rcases e' with z | z
        · rw [z]; exact hel
        · rw [z]; exact hil
      rw [upd_ne (Nat.ne_of_lt hb')]
      exact (hf b hb).1
  done := by
    intro X hP hw hK hc i pins s σ H E I hf st hg
    subst hP hw hK
    obtain ⟨⟨old, he⟩, hit, hne, hai, hae⟩ := st
    obtain ⟨xs, hq, hx⟩ := hg
    obtain ⟨its, rv, p, hz⟩ := I.tuple hq
    obtain ⟨f0, f1, f2, f3, f4, f5⟩ := hf it (by simp)
    have hl := rv.length
    have hT : s.TypeIs (.ref e) "enumerate" := ⟨_, he, rfl⟩
    unfold pyNext
    refine wpAny_bind (wpAny_attempt (wpAny_callSpecial?_slot (name := Str.ofString "__next__") hT F.slot_enumerate_next
      (wpAny_call_entry F.slot_enumerate_next hT F.entry_enumerate_next ?_ (F.args_enumerate_next_1 _))))
    show wpAny _ _ (field (.ref e) 2 >>= _) _ _ _
    refine wpAny_bind (wpAny_field he rfl (x := .ref it) rfl ?_)
    refine wpAny_bind (wpAny_nextOf_tuple_end (A := X.A.in1) (I.ok.hd hc) hit (show s.heap.IsTuple a its.toArray from p) (by simp; omega) fun h' e' eb hx' => ?_)
    obtain ⟨o, ho, hcl⟩ := hx'
    refine wpAny_bind (wpAny_isInstance (T := "StopIteration") (b := true) ⟨o, ho, hcl⟩ isSubtype_stop ?_)
    exact wpAny_pure ⟨rfl, I.turned (t' := s.toks) (fun b o hb q => eb b o hb q) f0 f1 f3 f4 f5⟩
  self := fun A i s Q E st h => let ⟨⟨_, he⟩, _⟩ := st; wpAny_pyIter_enum he h
def iEnumT (K : PySem.W.Frag) (ta : TA) : TI := fun σ H R => ta σ H fun vs H1 => ∃ a xs, vs = [.ref a] ∧ SqT K H1 a xs ∧ R (IteT K a) H1
theorem pi_enumT {X : Cx} {e : Expr} {ta : TA} {p pos tpos : Pos} {elts : List Expr} {kk : Nat} (hg : Gl X "enumerate") (hm : X.mg "enumerate" = none) (ha : PA X [e] ta) (hs : starEach [e] X.env = [(false, eval e X.env)] := by rfl) :
    PI X (.Tuple elts kk tpos) (.Call (.Name "enumerate" p) [e] [] pos) (iEnumT X.K ta) := by
  refine ⟨fun pins s σ H R I h => ?_⟩
  refine Call_ (ld_blt I hg hm boot_enumerate (PyProof.Rows.callWith_type1 (thn (ha.run pos pins s σ H _ I h) fun us s1 ⟨vs, H1, I1, r1, q1⟩ => ?_) hs rfl))
  obtain ⟨a, xs, ex, hq, q⟩ := q1
  subst ex
  cases r1 with
  | cons r rr =>
    cases rr
    cases r
    obtain ⟨its, rv, p', hz⟩ := I1.tuple hq
    have pt : s1.heap.IsTuple a its.toArray := p'
    have hal : a < s1.heap.objs.size := by
      obtain ⟨o, z, _⟩ := id pt
      exact Heap.lt_size z
    refine call_enum (begins_tuple a its.toArray) pt fun h' he hit hsz hk => wpAny_pyIter_enum he ?_
    have I2 : Inv X pins σ H1 { s1 with heap := h' } := I1.kept (t' := s1.toks) hk
    refine ⟨s1.heap.objs.size + 1, [s1.heap.objs.size + 1, s1.heap.objs.size], _, _, H1, rfl, I2, turn_enumT a (s1.heap.objs.size + 1) s1.heap.objs.size 0, ⟨⟨.none, he⟩, ⟨_, hit, rfl, rfl⟩, Nat.succ_ne_self _, Nat.ne_of_lt hal, Nat.ne_of_lt (Nat.lt_succ_of_lt hal)⟩, fun b hb => ?_, q⟩
    have e' : b = s1.heap.objs.size + 1 ∨ b = s1.heap.objs.size := by simpa using hb
    have hle : s1.heap.objs.size ≤ b := by
      rcases e' with z | z
      · rw [z]; exact Nat.le_add_right _ _
      · rw [z]; exact Nat.le_refl _
    exact I1.fpOk hle (I1.hok.fresh hle)
end EnT


set_option Elab.async false
set_option linter.all false
set_option maxRecDepth 100000
set_option maxHeartbeats 400000
namespace Rs
open PySem L2 Bs Fq LamX
theorem FrAll.set {K : PySem.W.Frag} {H : Hp} : ∀ {vs : List V} {qs : List F} {v : V} {q : F} (i : Nat), FrAll K H vs qs → Fr K H v q → FrAll K H (vs.set i v) (qs.set i q)
  | _, _, _, _, _, .nil, h => .nil
  | _, _, _, _, 0, .cons a b, h => .cons h b
  | _, _, _, _, i + 1, .cons a b, h => .cons a (FrAll.set i b h)
theorem FrAll.rep {K : PySem.W.Frag} {H : Hp} {v : V} {q : F} (h : Fr K H v q) : ∀ n : Nat, FrAll K H (List.replicate n v) (List.replicate n q)
  | 0 => .nil
  | n + 1 => .cons h (FrAll.rep h n)
/-- a bottom and a size that the reckoning bears -/
structure Bd (D : Int) (n : Nat) : Prop where
  p : 0 < D
  l : D.natAbs ≤ 2 ^ 4390
  n : n ≤ 4390
theorem cb_dm {D : Int} {n : Nat} {q : F} (h : Cb D n q) (b : Bd D n) : Dm q := by
  obtain ⟨x, y, z⟩ := h.small b.p b.l b.n
  have lt : 2 ^ 4390 < 2 ^ 4400 := Nat.pow_lt_pow_right (by decide) (by decide)
  exact ⟨Nat.lt_of_le_of_lt x lt, y, Nat.lt_of_le_of_lt z lt⟩
theorem Bd.mono {D : Int} {n m : Nat} (b : Bd D n) (e : m ≤ n) : Bd D m := ⟨b.p, b.l, Nat.le_trans e b.n⟩
theorem Bd.of {D : Int} {n N : Nat} (p : 0 < D) (l : D.natAbs ≤ 2 ^ N) (h : N ≤ 4390) (e : n ≤ 4390) : Bd D n := ⟨p, Nat.le_trans l (Nat.pow_le_pow_right (by decide) h), e⟩
theorem Dm.dl {q : F} (h : Dm q) : Dl q := ⟨h.big, h.pos, h.low⟩
theorem cb_dl {D : Int} {n : Nat} {q : F} (h : Cb D n q) (b : Bd D n) : Dl q := (cb_dm h b).dl
theorem ca_dm {D : Int} {n : Nat} {l : List F} (h : Ca D n l) (b : Bd D n) : ∀ q ∈ l, Dm q := fun q hq => cb_dm (h q hq) b
theorem walk_enumT {K : PySem.W.Frag} {a : Addr} {xs : List V} : Walk (EnT.IteT K a) xs.length (fun H => SqT K H a xs) (YPair (fun i => some (.int (i : Nat))) (fun i => xs[i]?)) := by
  refine ⟨fun i _ hi q => ⟨xs, xs[i], q, by simp [hi]⟩, fun _ q => ⟨xs, q, Nat.le_refl _⟩, fun i H v H' _ q y => ?_⟩
  obtain ⟨T, x, h1, h2, h3, h4⟩ := y
  exact ⟨T, .int (i : Nat), x, h1, h2, h3, rfl, h4 xs q⟩
end Rs


set_option Elab.async false
set_option linter.all false
set_option maxRecDepth 100000
set_option maxHeartbeats 400000
namespace Rs
open PySem L2 Bs Fq LamX
def dP (qs : List F) : PyData := .tuple (qs.map dF)
def fracsD (n : Int) : PyData → Bool
  | .tuple ds => decide ((ds.length : Int) ≤ n) && ds.all fracD
  | _ => false
def lastNz (ds : List PyData) : Bool :=
  match ds.getLast? with
  | none => true
  | some d => !(PyData.eqv d (dF (0, 1)))
def polyD : PyData → Bool
  | .tuple ds => decide ((ds.length : Int) ≤ 12) && ds.all fracD && lastNz ds
  | _ => false
theorem FrAll.dp {K : PySem.W.Frag} {H : Hp} : ∀ {vs : List V} {qs : List F}, FrAll K H vs qs → DpAll K H vs (qs.map dF)
  | _, _, .nil => .nil
  | _, _, .cons a b => .cons a.dp (FrAll.dp b)
theorem Po.dp {K : PySem.W.Frag} {H : Hp} {v : V} {qs : List F} (h : Po K H v qs) : Dp K H v (dP qs) := by
  obtain ⟨a, xs, rfl, s, f⟩ := h
  exact .tup s f.dp
theorem dp_frAll {K : PySem.W.Frag} {H : Hp} : ∀ {vs : List V} {qs : List F}, DpAll K H vs (qs.map dF) → FrAll K H vs qs
  | _, [], h => by
    cases h
    exact .nil
  | _, q :: qs, h => by
    cases h with
    | cons h1 h2 => exact .cons (dp_fr h1) (dp_frAll h2)
theorem dp_po {K : PySem.W.Frag} {H : Hp} {v : V} {qs : List F} (h : Dp K H v (dP qs)) : Po K H v qs := by
  cases h with
  | tup s f => exact ⟨_, _, rfl, s, dp_frAll f⟩
theorem all_frac : ∀ {ds : List PyData}, ds.all fracD = true → ∃ qs : List F, ds = qs.map dF ∧ ∀ q ∈ qs, Fq.Ok q
  | [], _ => ⟨[], rfl, fun q h => by simp at h⟩
  | d :: ds, h => by
    rw [List.all_cons, Bool.and_eq_true] at h
    obtain ⟨q, rfl, o⟩ := fracD_true h.1
    obtain ⟨qs, rfl, os⟩ := all_frac h.2
    refine ⟨q :: qs, rfl, fun r hr => ?_⟩
    rcases List.mem_cons.mp hr with rfl | h
    · exact o
    · exact os r h
theorem all_frac_of : ∀ {qs : List F}, (∀ q ∈ qs, Fq.Ok q) → (qs.map dF).all fracD = true
  | [], _ => rfl
  | q :: qs, h => by
    rw [List.map_cons, List.all_cons, fracD_dF (h q List.mem_cons_self), Bool.true_and]
    exact all_frac_of fun r hr => h r (List.mem_cons_of_mem _ hr)
instance (qs : List F) : Decidable (Pn qs) := inferInstanceAs (Decidable (qs = [] ∨ co qs (qs.length - 1) ≠ (0, 1)))
theorem lastNz_map (qs : List F) : lastNz (qs.map dF) = decide (Pn qs) := by
  unfold lastNz
  rw [List.getLast?_map]
  cases e : qs.getLast? with
  | none =>
    have : qs = [] := List.getLast?_eq_none_iff.mp e
    exact (decide_eq_true (show Pn qs from Or.inl this)).symm
  | some q =>
    show (!(PyData.eqv (dF q) (dF (0, 1)))) = _
    rw [eqv_nought]
    have hn : qs ≠ [] := fun z => by rw [z] at e; cases e
    have ec : co qs (qs.length - 1) = q := by
      refine co_get ?_
      rw [← List.getLast?_eq_getElem?, e]
    by_cases c : q = (0, 1)
    · rw [decide_eq_true c]
      refine (decide_eq_false ?_).symm
      rintro (z | z)
      · exact hn z
      · exact z (ec.trans c)
    · rw [decide_eq_false c]
      exact (decide_eq_true (show Pn qs from .inr (fun z => c (ec.symm.trans z)))).symm
theorem polyD_true {d : PyData} (h : polyD d = true) : ∃ qs : List F, d = dP qs ∧ (∀ q ∈ qs, Fq.Ok q) ∧ qs.length ≤ 12 ∧ Pn qs := by
  unfold polyD at h
  split at h
  · rename_i ds
    rw [Bool.and_eq_true, Bool.and_eq_true] at h
    obtain ⟨⟨h1, h2⟩, h3⟩ := h
    obtain ⟨qs, rfl, o⟩ := all_frac h2
    rw [lastNz_map] at h3
    have := of_decide_eq_true h1
    rw [List.length_map] at this
    exact ⟨qs, rfl, o, by omega, of_decide_eq_true h3⟩
  · cases h
theorem polyD_of {qs : List F} (o : ∀ q ∈ qs, Fq.Ok q) (l : qs.length ≤ 12) (p : Pn qs) : polyD (dP qs) = true := by
  show (decide (((qs.map dF).length : Int) ≤ 12) && (qs.map dF).all fracD && lastNz (qs.map dF)) = true
  rw [all_frac_of o, lastNz_map, decide_eq_true p, List.length_map, decide_eq_true (by omega)]
  rfl
theorem fracsD_of {qs : List F} (o : ∀ q ∈ qs, Fq.Ok q) (l : qs.length ≤ 12) : fracsD 12 (dP qs) = true := by
  show (decide (((qs.map dF).length : Int) ≤ 12) && (qs.map dF).all fracD) = true
  rw [all_frac_of o, List.length_map, decide_eq_true (by omega)]
  rfl
theorem fracsD_true {n : Int} {d : PyData} (h : fracsD n d = true) : ∃ qs : List F, d = dP qs ∧ (∀ q ∈ qs, Fq.Ok q) ∧ (qs.length : Int) ≤ n := by
  unfold fracsD at h
  split at h
  · rename_i ds
    rw [Bool.and_eq_true] at h
    obtain ⟨h1, h2⟩ := h
    obtain ⟨qs, rfl, o⟩ := all_frac h2
    have := of_decide_eq_true h1
    rw [List.length_map] at this
    exact ⟨qs, rfl, o, this⟩
  · cases h
theorem polyD_eq (d : PyData) : polyD d = (fracsD 12 d && match d with | .tuple ds => lastNz ds | _ => false) := by
  cases d <;> rfl
theorem dF_inj {q r : F} (h : dF q = dF r) : q = r := by
  obtain ⟨a, b⟩ := q
  obtain ⟨c, d⟩ := r
  simp only [dF, PyData.tuple.injEq, List.cons.injEq, PyData.int.injEq, and_true] at h
  rw [h.1, h.2]
theorem map_dF_inj : ∀ {qs rs : List F}, qs.map dF = rs.map dF → qs = rs
  | [], [], _ => rfl
  | [], _ :: _, h => by cases h
  | _ :: _, [], h => by cases h
  | q :: qs, r :: rs, h => by
    rw [List.map_cons, List.map_cons, List.cons.injEq] at h
    rw [dF_inj h.1, map_dF_inj h.2]
theorem dP_inj {qs rs : List F} (h : dP qs = dP rs) : qs = rs := by
  simp only [dP, PyData.tuple.injEq] at h
  exact map_dF_inj h
abbrev sAreF : Stmt := top 24
def spAreF (K : PySem.W.Frag) : Sp := fun vs H Q _ => ∃ (v : V) (d : PyData) (n : Int), vs = [v, .int n] ∧ Dp K H v d ∧ n ≤ 12 ∧ ∀ H', Same H H' → Q (.bl (fracsD n d)) H'
theorem dpAll_at {K : PySem.W.Frag} {H : Hp} : ∀ {ds : List PyData} {xs : List V} {i : Nat} {x : V}, DpAll K H xs ds → xs[i]? = some x → ∃ d, ds[i]? = some d ∧ Dp K H x d
  | _, _, i, x, .nil, h => by simp at h
  | _, _, 0, x, .cons h1 h2, h => by
    simp only [List.getElem?_cons_zero, Option.some.injEq] at h
    rw [← h]
    exact ⟨_, rfl, h1⟩
  | _, _, i + 1, x, .cons h1 h2, h => by
    simp only [List.getElem?_cons_succ] at h
    obtain ⟨d, m, e⟩ := dpAll_at h2 h
    exact ⟨d, m, e⟩
/-- data kept where all is kept -/
theorem sqL_same {K : PySem.W.Frag} {H H' : Hp} (e : Same H H') {a : Addr} {xs : List V} (h : SqL K H a xs) : SqL K H' a xs := e.seq h
mutual
theorem dp_same' {K : PySem.W.Frag} {H H' : Hp} (e : Same H H') : ∀ (d : PyData) (v : V), Dp K H v d → Dp K H' v d
  | .none, _, h => by
    cases h
    exact .non
  | .bool b, _, h => by
    cases h
    exact .bl _
  | .int i, _, h => by
    cases h
    exact .int _
  | .str x, _, h => by
    cases h
    exact .str _
  | .list ds, _, h => by
    cases h with
    | lst hs ha => exact .lst (sqL_same e hs) (dpAll_same' e ds _ ha)
  | .tuple ds, _, h => by
    cases h with
    | tup hs ha => exact .tup (Bs.Same.t e hs) (dpAll_same' e ds _ ha)
  | .dict _, _, h => by cases h
theorem dpAll_same' {K : PySem.W.Frag} {H H' : Hp} (e : Same H H') : ∀ (ds : List PyData) (vs : List V), DpAll K H vs ds → DpAll K H' vs ds
  | [], _, h => by
    cases h
    exact .nil
  | d :: ds, _, h => by
    cases h with
    | cons h1 h2 => exact .cons (dp_same' e d _ h1) (dpAll_same' e ds _ h2)
end
theorem dps {K : PySem.W.Frag} {H H' : Hp} (e : Same H H') {d : PyData} {v : V} (h : Dp K H v d) : Dp K H' v d := dp_same' e d v h
section
variable {P : Program} {w : World} {K : PySem.W.Frag} {mg : Str → Option Value} {base : Heap} {f : Addr} {fd : FuncData}
theorem scAreF : FnScope ["thing", "most", "part"] ["thing", "most"] (defScope sAreF) := ⟨rfl, rfl, rfl, by decide +kernel, rfl, by decide +kernel, by decide +kernel⟩
theorem ok_areF (F : Fun K "are_fractions" "are_fractions" sAreF f fd) (T : Blt mg) (al : mg "all" = none) (W : Cal P w K mg base 2 "is_fraction" (spFraction K)) : FnOk P w K mg base CX0 3 f fd ["thing", "most"] (spAreF K) := by
  refine F.ok scAreF (fun vs H Q E h => ?_) (fun cdv A outer s H vs Q E hr h => ?_)
  · obtain ⟨v, d, n, rfl, _⟩ := h
    rfl
  · obtain ⟨v, d, n, rfl, hd, hn, kk⟩ := h
    refine ⟨_, pss_one (ps_ret (pe_and (pe_callB call_isi (by rfl) T.isinstance (by decide +kernel) (pa_cons (pv 0) (pa_cons (pe_bltn (v := .ty "tuple") (by rfl) T.tuple (by decide +kernel) rfl) pa_nil)))
      (pe_and (pe_cmpR op_le (pe_callB call_len_seq (by rfl) T.len (by decide +kernel) (pa_cons (pv 0) pa_nil)) (pv 1) (nomark _))
        (pe_one (pe_callB (cr_all rfl) (by rfl) al (by decide +kernel) (pa_cons (pe_lc (own := [("part", 2)]) (g := gName 2) (tt := tYes) rfl scAreF.nd (pi_tup (pv 0)) (blkOk_by (N := ["thing", "most", "part"]) (sc := defScope sAreF) (by decide +kernel))
          (fun _ _ _ _ _ => pg_name (i := 2) scAreF.nd rfl (Or.inl rfl)) (fun _ _ _ _ _ => pts_nil)
          (fun _ _ _ _ _ => pe_n W hr (by decide) (by rfl) (pa_cons (pv 2) pa_nil))) pa_nil)))))), ?_⟩
    refine ⟨v, rfl, v, _, _, _, _, rfl, .ty _, hd.ty, kitT K d, _, rfl, ?_⟩
    have no : fracsD n d = false → isTup d = false → Q (.bl false) H := fun e _ => by
      have := kk H (fun _ _ z => z)
      rwa [e] at this
    cases d with
    | tuple ds =>
      refine iteT ?_
      cases hd with
      | tup sq all =>
        rename_i a xs
        have l := dpAll_len all
        refine ⟨_, rfl, a, xs, rfl, Or.inr sq, _, rfl, _, _, rfl, rfl, _, rfl, ?_⟩
        have e : fracsD n (.tuple ds) = (decide ((xs.length : Int) ≤ n) && ds.all fracD) := by rw [l]; rfl
        refine ite2 (fun c => ?_) (fun c => ?_)
        · have cl : (xs.length : Int) ≤ n := of_decide_eq_true c
          rw [decide_eq_true cl, Bool.true_and] at e
          refine ⟨_, rfl, a, rfl, ⟨_, sq⟩, fun D hD => lc_tup (K := K) (a := a) (xs := xs) (fun i H2 => Same H H2 ∧ H2 D = some (.lst (((ds.take i).map fracD).map V.bl))) ⟨same_new hD, upd_same⟩ (fun i H2 _ z => Bs.Same.t z.1 sq) ?_ ?_⟩
          · rintro i x H2 hx ⟨s2, hD2⟩
            obtain ⟨d', hd', dd⟩ := dpAll_at all hx
            refine ⟨rfl, ?_⟩
            refine iteT (B := Same H H2 ∧ H2 D = some (.lst (((ds.take (i + 1)).map fracD).map V.bl))) ?_
            refine ⟨_, rfl, x, d', rfl, dps s2 dd, ?_⟩
            refine ⟨_, hD2, ?_, fun b o e => (upd_ne (ne_of_none e hD)).trans (s2 b o e), ?_⟩
            · rw [List.length_map, List.length_map, List.length_take]
              exact small1000 (by omega)
            · rw [upd_same, take_one hd', List.map_append, List.map_append]
              rfl
          · rintro H2 ⟨s2, hD2⟩
            rw [l, List.take_length] at hD2
            refine ⟨D, _, rfl, SqL.of hD2, ?_⟩
            have := kk H2 s2
            rw [e] at this
            rw [List.all_map]
            exact this
        · have := kk H (fun _ _ z => z)
          rw [e, Bool.eq_false_iff.mpr c, Bool.false_and] at this
          exact this
    | none => exact iteF (no rfl rfl)
    | bool b => exact iteF (no rfl rfl)
    | int i => exact iteF (no rfl rfl)
    | str x => exact iteF (no rfl rfl)
    | list xs => exact iteF (no rfl rfl)
    | dict xs => exact iteF (no rfl rfl)
end
end Rs


set_option Elab.async false
set_option linter.all false
set_option maxRecDepth 100000
set_option maxHeartbeats 400000
namespace Rs
open PySem L2 Bs Fq LamX
def spInitW (K : PySem.W.Frag) (C : Addr) (fld : Str) : Sp := fun vs H Q _ => ∃ (a : Addr) (y : V), vs = [.ref a, y] ∧ H a = some (exo a C none) ∧
  ∀ dx, H dx = none → dx ≠ a → Q .non (upd (upd H dx (exd dx [(fld, y)])) a (exo a C (some dx)))
structure ErrOkW (P : Program) (w : World) (K : PySem.W.Frag) (mg : Str → Option Value) (base : Heap) (x fld : Str) (C : Addr) : Prop where
  gC : mg x = some (.ref C)
  oex : OexC K C
  ini : ∃ (fI : Addr) (fd : FuncData), PySem.W.findIn K (.ref C) "__init__" = some (some (.ref fI)) ∧ PySem.W.typeIn K (.ref fI) = some (.type "function") ∧ FnOk P w K mg base CX0 1 fI fd ["self", fld] (spInitW K C fld) ∧ Binds K fd ["self", fld] []
/-- the way out with an error of the class at C that carries v -/
def OutW (E : XK) (C : Addr) (fld : Str) (v : V) (H : Hp) : Prop := ∀ d : Addr, H d = none → E (.ref C) (some d) (upd H d (.xd [(fld, v)]))
def tRzW (C : Addr) (fld : Str) (W : WX) (te : TE) : TS := fun _ σ H => te σ H fun v H1 => ∀ d : Addr, H1 d = none → W (.ref C) (some d) σ (upd H1 d (.xd [(fld, v)]))
theorem ps_rzW {X : Cx} {x fld : Str} {C : Addr} {j : Nat} {e : Expr} {te : TE} {W : WX} {p pos pos2 : Pos} (hc : X.calm = true) (T : ErrOkW X.prog X.w X.K X.mg X.base x fld C) (hr : Room j X.A) (hj : 2 ≤ j) (tk : Takes X W) (he : PE X e te) (hg : Gl X x)
    (hdb : (x == ("__debug__" : Str)) = false := by decide) (hs : starEach (e :: []) X.env = (false, eval e X.env) :: starEach [] X.env := by rfl) (hpl : (backTo pos (starEach [] X.env)).any (·.1) = false := by rfl) :
    PS X (.Raise (some (.Call (.Name x p) [e] [] pos)) none pos2) (tRzW C fld W te) := by
  obtain ⟨fI, fd, iC, tI, F1, b⟩ := T.ini
  have h := ps_raise (pos := pos2) hc tk (pmk_oex (x := x) (p := p) (pos := pos) T.oex iC tI F1 (hr.mono hj) b .nil pass0 hg T.gC (pa_cons (pe_weak he) pa_nil hs) hdb hs hpl)
  constructor
  intro pins s σ H D I q
  refine h.run pins s σ H D I ?_
  refine ⟨_, q, fun v H1 z => ?_⟩
  refine ⟨(by show 1 ≤ 1000; decide), fun a ha => ⟨a, v, rfl, upd_same, fun dx n1 n2 => ⟨rfl, dx, [(fld, v)], upd_same, ?_, ?_, ?_⟩⟩⟩
  · rw [upd_ne n2]
    exact upd_same
  · rw [upd_ne n2] at n1
    exact n1
  · rw [upd_ne n2] at n1
    show W _ _ _ (upd (del _ a) dx _)
    rw [heap_end ha n2]
    exact z dx n1
end Rs


set_option Elab.async false
set_option linter.all false
set_option maxRecDepth 100000
set_option maxHeartbeats 400000
namespace Sh
open PySem
/-- data whose text may be made -/
structure Ok (d : PyData) : Prop where
  s : d.showable = true
  n : d.hasDict = false
  dep : d.depth ≤ 60
  l : d.shown.length ≤ sizeLine
theorem of {d : PyData} (h1 : d.showable = true) (h2 : d.hasDict = false) (h3 : d.depth ≤ 60) (h4 : d.leavesShort 2600 = true) (h5 : d.weight ≤ 6000) : Ok d := by
  refine ⟨h1, h2, h3, ?_⟩
  have := PyData.shown_le 2600 (by decide) d h4
  have e : sizeLine = 16777216 := sizeLine_eq
  have : (2600 + 2) * d.weight ≤ 2602 * 6000 := Nat.mul_le_mul (Nat.le_refl _) h5
  omega
end Sh


set_option Elab.async false
set_option linter.all false
set_option maxRecDepth 100000
set_option maxHeartbeats 400000
namespace Rs
open PySem L2 Bs Fq LamX
theorem can_dFs : ∀ qs : List F, PyData.canLayAll0 (qs.map dF) = true
  | [] => by simp [PyData.canLayAll0]
  | q :: qs => by
    have := can_dFs qs
    simp [PyData.canLayAll0, PyData.canLay0, dF, this]
theorem dep_dFs : ∀ qs : List F, PyData.depthAll (qs.map dF) ≤ 2
  | [] => by simp [PyData.depthAll]
  | q :: qs => by
    have := dep_dFs qs
    simp only [List.map_cons, PyData.depthAll, PyData.depth, dF]
    omega
theorem shaped_dFs (qs : List F) : SeqAt.shaped (.list (qs.map dF)) = true := by
  unfold SeqAt.shaped
  rw [Bool.and_eq_true_iff]
  refine ⟨?_, decide_eq_true ?_⟩
  · simpa [PyData.canLay0] using can_dFs qs
  · have := dep_dFs qs
    simp only [PyData.depth]
    omega
end Rs


set_option Elab.async false
set_option linter.all false
set_option maxRecDepth 100000
set_option maxHeartbeats 400000
namespace Rs
open PySem L2 Bs Fq LamX
/-- the list at D alone was changed -/
theorem Sta.off {H : Hp} {p c l D : Addr} {n : Nat} {t : Int} {xs : List V} {o : HO} (S : Sta H p c l n t) (h : H D = some (.lst xs)) (n1 : c ≠ D) (n2 : l ≠ D) : Sta (upd H D o) p c l n t := by
  obtain ⟨cs, a1, a2⟩ := S.cs
  obtain ⟨ls, b1, b2⟩ := S.ls
  have n3 : p ≠ D := ne_of S.d h (by intro z; cases z)
  exact ⟨(upd_ne n3).trans S.d, ⟨cs, (upd_ne n1).trans a1, a2⟩, ⟨ls, (upd_ne n2).trans b1, b2⟩, S.ne, S.n1, S.n2, S.t0⟩
theorem FrAll.kp {K : PySem.W.Frag} {H H' : Hp} {p c l : Addr} {n : Nat} {t : Int} (k : Kp p l H H') (S : Sta H p c l n t) : ∀ {vs : List V} {qs : List F}, FrAll K H vs qs → FrAll K H' vs qs
  | _, _, .nil => .nil
  | _, _, .cons a b => .cons (k.fr S a) (FrAll.kp k S b)
theorem Po.kp {K : PySem.W.Frag} {H H' : Hp} {p c l : Addr} {n : Nat} {t : Int} {v : V} {qs : List F} (k : Kp p l H H') (S : Sta H p c l n t) (h : Po K H v qs) : Po K H' v qs := by
  obtain ⟨a, xs, rfl, s, f⟩ := h
  obtain ⟨ls, b1, _⟩ := S.ls
  refine ⟨a, xs, rfl, ?_, f.kp k S⟩
  rcases s with (s | ⟨o, s⟩) | s
  · exact .inl (.inl (k a _ s (ne_of s S.d (by intro z; cases z)) (ne_of s b1 (by intro z; cases z))))
  · exact .inl (.inr ⟨o, k a _ s (ne_of s S.d (by intro z; cases z)) (ne_of s b1 (by intro z; cases z))⟩)
  · exact .inr s
end Rs


set_option Elab.async false
set_option linter.all false
set_option maxRecDepth 100000
set_option maxHeartbeats 1000000
namespace Rs
open PySem PySem.Spec PyProof.Rows L2 Bs Fq LamX RZ
abbrev sPTimed : Stmt := top 11
def spPTimed (K : PySem.W.Frag) : Sp := fun vs H Q _ => ∃ (x y : V) (qs rs : List F) (D1 D2 : Int) (n m : Nat), vs = [x, y] ∧ Po K H x qs ∧ Po K H y rs ∧ Ca D1 n qs ∧ Ca D2 m rs ∧ Bd D1 n ∧ Bd D2 m ∧ Bd (D1 * D2) (n + m + 170) ∧ qs.length ≤ 12 ∧ rs.length ≤ 12 ∧
  ∀ H' p, Same H H' → Po K H' (.ref p) (trim (prodN (qs.length + rs.length) qs rs)) → Q (.ref p) H'
theorem FrAll.drop {K : PySem.W.Frag} {H : Hp} : ∀ {vs : List V} {qs : List F} (n : Nat), FrAll K H vs qs → FrAll K H (vs.drop n) (qs.drop n)
  | _, _, 0, h => h
  | _, _, n + 1, .nil => .nil
  | _, _, n + 1, .cons _ b => FrAll.drop n b
section
variable {P : Program} {w : World} {K : PySem.W.Frag} {mg : Str → Option Value} {base : Heap} {f : Addr} {fd : FuncData}
theorem scPTimed : FnScope ["one", "other", "whole", "i", "part", "j", "piece"] ["one", "other"] (defScope sPTimed) := ⟨rfl, rfl, rfl, by decide +kernel, rfl, by decide +kernel, by decide +kernel⟩
theorem ok_ptimed (F : Fun K "poly_timed" "poly_timed" sPTimed f fd) (T : Blt mg) (en : mg "enumerate" = none) (Z : Nou K mg) (Ad : Cal P w K mg base 2 "added" (spOp K add dom2)) (Ti : Cal P w K mg base 2 "timed" (spOp K mul dom2)) (Tr : Cal P w K mg base 1 "trimmed" (spTrim K)) :
    FnOk P w K mg base CX0 3 f fd ["one", "other"] (spPTimed K) := by
  refine F.ok scPTimed (fun vs H Q E h => ?_) (fun cdv A outer s H vs Q E hr h => ?_)
  · obtain ⟨x, y, qs, rs, _, _, _, _, rfl, _⟩ := h
    rfl
  · obtain ⟨x, y, qs, rs, D1, D2, za, zb, rfl, ⟨a, xs, rfl, sx, fx⟩, ⟨b, ys, rfl, sy, fy⟩, hq, hrs, bd1, bd2, hab, lq, lr, kk⟩ := h
    obtain ⟨z, mz, sz⟩ := Z.ex
    refine ⟨_, pss_cons (ps_set (i := 2) scPTimed.nd rfl (Or.inl rfl) (pe_op op_rep (pe_lst (pa_cons (pe_glob (v := .ref z) (by rfl) mz rfl) pa_nil)) (pe_op op_add (pe_callB call_len_seq (by rfl) T.len (by decide +kernel) (pa_cons (pv 0) pa_nil)) (pe_callB call_len_seq (by rfl) T.len (by decide +kernel) (pa_cons (pv 1) pa_nil)))))
      (pss_cons (ps_for PassesOwn.never rfl (EnT.pi_enumT (by rfl) en (pa_cons (pv 0) pa_nil)) (pg_tup rfl (pgs_cons (pg_name (i := 3) scPTimed.nd rfl (.inl rfl)) (pgs_cons (pg_name (i := 4) scPTimed.nd rfl (.inl rfl)) pgs_nil)))
        (pss_one (ps_for PassesOwn.never rfl (EnT.pi_enumT (by rfl) en (pa_cons (pv 1) pa_nil)) (pg_tup rfl (pgs_cons (pg_name (i := 5) scPTimed.nd rfl (.inl rfl)) (pgs_cons (pg_name (i := 6) scPTimed.nd rfl (.inl rfl)) pgs_nil)))
          (pss_one (ps_asg (pe_n Ad hr (by decide) (by rfl) (pa_cons (pe_ix ix_list (pv 2) (pe_op op_add (pv 3) (pv 5)) (fun _ _ => rfl)) (pa_cons (pe_n Ti hr (by decide) (by rfl) (pa_cons (pv 4) (pa_cons (pv 6) pa_nil))) pa_nil))) (pg_sub (pv 2) (pe_op op_add (pv 3) (pv 5)) set_list))))))
      (pss_one (ps_ret (pe_n Tr hr (by decide) (by rfl) (pa_cons (pv 2) pa_nil))))), ?_⟩
    have lx := fx.len
    have ly := fy.len
    refine ⟨(by show 1 ≤ sizeLine; decide), fun p0 hp0 => ?_⟩
    have s0 : Same H (upd H p0 (.lst [V.ref z])) := same_new hp0
    refine ⟨_, rfl, a, xs, rfl, Or.inr (Bs.Same.t s0 sx), _, rfl, b, ys, rfl, Or.inr (Bs.Same.t s0 sy), _, _, rfl, rfl, ?_⟩
    have hn : ((([V.ref z] : List V).length) * ((xs.length : Int) + (ys.length : Int)).toNat) ≤ sizeLine := by
      rw [List.length_singleton, Nat.one_mul]
      exact Nat.le_of_lt (small1000 (by omega))
    refine ⟨p0, _, _, rfl, rfl, upd_same, by omega, by omega, hn, fun W hW => ?_⟩
    have eW : (List.replicate ((xs.length : Int) + (ys.length : Int)).toNat [V.ref z]).flatten = List.replicate (qs.length + rs.length) (V.ref z) := by
      rw [List.flatten_replicate_singleton]
      congr 1
      omega
    rw [eW]
    have s1 : Same H (upd (upd H p0 (.lst [V.ref z])) W (.lst (List.replicate (qs.length + rs.length) (V.ref z)))) := s0.trans (same_new hW)
    have wn : H W = none := s0.free hW
    generalize eH : upd (upd H p0 (.lst [V.ref z])) W (.lst (List.replicate (qs.length + rs.length) (V.ref z))) = H1 at s1
    have hW1 : H1 W = some (.lst (List.replicate (qs.length + rs.length) (V.ref z))) := by rw [← eH]; exact upd_same
    clear hn hW eW eH
    -- what holds of the list
    let St : List Fq.F → Hp → Prop := fun ws H2 => Same H H2 ∧ ∃ vs, H2 W = some (.lst vs) ∧ FrAll K H2 vs ws
    refine ⟨_, rfl, a, xs, rfl, Bs.Same.t s1 sx, ?_⟩
    refine for_it walk_enumT (fun i σ H2 => St (stepI (List.replicate (qs.length + rs.length) (0, 1)) qs rs i) H2 ∧ ∃ v3 v4 v5 v6, σ = [some (V.ref a), some (V.ref b), some (V.ref W), v3, v4, v5, v6])
      ⟨⟨s1, _, hW1, FrAll.rep ⟨z, rfl, sz _⟩ _⟩, none, none, none, none, rfl⟩ (fun i σ H2 _ p => Bs.Same.t p.1.1 sx) ?_ ?_
    · rintro i x σ H2 H3 hi ⟨⟨s2, vs, hv, fv⟩, v3, v4, v5, v6, rfl⟩ ⟨T, x', y', rfl, hT, rfl, h1, h2⟩
      cases h1
      have s3 := same_new (o := .tup [.int (i : Nat), y']) hT
      obtain ⟨y'', q, g1, g2, g3⟩ := fx.get (i := i) (by omega)
      have h2' : xs[i]? = some y' := h2
      rw [g1] at h2'
      cases h2'
      have eq_ : co qs i = q := co_get g2
      refine ⟨T, _, rfl, SqT.of upd_same, rfl, _, _, rfl, _, _, rfl, rfl, ?_⟩
      refine ⟨_, rfl, b, ys, rfl, Bs.Same.t (s2.trans s3) sy, ?_⟩
      refine for_it walk_enumT (fun j σ H2 => St (stepJ (stepI (List.replicate (qs.length + rs.length) (0, 1)) qs rs i) i (co qs i) rs j) H2 ∧ ∃ v5 v6, σ = [some (V.ref a), some (V.ref b), some (V.ref W), some (V.int i), some y', v5, v6])
        ⟨⟨s2.trans s3, vs, s3 _ _ hv, fv.mono s3⟩, v5, v6, rfl⟩ (fun i σ H2 _ p => Bs.Same.t p.1.1 sy) ?_ ?_
      · rintro j x σ H4 H5 hj ⟨⟨s4, us, hu, fu⟩, v5, v6, rfl⟩ ⟨T2, x2, y2, rfl, hT2, rfl, h3, h4⟩
        cases h3
        have s5 := same_new (o := .tup [.int (j : Nat), y2]) hT2
        obtain ⟨y3, r, g4, g5, g6⟩ := fy.get (i := j) (by omega)
        have h4' : ys[j]? = some y2 := h4
        rw [g4] at h4'
        cases h4'
        have er_ : co rs j = r := co_get g5
        refine ⟨T2, _, rfl, SqT.of upd_same, rfl, _, _, rfl, _, _, rfl, rfl, ?_⟩
        have lw : (stepJ (stepI (List.replicate (qs.length + rs.length) (0, 1)) qs rs i) i (co qs i) rs j).length = qs.length + rs.length := by
          rw [stepJ_len, stepI_len, List.length_replicate]
        have zr : Ca (D1 * D2) (za + zb) (List.replicate (qs.length + rs.length) ((0, 1) : Fq.F)) := fun q hq => by
          rw [(List.mem_replicate.mp hq).2]
          exact Cb.zero
        have pb := (stepJ_wtC (i := i) (stepI_wtC zr hq hrs (Nat.le_refl _) (fun _ => 0) i (by rw [List.length_replicate]; omega)).1 (hq.co i) hrs (by omega) (fun _ => 0) j (by rw [stepI_len, List.length_replicate]; omega)).1
        have hk : za + zb + i * rs.length + j ≤ za + zb + 170 := by
          have : i * rs.length ≤ 11 * 12 := Nat.mul_le_mul (by omega) lr
          omega
        have ss := s4.trans s5
        have eij : (i : Int) + (j : Int) = ((i + j : Nat) : Int) := by omega
        obtain ⟨u, p, k1, k2, k3⟩ := fu.get (i := i + j) (by rw [lw]; omega)
        have eu := co_get k2
        have pm : Cb (D1 * D2) (za + zb + i * rs.length + j) p := pb p (List.mem_of_getElem? k2)
        have hus : us.length = qs.length + rs.length := by rw [fu.len, lw]
        have ha : atI us ((i : Int) + (j : Int)) = some u := by
          rw [eij]
          exact atI_nat k1
        have hix : ixN us.length ((i : Int) + (j : Int)) = some (i + j) := by
          rw [eij]
          unfold ixN
          rw [if_pos (by omega), if_pos (by omega), Int.toNat_natCast]
        have sq : Cb D1 za q := by rw [← eq_]; exact hq.co i
        have sr : Cb D2 zb r := by rw [← er_]; exact hrs.co j
        refine ⟨_, rfl, _, rfl, _, rfl, _, _, rfl, rfl, W, us, _, u, rfl, rfl, SqL.of (s5 _ _ hu), ha, _, rfl, _, rfl, y', y2, q, r, rfl, g3.mono ss, g6.mono ss, ⟨cb_dm sq bd1, cb_dm sr bd2⟩, fun c1 hc1 => ?_⟩
        have s6 := same_new (o := fr (mul q r)) hc1
        refine ⟨u, .ref c1, p, mul q r, rfl, (k3.mono s5).mono s6, Fr.of upd_same, ⟨cb_dm (pm.mono hk) hab, cb_dm (sq.mul sr) (hab.mono (by omega))⟩, fun c2 hc2 => ?_⟩
        have s7 := same_new (o := fr (add p (mul q r))) hc2
        have hu7 := s7 _ _ (s6 _ _ (s5 _ _ hu))
        refine ⟨_, rfl, _, rfl, _, rfl, _, _, rfl, rfl, W, us, _, i + j, rfl, rfl, hu7, hix, ?_⟩
        refine ⟨⟨fun c o e => (upd_ne (ne_of_none e wn)).trans (s7 c o (s6 c o (s5 c o (s4 c o e)))), _, upd_same, ?_⟩, _, _, rfl⟩
        show FrAll K _ _ (List.set _ _ _)
        rw [eu, er_, eq_]
        rw [eq_] at fu
        exact FrAll.set _ (FrAll.off hu7 (((fu.mono s5).mono s6).mono s7)) ((Fr.of upd_same).off hu7)
      · rintro σ H4 ⟨w4, v5, v6, rfl⟩
        rw [ly] at w4
        exact ⟨w4, _, _, _, _, rfl⟩
    · rintro σ H2 ⟨⟨s2, vs, hv, fv⟩, v3, v4, v5, v6, rfl⟩
      have l : vs.length ≤ 1000 := by
        rw [fv.len, stepI_len, List.length_replicate]
        omega
      refine ⟨_, rfl, W, vs, _, rfl, Or.inl (SqL.of hv), fv, l, fun H' p zs s3 st ft => kk H' p (s2.trans s3) ⟨p, zs, rfl, st, ?_⟩⟩
      rw [lx] at ft
      exact ft
end
end Rs


set_option Elab.async false
set_option linter.all false
set_option maxRecDepth 100000
set_option maxHeartbeats 400000
namespace Rs
open PySem L2 Bs Fq LamX
theorem cat_any {K : PySem.W.Frag} {H : Hp} {Q : VK} {a b : Addr} {xs ys : List V} (ha : SqT K H a xs) (hb : SqT K H b ys) (sz : xs.length + ys.length ≤ sizeLine) (k : ∀ c H', Same H H' → SqT K H' c (xs ++ ys) → Q (.ref c) H') : rCatA K (.ref a) (.ref b) H Q := by
  refine ⟨a, b, xs, ys, rfl, rfl, ha, hb, sz, fun e => ?_, fun _ e => ?_, fun _ _ p hp => k p _ (same_new hp) (SqT.of upd_same)⟩
  · subst e
    exact k b H (fun _ _ z => z) hb
  · subst e
    refine k a H (fun _ _ z => z) ?_
    rw [List.append_nil]
    exact ha
end Rs


set_option Elab.async false
set_option linter.all false
set_option maxRecDepth 100000
set_option maxHeartbeats 1000000
namespace Rs
open PySem L2 Bs Fq LamX
def top0 : PyData → Bool
  | .tuple (.int a :: _) => decide (0 < a)
  | _ => false
def posD (d : PyData) : Bool := fracD d && top0 d
def above (qs : List F) : Bool := qs.all fun q => decide (0 < q.1)
theorem atI_neg1 {xs : List V} {u : V} (n : xs ≠ []) (h : xs[xs.length - 1]? = some u) : atI xs (-1) = some u := by
  have hl := List.length_pos_iff.mpr n
  have e : ixN xs.length (-1) = some (xs.length - 1) := by
    unfold ixN
    rw [if_neg (by decide), if_pos (by omega)]
    congr 1
    omega
  unfold atI
  rw [e]
  exact h
abbrev sPosi : Stmt := top 23
def spPosi (K : PySem.W.Frag) : Sp := fun vs H Q _ => ∃ (v : V) (d : PyData), vs = [v] ∧ Dp K H v d ∧ Q (.bl (posD d)) H
section
variable {P : Program} {w : World} {K : PySem.W.Frag} {mg : Str → Option Value} {base : Heap} {f : Addr} {fd : FuncData} {CL : Addr}
theorem scPosi : FnScope ["thing"] ["thing"] (defScope sPosi) := ⟨rfl, rfl, rfl, by decide +kernel, rfl, by decide +kernel, by decide +kernel⟩
theorem ok_posi (F : Fun K "is_positive" "is_positive" sPosi f fd) (W : Cal P w K mg base 2 "is_fraction" (spFraction K)) : FnOk P w K mg base CX0 3 f fd ["thing"] (spPosi K) := by
  refine F.ok scPosi (fun vs H Q E h => ?_) (fun cdv A outer s H vs Q E hr h => ?_)
  · obtain ⟨v, d, rfl, _⟩ := h
    rfl
  · obtain ⟨v, d, rfl, hd, kk⟩ := h
    refine ⟨_, pss_one (ps_ret (pe_and (pe_n W hr (by decide) (by rfl) (pa_cons (pv 0) pa_nil)) (pe_one (pe_cmpR op_gt (pe_ix ix_tup (pv 0) pe_int (fun _ _ => rfl)) pe_int (nomark _))))), ?_⟩
    refine ⟨v, rfl, v, d, rfl, hd, _, rfl, ?_⟩
    unfold posD at kk
    cases e : fracD d with
    | false =>
      rw [e] at kk
      exact iteF kk
    | true =>
      rw [e] at kk
      obtain ⟨q, rfl, o⟩ := fracD_true e
      obtain ⟨a, rfl, sq⟩ := dp_fr hd
      exact iteT ⟨_, rfl, a, _, 0, _, rfl, rfl, sq, rfl, _, _, rfl, rfl, kk⟩
end
end Rs


set_option Elab.async false
set_option linter.all false
set_option maxRecDepth 100000
set_option maxHeartbeats 400000
namespace Rs
open Fq
def rv (qs : List F) : Nat → Rat := fun i => val (co qs i)
structure RowOk (qs : List F) : Prop where
  c : Ca 256 30 qs
  n : qs ≠ []
  l : qs.length ≤ 8
  p : 0 < (co qs 0).1
theorem RowOk.pos {qs : List F} (h : RowOk qs) : 1 ≤ qs.length := List.length_pos_iff.mpr h.n
/-- the sum by the moments from s on -/
def ws (qs : List F) (s : Nat) (w : List F) : Rat := wt (fun m => rv qs (m + s)) w
def sq2 (qs : List F) (s : Nat) (p q : List F) : Rat := sm (fun i => val (co p i) * sm (fun j => val (co q j) * rv qs (i + j + s)) q.length) p.length
def cnt (qs : List F) (J : Nat) : Nat := if 2 * J < qs.length then J + 1 else J
end Rs


set_option Elab.async false
set_option linter.all false
set_option maxRecDepth 100000
set_option maxHeartbeats 1000000
namespace Rs
open PySem L2 Bs Fq LamX RZ
theorem sqT_off {K : PySem.W.Frag} {H : Hp} {a D : Addr} {xs acc : List V} {o : HO} (hD : H D = some (.lst acc)) (s : SqT K H a xs) : SqT K (upd H D o) a xs := by
  rcases s with (s | ⟨o', s⟩) | s
  · exact .inl (.inl ((upd_ne (ne_of s hD (by intro z; cases z))).trans s))
  · exact .inl (.inr ⟨o', (upd_ne (ne_of s hD (by intro z; cases z))).trans s⟩)
  · exact .inr s
theorem Po.off {K : PySem.W.Frag} {H : Hp} {v : V} {qs : List F} {D : Addr} {acc : List V} {o : HO} (hD : H D = some (.lst acc)) (h : Po K H v qs) : Po K (upd H D o) v qs := by
  obtain ⟨a, xs, rfl, s, f⟩ := h
  exact ⟨a, xs, rfl, sqT_off hD s, f.off hD⟩
end Rs


set_option Elab.async false
set_option linter.all false
set_option maxRecDepth 100000
set_option maxHeartbeats 1000000
namespace Rs
open PySem L2 Bs Fq LamX RZ
def last (qs : List F) (J : Nat) : Rat := nor (rv qs) (cnt qs J - 1)
end Rs


set_option Elab.async false
set_option linter.all false
set_option maxRecDepth 100000
set_option maxHeartbeats 1000000
namespace Rs
open PySem L2 Bs Fq LamX RZ
def row0 : PyData → Bool
  | .tuple (d :: _) => top0 d
  | _ => false
def rowD (d : PyData) : Bool := fracsD 9 d && row0 d
abbrev sIsRow : Stmt := top 42
abbrev sNeedRow : Stmt := top 43
structure Most9 (mg : Str → Option Value) : Prop where
  m9 : ∃ t, mg "MOST_MOMENTS" = some (.int 9 t)
def spIsRow (K : PySem.W.Frag) : Sp := fun vs H Q _ => ∃ (v : V) (d : PyData), vs = [v] ∧ Dp K H v d ∧ ∀ H', Same H H' → Q (.bl (rowD d)) H'
def spNeedRow (K : PySem.W.Frag) (C : Addr) : Sp := fun vs H Q E => ∃ (v : V) (d : PyData), vs = [v] ∧ Dp K H v d ∧ (rowD d = true → ∀ H', Same H H' → Q v H') ∧ (rowD d = false → ∀ H', Same H H' → OutW E C "given" v H')
section
variable {P : Program} {w : World} {K : PySem.W.Frag} {mg : Str → Option Value} {base : Heap} {f CR CS : Addr} {fd : FuncData}
theorem scIsRow : FnScope ["thing"] ["thing"] (defScope sIsRow) := ⟨rfl, rfl, rfl, by decide +kernel, rfl, by decide +kernel, by decide +kernel⟩
theorem ok_isRow (F : Fun K "is_row" "is_row" sIsRow f fd) (T : Blt mg) (M : Most9 mg) (AF : Cal P w K mg base 3 "are_fractions" (spAreF K)) : FnOk P w K mg base CX0 4 f fd ["thing"] (spIsRow K) := by
  refine F.ok scIsRow (fun vs H Q E h => ?_) (fun cdv A outer s H vs Q E hr h => ?_)
  · obtain ⟨v, d, rfl, _⟩ := h
    rfl
  · obtain ⟨v, d, rfl, hd, kk⟩ := h
    obtain ⟨t, mt⟩ := M.m9
    refine ⟨_, pss_one (ps_ret (pe_and (pe_n AF hr (by decide) (by rfl) (pa_cons (pv 0) (pa_cons (pe_glob (v := .int 9) (by rfl) mt ⟨t, rfl⟩) pa_nil)))
      (pe_and (pe_cmpR op_gt (pe_callB call_len_seq (by rfl) T.len (by decide +kernel) (pa_cons (pv 0) pa_nil)) pe_int (nomark _))
        (pe_one (pe_cmpR op_gt (pe_ix ix_tup (pe_ix ix_tup (pv 0) pe_int (fun _ _ => rfl)) pe_int (fun _ _ => rfl)) pe_int (nomark _)))))), ?_⟩
    refine ⟨v, rfl, v, d, 9, rfl, hd, by decide, fun H1 s1 => ⟨_, rfl, ?_⟩⟩
    have kk' := kk H1 s1
    unfold rowD at kk'
    cases e : fracsD 9 d with
    | false =>
      rw [e] at kk'
      exact iteF kk'
    | true =>
      rw [e] at kk'
      obtain ⟨qs, rfl, ok, lq⟩ := fracsD_true e
      obtain ⟨a, xs, rfl, sq, fx⟩ := (dp_po hd).mono s1
      refine iteT ⟨_, rfl, a, xs, rfl, Or.inr sq, _, _, rfl, rfl, _, rfl, ?_⟩
      cases fx with
      | nil => exact iteF kk'
      | cons h1 h2 =>
        rename_i v1 vs1 q1 qs1
        obtain ⟨b, rfl, sb⟩ := h1
        refine ite2 (fun c => ?_) (fun c => ?_)
        · exact ⟨_, rfl, a, _, 0, _, rfl, rfl, sq, atI_nat (j := 0) rfl, b, _, 0, _, rfl, rfl, sb, rfl, _, _, rfl, rfl, kk'⟩
        · exact absurd (decide_eq_true (by rw [List.length_cons]; omega)) c
theorem scNeedRow : FnScope ["thing"] ["thing"] (defScope sNeedRow) := ⟨rfl, rfl, rfl, by decide +kernel, rfl, by decide +kernel, by decide +kernel⟩
theorem ok_needRow (F : Fun K "need_row" "need_row" sNeedRow f fd) (T : ErrOkW P w K mg base "BadRow" "given" CR) (W : Cal P w K mg base 4 "is_row" (spIsRow K)) : FnOk P w K mg base (L2.CX P w) 5 f fd ["thing"] (spNeedRow K CR) := by
  refine F.okX scNeedRow (fun vs H Q E h => ?_) (fun cdv A outer s H vs Q E hr h => ?_)
  · obtain ⟨v, d, rfl, _⟩ := h
    rfl
  · obtain ⟨v, d, rfl, hd, k1, k2⟩ := h
    refine ⟨_, pss_cons (ps_if (pt_not (pt_val (pe_n W hr (by decide) (by rfl) (pa_cons (pv 0) pa_nil)))) (pss_one (ps_rzW rfl T hr (by decide) (takes_of rfl rfl rfl rfl) (pv 0) (by rfl))) pss_nil) (pss_one (ps_ret (pv 0))), ?_⟩
    refine ⟨_, rfl, v, d, rfl, hd, fun H' s => ⟨_, rfl, ?_⟩⟩
    cases e : rowD d with
    | true => exact iteF ⟨_, rfl, k1 e H' s⟩
    | false => exact iteT ⟨_, rfl, k2 e H' s⟩
end
end Rs


set_option Elab.async false
set_option linter.all false
set_option maxRecDepth 100000
set_option maxHeartbeats 1000000
namespace Rs
open PySem L2 Bs Fq LamX RZ
def isStr : PyData → Bool
  | .str _ => true
  | _ => false
theorem kitS (K : PySem.W.Frag) (d : PyData) : PySem.W.kitOne K (.type (tyD d)) (.type "str") = some (isStr d) := by
  cases d with
  | none => exact kit_ty (a := "NoneType") (b := "str") (r := false) (by decide +kernel)
  | bool _ => exact kit_ty (a := "bool") (b := "str") (r := false) (by decide +kernel)
  | int _ => exact kit_ty (a := "int") (b := "str") (r := false) (by decide +kernel)
  | str _ => exact kit_ty (a := "str") (b := "str") (r := true) (by decide +kernel)
  | list _ => exact kit_ty (a := "list") (b := "str") (r := false) (by decide +kernel)
  | tuple _ => exact kit_ty (a := "tuple") (b := "str") (r := false) (by decide +kernel)
  | dict _ => exact kit_ty (a := "dict") (b := "str") (r := false) (by decide +kernel)
end Rs


set_option Elab.async false
set_option linter.all false
set_option maxRecDepth 100000
set_option maxHeartbeats 1000000
namespace Rs
open PySem L2 Bs Fq LamX RZ
theorem shaped_dF (q : F) : SeqAt.shaped (dF q) = true := by
  simp [SeqAt.shaped, dF, PyData.canLay0, PyData.canLayAll0, PyData.depth, PyData.depthAll]
end Rs
namespace Fq
open Rs
theorem lt_irr (q : F) : lt q q = false := by simp [lt]
theorem lt_iff {q r : F} : lt q r = true ↔ q.1 * r.2 < r.1 * q.2 := by simp [lt]
theorem lt_trans {q r s : F} (hq : 0 < q.2) (hr : 0 < r.2) (hs : 0 < s.2) (h1 : lt q r = true) (h2 : lt r s = true) : lt q s = true := by
  rw [lt_iff] at *
  have a := Int.mul_lt_mul_of_pos_right h1 hs
  have b := Int.mul_lt_mul_of_pos_right h2 hq
  have c : q.1 * s.2 * r.2 < s.1 * q.2 * r.2 := by
    have e1 : q.1 * s.2 * r.2 = q.1 * r.2 * s.2 := by grind
    have e2 : r.1 * q.2 * s.2 = r.1 * s.2 * q.2 := by grind
    have e3 : s.1 * q.2 * r.2 = s.1 * r.2 * q.2 := by grind
    omega
  exact Int.lt_of_mul_lt_mul_right c (Int.le_of_lt hr)
theorem lt_tri {q r : F} (a : Ok q) (b : Ok r) (n : q ≠ r) (h : lt q r = false) : lt r q = true := by
  have h' : ¬ q.1 * r.2 < r.1 * q.2 := by
    intro z
    rw [lt_iff.mpr z] at h
    cases h
  rw [lt_iff]
  have e : q.1 * r.2 ≠ r.1 * q.2 := by
    intro e
    refine n (vl_uniq (a := r.1) (b := r.2) a b (by have := b.1; omega) ?_ rfl)
    exact e
  omega
/-- ascending -/
inductive Asc : List F → Prop
  | nil : Asc []
  | cons {q : F} {l : List F} : (∀ r ∈ l, lt q r = true) → Asc l → Asc (q :: l)
theorem asc_ins {x : F} (ox : Ok x) : ∀ {l : List F}, (∀ r ∈ l, Ok r) → Asc l → x ∉ l →
    Asc (l.take (l.filter fun r => lt r x).length ++ [x] ++ l.drop (l.filter fun r => lt r x).length)
  | [], _, _, _ => .cons (fun r h => by simp at h) .nil
  | q :: l, o, h, n => by
    cases h with
    | cons h1 h2 =>
      have oq := o q List.mem_cons_self
      have ol : ∀ r ∈ l, Ok r := fun r hr => o r (List.mem_cons_of_mem _ hr)
      have nq : x ≠ q := fun z => n (by rw [z]; exact List.mem_cons_self)
      have nl : x ∉ l := fun z => n (List.mem_cons_of_mem _ z)
      cases c : lt q x with
      | true =>
        rw [List.filter_cons_of_pos (by exact c), List.length_cons, List.take_succ_cons, List.drop_succ_cons]
        refine .cons (fun r hr => ?_) (asc_ins ox ol h2 nl)
        rcases List.mem_append.mp hr with hr | hr
        · rcases List.mem_append.mp hr with hr | hr
          · exact h1 r (List.mem_of_mem_take hr)
          · rw [List.mem_singleton.mp hr]
            exact c
        · exact h1 r (List.mem_of_mem_drop hr)
      | false =>
        have g : lt x q = true := lt_tri oq ox (Ne.symm nq) c
        have e : (l.filter fun r => lt r x) = [] := by
          rw [List.filter_eq_nil_iff]
          intro r hr z
          have := lt_trans ox.1 oq.1 (ol r hr).1 g (h1 r hr)
          have z2 := lt_trans ox.1 (ol r hr).1 ox.1 this z
          rw [lt_irr] at z2
          cases z2
        rw [List.filter_cons_of_neg (by rw [c]; simp), e]
        refine .cons (fun r hr => ?_) (.cons h1 h2)
        rcases List.mem_cons.mp hr with rfl | hr
        · exact g
        · exact lt_trans ox.1 oq.1 (ol r hr).1 g (h1 r hr)
theorem sumF_cb {D : Int} {n : Nat} : ∀ {l : List F} {m : Nat} {z : F}, Ca D n l → Cb D m z → n ≤ m → Cb D (m + l.length) (sumF z l)
  | [], _, _, _, hz, _ => hz.mono (by simp)
  | q :: l, m, z, h, hz, e => by
    have a := hz.add ((h q List.mem_cons_self).mono e)
    have b := sumF_cb (l := l) (m := m + 1) (z := add z q) (fun r hr => h r (List.mem_cons_of_mem _ hr)) a (by omega)
    refine b.mono ?_
    rw [List.length_cons]
    omega
theorem cb_dvd {D : Int} {n m : Nat} {q : F} (o : Ok q) (d : q.2 ∣ D) (p : 0 < D) (a : q.1.natAbs ≤ 2 ^ n) (l : D.natAbs ≤ 2 ^ m) : Cb D (n + m) q := by
  obtain ⟨z, hz⟩ := d
  refine ⟨o, q.1 * z, ?_, ?_⟩
  · rw [hz, Rat.intCast_mul, Rat.intCast_mul, ← val_num o]
    grind
  · rw [Int.natAbs_mul, Nat.pow_add]
    refine Nat.mul_le_mul a (Nat.le_trans ?_ l)
    rw [hz, Int.natAbs_mul]
    exact Nat.le_mul_of_pos_left _ (by have := o.1; omega)
/-- above nought -/
def Pos (q : F) : Prop := 0 < q.1 ∧ 0 < q.2
theorem red_pos {a b : Int} (ha : 0 < a) (hb : 0 < b) : Pos (red a b) := by
  have o := red_ok (a := a) hb
  refine ⟨?_, o.1⟩
  have v := vl_red (a := a) hb
  unfold Vl at v
  have h1 : 0 < a * (red a b).2 := Int.mul_pos ha o.1
  rw [← v] at h1
  exact Int.pos_of_mul_pos_left h1 hb
theorem pos_add {q r : F} (h1 : Pos q) (h2 : Pos r) : Pos (add q r) := red_pos (by have := Int.mul_pos h1.1 h2.2; have := Int.mul_pos h2.1 h1.2; omega) (Int.mul_pos h1.2 h2.2)
theorem pos_mul {q r : F} (h1 : Pos q) (h2 : Pos r) : Pos (mul q r) := red_pos (Int.mul_pos h1.1 h2.1) (Int.mul_pos h1.2 h2.2)
theorem pos_sum : ∀ {l : List F} {z : F}, (∀ q ∈ l, Pos q) → Pos z → Pos (sumF z l)
  | [], _, _, hz => hz
  | q :: l, z, h, hz => pos_sum (l := l) (z := add z q) (fun r hr => h r (List.mem_cons_of_mem _ hr)) (pos_add hz (h q List.mem_cons_self))
theorem zero_add {q : F} (h : Ok q) : add (0, 1) q = q := by
  show red (0 * q.2 + q.1 * 1) (1 * q.2) = q
  rw [Int.zero_mul, Int.zero_add, Int.mul_one, Int.one_mul]
  exact red_of h
abbrev Pr := F × F
/-- a pair of a share with small numbers -/
structure Sp2 (p : Pr) : Prop where
  o1 : Ok p.1
  b1 : p.1.2 ∣ 2
  a1 : p.1.1.natAbs < 5
  o2 : Ok p.2
  b2 : p.2.2 ∣ 2
  a2 : p.2.1.natAbs < 5
  p2 : 0 < p.2.1
def mom (ps : List Pr) (k : Nat) : F := sumF (0, 1) (ps.map fun p => mul p.2 (pw p.1 k))
theorem pow_dvd2 {x y : Int} (h : x ∣ y) : ∀ k : Nat, x ^ k ∣ y ^ k
  | 0 => by rw [Int.pow_zero, Int.pow_zero]; exact Int.dvd_refl 1
  | k + 1 => by
    rw [Int.pow_succ, Int.pow_succ]
    exact Int.mul_dvd_mul (pow_dvd2 h k) h
theorem pow2_dvd {x : Int} {k n : Nat} (h : x ∣ 2) (e : k ≤ n) : x ^ k ∣ 2 ^ n := by
  refine Int.dvd_trans (pow_dvd2 h k) ⟨2 ^ (n - k), ?_⟩
  rw [← Int.pow_add]
  congr 1
  omega
theorem cb2 {q : F} (o : Ok q) (b : q.2 ∣ 2) (a : q.1.natAbs < 5) : Cb 2 3 q := cb_dvd (n := 2) (m := 1) o b (by decide) (by omega) (by decide)
theorem pw_cb {p : Pr} (h : Sp2 p) {k : Nat} (hk : k ≤ 7) : Cb 128 21 (pw p.1 k) := by
  refine cb_dvd (n := 14) (m := 7) (pw_ok h.o1 k) (pow2_dvd (n := 7) h.b1 hk) (by decide) ?_ (by decide)
  show (p.1.1 ^ k).natAbs ≤ _
  rw [Int.natAbs_pow]
  refine Nat.le_trans (Nat.pow_le_pow_left (Nat.le_of_lt_succ h.a1) k) ?_
  refine Nat.le_trans (Nat.pow_le_pow_right (by decide) hk) ?_
  decide
theorem term_cb {p : Pr} (h : Sp2 p) {k : Nat} (hk : k ≤ 7) : Cb 256 24 (mul p.2 (pw p.1 k)) := (cb2 h.o2 h.b2 h.a2).mul (pw_cb h hk)
theorem terms_cb {ps : List Pr} (h : ∀ p ∈ ps, Sp2 p) {k : Nat} (hk : k ≤ 7) : Ca 256 24 (ps.map (fun p => mul p.2 (pw p.1 k))) := by
  intro q hq
  obtain ⟨p, hp, rfl⟩ := List.mem_map.mp hq
  exact term_cb (h p hp) hk
theorem mom_cb {ps : List Pr} (h : ∀ p ∈ ps, Sp2 p) (l : ps.length ≤ 4) {k : Nat} (hk : k ≤ 7) : Cb 256 28 (mom ps k) := by
  refine (sumF_cb (terms_cb h hk) (Cb.zero (n := 24)) (Nat.le_refl _)).mono ?_
  rw [List.length_map]
  omega
theorem mom_pos {ps : List Pr} (h : ∀ p ∈ ps, Sp2 p) (n : ps ≠ []) : 0 < (mom ps 0).1 := by
  cases ps with
  | nil => exact absurd rfl n
  | cons p ps =>
    have e : ∀ r ∈ p :: ps, Pos (mul r.2 (pw r.1 0)) := fun r hr => pos_mul ⟨(h r hr).p2, (h r hr).o2.1⟩ ⟨by show 0 < r.1.1 ^ 0; rw [Int.pow_zero]; decide, by show 0 < r.1.2 ^ 0; rw [Int.pow_zero]; decide⟩
    have hp := term_cb (h p List.mem_cons_self) (k := 0) (by decide)
    show 0 < (sumF (add (0, 1) (mul p.2 (pw p.1 0))) (ps.map fun p => mul p.2 (pw p.1 0))).1
    rw [zero_add hp.ok]
    refine (pos_sum (fun q hq => ?_) (e p List.mem_cons_self)).1
    obtain ⟨r, hr, rfl⟩ := List.mem_map.mp hq
    exact e r (List.mem_cons_of_mem _ hr)
/-- the moments 0 to n -/
def moms (ps : List Pr) (n : Nat) : List F := (List.range (n + 1)).map (mom ps)
theorem moms_len (ps : List Pr) (n : Nat) : (moms ps n).length = n + 1 := by rw [moms, List.length_map, List.length_range]
theorem moms_cb {ps : List Pr} (h : ∀ p ∈ ps, Sp2 p) (l : ps.length ≤ 4) {n : Nat} (hn : n ≤ 7) : Ca 256 28 (moms ps n) := by
  intro q hq
  obtain ⟨k, hk, rfl⟩ := List.mem_map.mp hq
  have := List.mem_range.mp hk
  exact mom_cb h l (by omega)
/-- a row's fractions -/
structure Rw (qs : List F) : Prop where
  d : Ca 256 29 qs
  n : qs ≠ []
  l : qs.length ≤ 8
  p : ∀ q r, qs = q :: r → 0 < q.1
theorem Rw.ok {qs : List F} (h : Rw qs) : Rs.RowOk qs := by
  refine ⟨fun q hq => (h.d q hq).mono (by decide), h.n, h.l, ?_⟩
  cases qs with
  | nil => exact absurd rfl h.n
  | cons q r => exact h.p q r rfl
theorem moms_rw {ps : List Pr} (h : ∀ p ∈ ps, Sp2 p) (n : ps ≠ []) (l : ps.length ≤ 4) {k : Nat} (hk : k ≤ 7) : Rw (moms ps k) := by
  refine ⟨fun q hq => (moms_cb h l hk q hq).mono (by decide), ?_, by rw [moms_len]; omega, ?_⟩
  · intro z
    have := congrArg List.length z
    rw [moms_len] at this
    cases this
  · intro q r e
    unfold moms at e
    rw [List.range_succ_eq_map, List.map_cons] at e
    have := (List.cons.inj e).1
    rw [← this]
    exact mom_pos h n
end Fq
namespace Rs
open PySem L2 Bs Fq LamX RZ
def dPr (p : Pr) : PyData := .tuple [dF p.1, dF p.2]
def dSh (ps : List Pr) : PyData := .tuple (ps.map dPr)
theorem prOf {K : PySem.W.Frag} {H : Hp} {v : V} {p : Pr} (h : Dp K H v (dPr p)) : ∃ a u1 u2, v = .ref a ∧ SqT K H a [u1, u2] ∧ Fr K H u1 p.1 ∧ Fr K H u2 p.2 := by
  cases h with
  | tup sq all =>
    cases all with
    | cons h1 t1 =>
      cases t1 with
      | cons h2 t2 =>
        cases t2
        exact ⟨_, _, _, rfl, sq, dp_fr h1, dp_fr h2⟩
theorem map_some {α β : Type} {f : α → β} {l : List α} {i : Nat} {y : β} (h : (l.map f)[i]? = some y) : ∃ x, l[i]? = some x ∧ y = f x := by
  rw [List.getElem?_map] at h
  cases e : l[i]? with
  | none =>
    rw [e] at h
    cases h
  | some x =>
    rw [e] at h
    exact ⟨x, rfl, (Option.some.inj h).symm⟩
/-- a share -/
def Shr (K : PySem.W.Frag) (H : Hp) (v : V) (ps : List Pr) : Prop := Dp K H v (dSh ps)
theorem Shr.mono {K : PySem.W.Frag} {H H' : Hp} {v : V} {ps : List Pr} (e : Same H H') (h : Shr K H v ps) : Shr K H' v ps := dps e h
theorem Shr.open {K : PySem.W.Frag} {H : Hp} {v : V} {ps : List Pr} (h : Shr K H v ps) : ∃ a xs, v = .ref a ∧ SqT K H a xs ∧ DpAll K H xs (ps.map dPr) := by
  cases h with
  | tup sq all => exact ⟨_, _, rfl, sq, all⟩
abbrev sLSum : Stmt := top 68
abbrev sLShare : Stmt := top 69
abbrev sLMoms : Stmt := top 71
def spLSum (K : PySem.W.Frag) : Sp := fun vs H Q _ => ∃ (a : Addr) (xs : List V) (qs : List F) (D : Int) (n : Nat), vs = [.ref a] ∧ SqL K H a xs ∧ FrAll K H xs qs ∧ Ca D n qs ∧ Bd D (n + qs.length) ∧ ∀ H' u, Same H H' → Fr K H' u (sumF (0, 1) qs) → Q u H'
def spLMoms (K : PySem.W.Frag) : Sp := fun vs H Q _ => ∃ (v : V) (ps : List Pr) (k : Int), vs = [v, .int k] ∧ Shr K H v ps ∧ (∀ p ∈ ps, Sp2 p) ∧ ps.length ≤ 4 ∧ 0 ≤ k ∧ k ≤ 7 ∧ ∀ H' p, Same H H' → Po K H' (.ref p) (moms ps k.toNat) → Q (.ref p) H'
section
variable {P : Program} {w : World} {K : PySem.W.Frag} {mg : Str → Option Value} {base : Heap} {f : Addr} {fd : FuncData}
theorem scLSum : FnScope ["some", "found", "one"] ["some"] (defScope sLSum) := ⟨rfl, rfl, rfl, by decide +kernel, rfl, by decide +kernel, by decide +kernel⟩
theorem ok_lsum (F : Fun K "_law_sum" "_law_sum" sLSum f fd) (lP : Cal P w K mg base 2 "_law_plus" (spOp K add domL)) : FnOk P w K mg base CX0 3 f fd ["some"] (spLSum K) := by
  refine F.ok scLSum (fun vs H Q E h => ?_) (fun cdv A outer s H vs Q E hr h => ?_)
  · obtain ⟨a, xs, qs, _, _, rfl, _⟩ := h
    rfl
  · obtain ⟨a, xs, qs, D, n, rfl, sx, fx, hq, lq, kk⟩ := h
    refine ⟨_, pss_cons (ps_set (i := 1) scLSum.nd rfl (Or.inl rfl) (pe_tup (pa_cons pe_int (pa_cons pe_int pa_nil))))
      (pss_cons (ps_for PassesOwn.never rfl (pi_list (pv 0)) (pg_name (i := 2) scLSum.nd rfl (Or.inl rfl)) (pss_one (ps_set (i := 1) scLSum.nd rfl (Or.inl rfl) (pe_n lP hr (by decide) (by rfl) (pa_cons (pv 1) (pa_cons (pv 2) pa_nil))))))
      (pss_one (ps_ret (pv 1)))), ?_⟩
    have lx := fx.len
    refine ⟨(by show 2 ≤ sizeLine; decide), fun z hz => ?_⟩
    have s0 := same_new (o := .tup [.int 0, .int 1]) hz
    refine ⟨_, rfl, a, rfl, ⟨_, s0.seq sx⟩, for_list (xs := xs) (fun i σ H1 => Same H H1 ∧ ∃ u v2, Fr K H1 u (sumF (0, 1) (qs.take i)) ∧ σ = [some (V.ref a), some u, v2])
      ⟨s0, .ref z, none, Fr.of upd_same, rfl⟩ (fun i σ H1 _ p => p.1.seq sx) ?_ ?_⟩
    · rintro i x σ H1 hx ⟨s1, u, v2, fu, rfl⟩
      obtain ⟨hi, _⟩ := List.getElem?_eq_some_iff.mp hx
      obtain ⟨x1, q, e1, e2, fq⟩ := fx.get (i := i) (by omega)
      rw [hx] at e1
      cases e1
      have sdb := sumF_cb (l := qs.take i) (n := n) (m := n) (z := (0, 1)) (fun q h => hq q (List.mem_of_mem_take h)) Cb.zero (Nat.le_refl _)
      have lt_ : (qs.take i).length ≤ qs.length := by rw [List.length_take]; omega
      refine ⟨_, rfl, _, rfl, u, x, _, q, rfl, fu, fq.mono s1, ⟨cb_dl sdb (lq.mono (by omega)), cb_dl (hq q (List.mem_of_getElem? e2)) (lq.mono (by omega))⟩, fun p hp => ?_⟩
      have s2 := same_new (o := fr (add (sumF (0, 1) (qs.take i)) q)) hp
      refine ⟨s1.trans s2, .ref p, some x, ?_, rfl⟩
      rw [take_one e2, sumF_snoc]
      exact Fr.of upd_same
    · rintro σ H1 ⟨s1, u, v2, fu, rfl⟩
      rw [lx, List.take_length] at fu
      exact ⟨_, rfl, kk H1 u s1 fu⟩
abbrev NLM : List Str := ["share_so", "top", "found_so", "k", "number", "weight"]
theorem scLMoms : FnScope NLM ["share_so", "top"] (defScope sLMoms) := ⟨rfl, rfl, rfl, by decide +kernel, rfl, by decide +kernel, by decide +kernel⟩
theorem ok_lmoms (F : Fun K "_law_moments" "_law_moments" sLMoms f fd) (T : Blt mg) (lT : Cal P w K mg base 2 "_law_times" (spOp K mul domL)) (LP : Cal P w K mg base 3 "_law_power" (spLPower K)) (LS : Cal P w K mg base 3 "_law_sum" (spLSum K)) : FnOk P w K mg base CX0 4 f fd ["share_so", "top"] (spLMoms K) := by
  refine F.ok scLMoms (fun vs H Q E h => ?_) (fun cdv A outer s H vs Q E hr h => ?_)
  · obtain ⟨v, ps, k, rfl, _⟩ := h
    rfl
  · obtain ⟨v, ps, k, rfl, hs, sp2, lp, k0, k8, kk⟩ := h
    obtain ⟨a, xs, rfl, sx, all⟩ := hs.open
    have l := dpAll_len all
    rw [List.length_map] at l
    refine ⟨_, pss_cons (ps_set (i := 2) scLMoms.nd rfl (Or.inl rfl) (pe_lst pa_nil))
      (pss_cons (ps_for PassesOwn.never rfl (pi_range1 rfl T.range (pa_cons (pe_op op_add (pv 1) pe_int) pa_nil)) (pg_name (i := 3) scLMoms.nd rfl (Or.inr rfl))
        (pss_one (ps_expr (pe_bm PySem.F.plainAttrs_list PySem.F.slot_list_append PySem.F.type_list_append mt_append (pv 2) (pa_cons (pe_n LS hr (by decide) (by rfl) (pa_cons (pe_lc (own := [("number", 4), ("weight", 5)]) (g := gTup K 2 (gCons (gName 4) (gCons (gName 5) gNil))) (tt := tYes) rfl scLMoms.nd
          (pi_tup (pv 0)) (blkOk_by (N := NLM) (sc := defScope sLMoms) (by decide +kernel))
          (fun _ _ _ _ _ => pg_tup rfl (pgs_cons (pg_name (i := 4) scLMoms.nd rfl (Or.inl rfl)) (pgs_cons (pg_name (i := 5) scLMoms.nd rfl (Or.inl rfl)) pgs_nil))) (fun _ _ _ _ _ => pts_nil)
          (fun _ _ _ _ _ => pe_n lT hr (by decide) (by rfl) (pa_cons (pv 5) (pa_cons (pe_n LP hr (by decide) (by rfl) (pa_cons (pv 4) (pa_cons (pv 3) pa_nil))) pa_nil)))) pa_nil)) pa_nil)))))
      (pss_one (ps_ret (pe_callTy call_tuple_of (by rfl) T.tuple (by decide +kernel) (pa_cons (pv 2) pa_nil))))), ?_⟩
    refine ⟨(by show 0 ≤ sizeLine; decide), fun L hL => ?_⟩
    have s0 := same_new (o := .lst []) hL
    have et : (k + 1).toNat = k.toNat + 1 := by omega
    refine ⟨_, rfl, _, _, rfl, rfl, _, rfl, by omega, by omega, for_range (n := (k + 1).toNat) (fun i σ H1 => Same H H1 ∧ ∃ acc v3, H1 L = some (.lst acc) ∧ FrAll K H1 acc ((List.range i).map (mom ps)) ∧ σ = [some (V.ref a), some (V.int k), some (V.ref L), v3, none, none])
      ⟨s0, [], none, upd_same, .nil, rfl⟩ ?_ ?_⟩
    · rintro i σ H1 hi ⟨s1, acc, v3, hL1, fa, rfl⟩
      have la : acc.length = i := by rw [fa.len, List.length_map, List.length_range]
      have ki : i ≤ 7 := by omega
      have tm := terms_cb sp2 ki
      refine ⟨_, rfl, Or.inl ⟨rfl, _, SqL.of hL1⟩, _, rfl, a, rfl, ⟨_, Bs.Same.t s1 sx⟩, fun D hD => ?_⟩
      refine lc_tup (K := K) (a := a) (xs := xs) (fun j H2 => Same H1 H2 ∧ ∃ bc, H2 D = some (.lst bc) ∧ FrAll K H2 bc ((ps.map fun p => mul p.2 (pw p.1 i)).take j)) ⟨same_new hD, [], upd_same, .nil⟩ (fun j H2 _ z => Bs.Same.t (s1.trans z.1) sx) ?_ ?_
      · rintro j x H2 hx ⟨s2, bc, hD2, fb⟩
        obtain ⟨d, ed, dx⟩ := dpAll_at all hx
        obtain ⟨p, ep, rfl⟩ := map_some ed
        have hp := sp2 p (List.mem_of_getElem? ep)
        obtain ⟨b, u1, u2, rfl, sb, f1, f2⟩ := prOf (dps (s1.trans s2) dx)
        have et2 : (ps.map fun p => mul p.2 (pw p.1 i))[j]? = some (mul p.2 (pw p.1 i)) := by rw [List.getElem?_map, ep]; rfl
        have lb : bc.length ≤ 4 := by
          rw [fb.len, List.length_take, List.length_map]
          omega
        refine ⟨b, _, rfl, sb, rfl, _, _, rfl, _, _, rfl, rfl, rfl, ?_⟩
        refine iteT (B := Same H1 H2 ∧ ∃ bc, H2 D = some (.lst bc) ∧ FrAll K H2 bc ((ps.map fun p => mul p.2 (pw p.1 i)).take (j + 1))) ?_
        have hb2 := Int.le_of_dvd (by decide) hp.b1
        have ho := hp.o1.1
        refine ⟨_, rfl, _, rfl, _, rfl, u1, p.1, (i : Int), (by rw [Int.zero_add]; rfl), f1, hp.o1, Lt2.mono (m := 3) (by have := hp.a1; show _ < 8; omega) (by decide), Lt2.mono (m := 2) (by show p.1.2.natAbs < 4; omega) (by decide), by omega, by omega, fun H3 p1 s3 hp1 => ?_⟩
        have f3 : Fr K H3 (.ref p1) (pw p.1 i) := Fr.of hp1
        refine ⟨u2, .ref p1, p.2, pw p.1 i, rfl, f2.mono s3, f3, ⟨cb_dl (cb2 hp.o2 hp.b2 hp.a2) (Bd.of (by decide) (N := 1) (by decide) (by decide) (by decide)), cb_dl (pw_cb hp ki) (Bd.of (by decide) (N := 7) (by decide) (by decide) (by decide))⟩, fun p2 hp2 => ?_⟩
        have s4 := same_new (o := fr (mul p.2 (pw p.1 i))) hp2
        have s34 := s3.trans s4
        refine ⟨bc, s34 _ _ hD2, small1000 (by omega), fun c o e => (upd_ne (ne_of_none e hD)).trans (s34 c o (s2 c o e)), bc ++ [.ref p2], upd_same, ?_⟩
        rw [take_one et2]
        exact (FrAll.off (s34 _ _ hD2) (fb.mono s34)).snoc ((Fr.of upd_same).off (s34 _ _ hD2))
      · rintro H2 ⟨s2, bc, hD2, fb⟩
        rw [List.take_of_length_le (by rw [List.length_map]; omega)] at fb
        refine ⟨D, bc, _, 256, 24, rfl, SqL.of hD2, fb, tm, Bd.of (by decide) (N := 8) (by decide) (by decide) (by rw [List.length_map]; omega), fun H3 u s3 fu => ?_⟩
        have s23 := s2.trans s3
        have hL3 := s23 _ _ hL1
        refine ⟨L, acc, u, rfl, rfl, hL3, small1000 (by omega), ?_⟩
        refine ⟨fun c o e => (upd_ne (ne_of_none e hL)).trans (s23 c o (s1 c o e)), acc ++ [u], some (.int i), upd_same, ?_, (by rw [Int.zero_add]; rfl)⟩
        rw [List.range_succ, List.map_append]
        exact (FrAll.off hL3 (fa.mono s23)).snoc (fu.off hL3)
    · rintro σ H1 ⟨s1, acc, v3, hL1, fa, rfl⟩
      rw [et] at fa
      refine ⟨_, rfl, L, acc, rfl, Or.inl ⟨SqL.of hL1, fun p hp => ?_⟩⟩
      have s2 := same_new (o := .tup acc) hp
      exact kk _ p (s1.trans s2) ⟨p, acc, rfl, SqT.of upd_same, fa.mono s2⟩
end
def PrV (K : PySem.W.Frag) (H : Hp) (v : V) (p : Pr) : Prop := ∃ a u1 u2, v = .ref a ∧ SqT K H a [u1, u2] ∧ Fr K H u1 p.1 ∧ Fr K H u2 p.2
theorem sqT_kp {K : PySem.W.Frag} {H H' : Hp} {p c l a : Addr} {n : Nat} {t : Int} {xs : List V} (k : Kp p l H H') (S : Sta H p c l n t) (h : SqT K H a xs) : SqT K H' a xs := by
  obtain ⟨ls, b1, _⟩ := S.ls
  rcases h with (s | ⟨o, s⟩) | s
  · exact .inl (.inl (k a _ s (ne_of s S.d (by intro z; cases z)) (ne_of s b1 (by intro z; cases z))))
  · exact .inl (.inr ⟨o, k a _ s (ne_of s S.d (by intro z; cases z)) (ne_of s b1 (by intro z; cases z))⟩)
  · exact .inr s
theorem PrV.mono {K : PySem.W.Frag} {H H' : Hp} {v : V} {p : Pr} (h : PrV K H v p) (e : Same H H') : PrV K H' v p := by
  obtain ⟨a, u1, u2, rfl, s, f1, f2⟩ := h
  exact ⟨a, u1, u2, rfl, Bs.Same.t e s, f1.mono e, f2.mono e⟩
theorem PrV.kp {K : PySem.W.Frag} {H H' : Hp} {p c l : Addr} {n : Nat} {t : Int} {v : V} {r : Pr} (k : Kp p l H H') (S : Sta H p c l n t) (h : PrV K H v r) : PrV K H' v r := by
  obtain ⟨a, u1, u2, rfl, s, f1, f2⟩ := h
  exact ⟨a, u1, u2, rfl, sqT_kp k S s, k.fr S f1, k.fr S f2⟩
theorem PrV.off {K : PySem.W.Frag} {H : Hp} {D : Addr} {acc : List V} {o : HO} {v : V} {r : Pr} (hD : H D = some (.lst acc)) (h : PrV K H v r) : PrV K (upd H D o) v r := by
  obtain ⟨a, u1, u2, rfl, s, f1, f2⟩ := h
  exact ⟨a, u1, u2, rfl, sqT_off hD s, f1.off hD, f2.off hD⟩
theorem PrV.dp {K : PySem.W.Frag} {H : Hp} {v : V} {r : Pr} (h : PrV K H v r) : Dp K H v (dPr r) := by
  obtain ⟨a, u1, u2, rfl, s, f1, f2⟩ := h
  exact .tup s (.cons f1.dp (.cons f2.dp .nil))
inductive PrAll (K : PySem.W.Frag) (H : Hp) : List V → List Pr → Prop
  | nil : PrAll K H [] []
  | cons {v : V} {vs : List V} {p : Pr} {ps : List Pr} : PrV K H v p → PrAll K H vs ps → PrAll K H (v :: vs) (p :: ps)
section
variable {K : PySem.W.Frag} {H H' : Hp}
theorem PrAll.mono (e : Same H H') : ∀ {vs : List V} {ps : List Pr}, PrAll K H vs ps → PrAll K H' vs ps
  | _, _, .nil => .nil
  | _, _, .cons a b => .cons (a.mono e) (PrAll.mono e b)
theorem PrAll.kp {p c l : Addr} {n : Nat} {t : Int} (k : Kp p l H H') (S : Sta H p c l n t) : ∀ {vs : List V} {ps : List Pr}, PrAll K H vs ps → PrAll K H' vs ps
  | _, _, .nil => .nil
  | _, _, .cons a b => .cons (a.kp k S) (PrAll.kp k S b)
theorem PrAll.off {D : Addr} {acc : List V} {o : HO} (hD : H D = some (.lst acc)) : ∀ {vs : List V} {ps : List Pr}, PrAll K H vs ps → PrAll K (upd H D o) vs ps
  | _, _, .nil => .nil
  | _, _, .cons a b => .cons (a.off hD) (PrAll.off hD b)
theorem PrAll.snoc : ∀ {vs : List V} {ps : List Pr} {v : V} {p : Pr}, PrAll K H vs ps → PrV K H v p → PrAll K H (vs ++ [v]) (ps ++ [p])
  | _, _, _, _, .nil, h => .cons h .nil
  | _, _, _, _, .cons a b, h => .cons a (PrAll.snoc b h)
theorem PrAll.dp : ∀ {vs : List V} {ps : List Pr}, PrAll K H vs ps → DpAll K H vs (ps.map dPr)
  | _, _, .nil => .nil
  | _, _, .cons a b => .cons a.dp (PrAll.dp b)
theorem PrAll.len : ∀ {vs : List V} {ps : List Pr}, PrAll K H vs ps → vs.length = ps.length
  | _, _, .nil => rfl
  | _, _, .cons _ b => congrArg (· + 1) (PrAll.len b)
theorem FrAll.app : ∀ {vs ws : List V} {qs rs : List F}, FrAll K H vs qs → FrAll K H ws rs → FrAll K H (vs ++ ws) (qs ++ rs)
  | _, _, _, _, .nil, h => h
  | _, _, _, _, .cons a b, h => .cons a (FrAll.app b h)
end
structure Sn (q : F) : Prop where
  ok : Fq.Ok q
  b : q.2 ∣ 2
  a : q.1.natAbs < 5
theorem eqv_frac {q r : F} : PyData.eqv (dF q) (dF r) = decide (q = r) := by
  obtain ⟨a, b⟩ := q
  obtain ⟨c, d⟩ := r
  have e : PyData.eqv (dF (a, b)) (dF (c, d)) = (decide (a = c) && decide (b = d)) := by
    simp only [dF, PyData.eqv, PyData.eqvAll, Bool.and_true]
    rfl
  rw [e]
  simp [Prod.ext_iff]
theorem any_mem {q : F} : ∀ {ns : List F}, ((ns.map dF).any fun z => PyData.eqv z (dF q)) = decide (q ∈ ns)
  | [] => by simp
  | r :: ns => by
    rw [List.map_cons, List.any_cons, eqv_frac, any_mem]
    by_cases c : r = q
    · rw [decide_eq_true c, decide_eq_true (show q ∈ r :: ns by rw [c]; exact List.mem_cons_self)]
      rfl
    · rw [decide_eq_false c, Bool.false_or]
      congr 1
      refine propext ⟨fun h => List.mem_cons_of_mem _ h, fun h => ?_⟩
      rcases List.mem_cons.mp h with z | h
      · exact absurd z.symm c
      · exact h
theorem red_small {x y : Int} (h : y = 1 ∨ y = 2) : Fq.Ok (red x y) ∧ (red x y).2 ∣ 2 ∧ (red x y).1.natAbs ≤ x.natAbs := by
  have hp : 0 < y := by omega
  refine ⟨red_ok hp, ?_, red_top hp⟩
  refine Int.dvd_trans (vl_dvd (red_ok (a := x) hp) (vl_red hp)) ?_
  rcases h with rfl | rfl <;> decide
theorem cut_to {xs : List V} {k : Nat} (h : k ≤ xs.length) : cutV xs none (some (k : Int)) = xs.take k := by
  unfold cutV
  have e : HT.sIx xs.length xs.length (some (k : Int)) = k := by
    rw [HT.sIx_nat]
    omega
  rw [e]
  show (xs.drop 0).take (k - 0) = _
  rw [List.drop_zero, Nat.sub_zero]
theorem cut_from {xs : List V} {k : Nat} (h : k ≤ xs.length) : cutV xs (some (k : Int)) none = xs.drop k := by
  unfold cutV
  have e : HT.sIx xs.length 0 (some (k : Int)) = k := by
    rw [HT.sIx_nat]
    omega
  rw [e]
  show (xs.drop k).take (xs.length - k) = _
  rw [List.take_of_length_le (by rw [List.length_drop]; exact Nat.le_refl _)]
/-- the numbers drawn so far -/
structure NI (K : PySem.W.Frag) (H H1 : Hp) (p c l : Addr) (n : Nat) (t : Int) (i : Nat) (t' : Int) (a : Addr) (xs : List V) (ns : List F) : Prop where
  S : Sta H1 p c l n t'
  t1 : t ≤ t'
  t2 : t' ≤ t + 1 + 2 * i
  k : Kp p l H H1
  sq : H1 a = some (.lst xs)
  nl : a ≠ l
  fx : FrAll K H1 xs ns
  sn : ∀ q ∈ ns, Sn q
  asc : Asc ns
  ne : 0 < i → ns ≠ []
  len : ns.length ≤ i
/-- _law_share(state, few) -/
def spLShare (K : PySem.W.Frag) : Sp := fun vs H Q _ => ∃ (p c l : Addr) (n : Nat) (t few : Int), vs = [.ref p, .int few] ∧ Sta H p c l n t ∧ t ≤ 8000 ∧ 1 ≤ few ∧ few ≤ 4 ∧
  ∀ (H' : Hp) (v : V) (ps : List Pr) (t' : Int), Shr K H' v ps → (∀ p ∈ ps, Sp2 p) → ps ≠ [] → ps.length ≤ 4 → t ≤ t' → t' ≤ t + 17 → Sta H' p c l n t' → Kp p l H H' → Q v H'
abbrev NLS : List Str := ["state", "few", "numbers", "k", "one", "spot", "far"]
section
variable {P : Program} {w : World} {K : PySem.W.Frag} {mg : Str → Option Value} {base : Heap} {f : Addr} {fd : FuncData}
theorem scLShare : FnScope NLS ["state", "few"] (defScope sLShare) := ⟨rfl, rfl, rfl, by decide +kernel, rfl, by decide +kernel, by decide +kernel⟩
theorem ok_lshare (F : Fun K "_law_share" "_law_share" sLShare f fd) (T : Blt mg) (DR : Cal P w K mg base 2 "_law_draw" spDraw) (LR : Cal P w K mg base 1 "_law_ratio" spLRatio) (LU : Cal P w K mg base 1 "_law_under" (spLt' K)) : FnOk P w K mg base CX0 3 f fd ["state", "few"] (spLShare K) := by
  refine F.ok scLShare (fun vs H Q E h => ?_) (fun cdv A outer s H vs Q E hr h => ?_)
  · obtain ⟨p, c, l, n, t, few, rfl, _⟩ := h
    rfl
  · obtain ⟨p, c, l, n, t, few, rfl, S, t8, f1, f4, kk⟩ := h
    have hu65 : (cxOf CX0 P w K mg base NLS "_law_share" (defScope sLShare) f cdv A outer s H E).nox.A.units + 65 < cLine := by
      have := hr.un
      show (A.deeper _).units + 65 < cLine
      omega
    refine ⟨_, pss_cons (ps_set (i := 2) scLShare.nd rfl (Or.inl rfl) (pe_lst pa_nil))
      (C8.pss_cut (ps_for PassesOwn.never rfl (pi_range1 rfl T.range (pa_cons (pe_op op_add pe_int (pe_n DR hr (by decide) (by rfl) (pa_cons (pv 0) (pa_cons (pv 1) pa_nil)))) pa_nil)) (pg_name (i := 3) scLShare.nd rfl (Or.inl rfl))
        (pss_cons (ps_set (i := 4) scLShare.nd rfl (Or.inr rfl) (pe_n LR hr (by decide) (by rfl) (pa_cons (pe_op op_sub (pe_n DR hr (by decide) (by rfl) (pa_cons (pv 0) (pa_cons pe_int pa_nil))) pe_int) (pa_cons (pe_op op_add pe_int (pe_n DR hr (by decide) (by rfl) (pa_cons (pv 0) (pa_cons pe_int pa_nil)))) pa_nil))))
        (pss_cons (ps_set (i := 5) scLShare.nd rfl (Or.inl rfl) (pe_callB call_len_seq (by rfl) T.len (by decide +kernel) (pa_cons (pe_lc (own := [("far", 6)]) (g := gName 6) (tt := tB (tCall (spLt' K) [] E0 (tCons (tVar 6) (tCons (tVar 4) tNil)))) rfl scLShare.nd (pi_list (pv 2)) (blkOk_by (N := NLS) (sc := defScope sLShare) (by decide +kernel))
            (fun _ _ _ _ _ => pg_name (i := 6) scLShare.nd rfl (Or.inl rfl)) (fun _ _ _ _ _ => pts_one (pt_val (pe_n LU hr (by decide) (by rfl) (pa_cons (pv 6) (pa_cons (pv 4) pa_nil)))))
            (fun _ _ _ _ _ => pv 6)) pa_nil)))
        (pss_one (ps_if (pt_cmpR (op_notInD hu65) (pv 4) (pv 2) (by rfl)) (pss_one (ps_set (i := 2) scLShare.nd rfl (Or.inl rfl) (pe_op op_cat (pe_op op_cat (pe_slice sl_list (pv 2) po_none (po_some (pv 5))) (pe_lst (pa_cons (pv 4) pa_nil))) (pe_slice sl_list (pv 2) (po_some (pv 5)) po_none)))) pss_nil)))))
      (pss_one (ps_ret (pe_callTy call_tuple_of (by rfl) T.tuple (by decide +kernel) (pa_cons (pe_lc (own := [("one", 4)]) (g := gName 4) (tt := tYes) rfl scLShare.nd (pi_list (pv 2)) (blkOk_by (N := NLS) (sc := defScope sLShare) (by decide +kernel))
            (fun _ _ _ _ _ => pg_name (i := 4) scLShare.nd rfl (Or.inl rfl)) (fun _ _ _ _ _ => pts_nil)
            (fun _ _ _ _ _ => pe_tup (pa_cons (pv 4) (pa_cons (pe_n LR hr (by decide) (by rfl) (pa_cons (pe_op op_add pe_int (pe_n DR hr (by decide) (by rfl) (pa_cons (pv 0) (pa_cons pe_int pa_nil)))) (pa_cons (pe_op op_add pe_int (pe_n DR hr (by decide) (by rfl) (pa_cons (pv 0) (pa_cons pe_int pa_nil)))) pa_nil))) pa_nil)))) pa_nil))))), ?_⟩
    refine ⟨(by show 0 ≤ sizeLine; decide), fun a0 h0 => ?_⟩
    have s0 := same_new (o := .lst []) h0
    obtain ⟨ls, l1, _⟩ := S.ls
    have na0 : a0 ≠ l := (ne_of_none l1 h0).symm
    refine ⟨fun σ H1 => ∃ (t' : Int) (i : Nat) (a : Addr) (xs : List V) (ns : List Fq.F) (v3 v4 v5 : Option V), NI K H H1 p c l n t i t' a xs ns ∧ 0 < i ∧ i ≤ 4 ∧ σ = [some (V.ref p), some (V.int few), some (V.ref a), v3, v4, v5, none], ?_, ?_⟩
    · refine ⟨_, rfl, _, rfl, p, c, l, n, t, few, rfl, S.mono s0, by omega, by omega, by omega, fun H1 r r0 r1 S1 k1 => ?_⟩
      have sq0 : H1 a0 = some (.lst []) := k1 a0 _ upd_same (ne_of upd_same (S.mono s0).d (by intro z; cases z)) na0
      refine ⟨_, _, rfl, rfl, _, rfl, by omega, by omega, for_range (n := (1 + r).toNat) (fun i σ H1 => ∃ (t' : Int) (a : Addr) (xs : List V) (ns : List Fq.F) (v3 v4 v5 : Option V), NI K H H1 p c l n t i t' a xs ns ∧ σ = [some (V.ref p), some (V.int few), some (V.ref a), v3, v4, v5, none])
        ⟨t + 1, a0, [], [], none, none, none, ⟨S1, by omega, by omega, (Kp.of s0).trans k1, sq0, na0, .nil, fun q h => by simp at h, .nil, fun z => absurd z (by decide), Nat.zero_le _⟩, rfl⟩ ?_ ?_⟩
      · rintro i σ H2 hi ⟨t', a, xs, ns, v3, v4, v5, N, rfl⟩
        have ti := N.t2
        have tj := N.t1
        have lx := N.fx.len
        have ln := N.len
        refine ⟨_, rfl, p, c, l, n, t', 9, rfl, N.S, by omega, by decide, by decide, fun Ha x x0 x1 Sa ka => ?_⟩
        refine ⟨_, _, rfl, rfl, _, rfl, p, c, l, n, t' + 1, 2, rfl, Sa, by omega, by decide, by decide, fun Hb y y0 y1 Sb kb => ?_⟩
        refine ⟨_, _, rfl, rfl, _, _, rfl, by omega, ?_, fun p1 hp1 => ?_⟩
        · have : (1 + y).natAbs < 2 ^ 2 := by omega
          exact Lt2.mono (m := 2) this (by decide)
        have s1 := same_new (o := fr (red (x - 4) (1 + y))) hp1
        have f1 : Fr K (upd Hb p1 (fr (red (x - 4) (1 + y)))) (.ref p1) (red (x - 4) (1 + y)) := Fr.of upd_same
        obtain ⟨o1, o2, o3⟩ := red_small (x := x - 4) (y := 1 + y) (by omega)
        have sn1 : Sn (red (x - 4) (1 + y)) := ⟨o1, o2, by omega⟩
        have Sc : Sta (upd Hb p1 (fr (red (x - 4) (1 + y)))) p c l n (t' + 1 + 1) := Sb.mono s1
        have nap : a ≠ p := ne_of N.sq N.S.d (by intro z; cases z)
        have sqc : upd Hb p1 (fr (red (x - 4) (1 + y))) a = some (.lst xs) := s1 _ _ (kb a _ (ka a _ N.sq nap N.nl) nap N.nl)
        have fxc : FrAll K (upd Hb p1 (fr (red (x - 4) (1 + y)))) xs ns := ((N.fx.kp ka N.S).kp kb Sa).mono s1
        have kc : Kp p l H (upd Hb p1 (fr (red (x - 4) (1 + y)))) := ((N.k.trans ka).trans kb).trans (Kp.of s1)
        generalize upd Hb p1 (fr (red (x - 4) (1 + y))) = Hc at f1 Sc sqc fxc kc
        generalize red (x - 4) (1 + y) = q at f1 sn1
        clear o1 o2 o3 s1 hp1 ka kb Sa Sb
        have dlq : ∀ {r : Fq.F}, Sn r → Dl r := fun {r} h => cb_dl (cb2 h.ok h.b h.a) (Bd.of (by decide) (N := 1) (by decide) (by decide) (by decide))
        -- spot
        refine ⟨_, rfl, a, rfl, ⟨_, SqL.of sqc⟩, fun D hD => ?_⟩
        refine lc_list (K := K) (a := a) (xs := xs) (fun j H3 => Same Hc H3 ∧ ∃ acc, H3 D = some (.lst acc) ∧ acc.length = ((ns.take j).filter fun r => lt r q).length) ⟨same_new hD, [], upd_same, rfl⟩ (fun j H3 _ z => SqL.of (z.1 _ _ sqc)) ?_ ?_
        · rintro j u H3 hu ⟨s3, acc, hD3, la⟩
          obtain ⟨hj, _⟩ := List.getElem?_eq_some_iff.mp hu
          obtain ⟨u1, r, e1, e2, fr_⟩ := fxc.get (i := j) (by omega)
          rw [hu] at e1
          cases e1
          refine ⟨rfl, ?_⟩
          refine ⟨_, rfl, _, rfl, u, .ref p1, r, q, rfl, fr_.mono s3, f1.mono s3, ⟨dlq (N.sn r (List.mem_of_getElem? e2)), dlq sn1⟩, _, rfl, ?_⟩
          have et : ((ns.take (j + 1)).filter fun r => lt r q).length = ((ns.take j).filter fun r => lt r q).length + (if lt r q = true then 1 else 0) := by
            rw [take_one e2, List.filter_append, List.length_append]
            congr 1
            by_cases c : lt r q = true
            · rw [if_pos c, List.filter_cons_of_pos (by exact c)]
              rfl
            · rw [if_neg c, List.filter_cons_of_neg (by exact c)]
              rfl
          have lf : ((ns.take j).filter fun r => lt r q).length ≤ ns.length := Nat.le_trans (List.length_filter_le _ _) (by rw [List.length_take]; omega)
          refine ite2 (fun c => ?_) (fun c => ?_)
          · refine ⟨_, rfl, acc, hD3, small1000 (by omega), fun b o e => (upd_ne (ne_of_none e hD)).trans (s3 b o e), acc ++ [u], upd_same, ?_⟩
            rw [et, if_pos c, List.length_append, la]
            rfl
          · exact ⟨s3, acc, hD3, by rw [et, if_neg c, la]; rfl⟩
        rintro H3 ⟨s3, acc, hD3, la⟩
        rw [lx, List.take_length] at la
        refine ⟨D, acc, rfl, Or.inl (SqL.of hD3), ?_⟩
        have sp_le : acc.length ≤ xs.length := by
          rw [la, lx]
          exact List.length_filter_le _ _
        have sq3 := s3 _ _ sqc
        have fx3 := fxc.mono s3
        have S3' := Sc.mono s3
        have k3 := kc.trans (Kp.of s3)
        have f3 := f1.mono s3
        -- not in
        refine ⟨_, rfl, _, rfl, dF q, ns.map dF, f3.dp, .lst (SqL.of sq3) fx3.dp, shaped_dF q, shaped_dFs ns, _, rfl, ?_⟩
        rw [any_mem]
        by_cases m : q ∈ ns
        · rw [decide_eq_true m]
          refine iteF ?_
          exact ⟨t' + 1 + 1, a, xs, ns, _, _, _, ⟨S3', by omega, by omega, k3, sq3, N.nl, fx3, N.sn, N.asc, (fun _ z => by rw [z] at m; exact absurd m (List.not_mem_nil)), by omega⟩, rfl⟩
        · rw [decide_eq_false m]
          refine iteT ?_
          refine ⟨_, rfl, _, rfl, (acc.length : Int), rfl, a, xs, rfl, SqL.of sq3, fun b1 hb1 => ?_⟩
          rw [cut_to sp_le]
          have s4 := same_new (o := .lst (xs.take acc.length)) hb1
          refine ⟨_, rfl, (by show 1 ≤ sizeLine; decide), fun b2 hb2 => ?_⟩
          have s5 := same_new (o := .lst [V.ref p1]) hb2
          have l1' : (xs.take acc.length).length ≤ 4 := by rw [List.length_take]; omega
          refine ⟨b1, b2, _, _, rfl, rfl, s5 _ _ upd_same, upd_same, Nat.le_of_lt (small1000 (by show _ + 1 ≤ 1000; omega)), fun b3 hb3 => ?_⟩
          have s6 := same_new (o := .lst (xs.take acc.length ++ [V.ref p1])) hb3
          have s46 := s4.trans (s5.trans s6)
          refine ⟨_, rfl, _, rfl, (acc.length : Int), rfl, a, xs, rfl, SqL.of (s46 _ _ sq3), fun b4 hb4 => ?_⟩
          rw [cut_from sp_le]
          have s7 := same_new (o := .lst (xs.drop acc.length)) hb4
          have l2' : (xs.drop acc.length).length ≤ 4 := by rw [List.length_drop]; omega
          refine ⟨b3, b4, _, _, rfl, rfl, s7 _ _ upd_same, upd_same, Nat.le_of_lt (small1000 (by rw [List.length_append]; show _ + 1 + _ ≤ 1000; omega)), fun b5 hb5 => ?_⟩
          have s8 := same_new (o := .lst (xs.take acc.length ++ [V.ref p1] ++ xs.drop acc.length)) hb5
          have s48 := s46.trans (s7.trans s8)
          have S8 := S3'.mono s48
          obtain ⟨ls8, l8, _⟩ := (S3'.mono (s46.trans s7)).ls
          have nb5 : b5 ≠ l := (ne_of_none l8 hb5).symm
          have fx8 := fx3.mono s48
          have ea := asc_ins sn1.ok (fun r hr => (N.sn r hr).ok) N.asc m
          rw [← la] at ea
          refine ⟨t' + 1 + 1, b5, _, ns.take acc.length ++ [q] ++ ns.drop acc.length, _, _, _, ⟨S8, by omega, by omega, k3.trans (Kp.of s48), upd_same, nb5, FrAll.app (FrAll.app (fx8.take _) (.cons (f3.mono s48) .nil)) (FrAll.drop _ fx8), ?_, ea, ?_, ?_⟩, rfl⟩
          · intro r hr
            rcases List.mem_append.mp hr with h | h
            · rcases List.mem_append.mp h with h | h
              · exact N.sn r (List.mem_of_mem_take h)
              · rw [List.mem_singleton.mp h]
                exact sn1
            · exact N.sn r (List.mem_of_mem_drop h)
          · intro _ z
            have := congrArg List.length z
            rw [List.length_append, List.length_append] at this
            simp at this
          · rw [List.length_append, List.length_append, List.length_take, List.length_drop]
            show _ + 1 + _ ≤ _
            omega
      · rintro σ H2 ⟨t', a, xs, ns, v3, v4, v5, N, rfl⟩
        exact ⟨t', (1 + r).toNat, a, xs, ns, v3, v4, v5, N, by omega, by omega, rfl⟩
    rintro σ H1 ⟨t', i, a, xs, ns, v3, v4, v5, N, i0, i4, rfl⟩
    have ti := N.t2
    have tj := N.t1
    have lx := N.fx.len
    have ln := N.len
    refine ⟨_, rfl, a, rfl, ⟨_, SqL.of N.sq⟩, fun D hD => ?_⟩
    have s1 := same_new (o := .lst []) hD
    obtain ⟨ls1, c1, _⟩ := N.S.ls
    obtain ⟨cs1, c2, _⟩ := N.S.cs
    have nc : c ≠ D := ne_of_none c2 hD
    have nl : l ≠ D := ne_of_none c1 hD
    have np : p ≠ D := ne_of_none N.S.d hD
    refine lc_list (K := K) (a := a) (xs := xs) (fun j H2 => ∃ (u : Int) (acc : List V) (ps : List Pr), H2 D = some (.lst acc) ∧ PrAll K H2 acc ps ∧ ps.map (·.1) = ns.take j ∧ (∀ r ∈ ps, Sp2 r) ∧ Sta H2 p c l n u ∧ t' ≤ u ∧ u ≤ t' + 2 * j ∧ (∀ b o, H b = some o → b ≠ p → b ≠ l → H2 b = some o) ∧ H2 a = some (.lst xs) ∧ FrAll K H2 xs ns)
      ⟨t', [], [], upd_same, .nil, rfl, fun r h => by simp at h, N.S.mono s1, by omega, by omega, fun b o e n1 n2 => s1 b o (N.k b o e n1 n2), s1 _ _ N.sq, N.fx.mono s1⟩ ?_ ?_ ?_
    · rintro j H2 _ ⟨_, _, _, _, _, _, _, _, _, _, _, z, _⟩
      exact SqL.of z
    · rintro j x H2 hx ⟨u, acc, ps, hD2, pa, em, sp2, S2, u1, u2, kk2, sq2, fx2⟩
      obtain ⟨hj, _⟩ := List.getElem?_eq_some_iff.mp hx
      obtain ⟨x1, q, e1, e2, fq⟩ := fx2.get (i := j) (by omega)
      rw [hx] at e1
      cases e1
      have snq := N.sn q (List.mem_of_getElem? e2)
      have la : acc.length ≤ 4 := by
        rw [pa.len]
        have := congrArg List.length em
        rw [List.length_map, List.length_take] at this
        omega
      refine ⟨rfl, ?_⟩
      refine iteT (B := ∃ (u : Int) (acc : List V) (ps : List Pr), H2 D = some (.lst acc) ∧ PrAll K H2 acc ps ∧ ps.map (·.1) = ns.take (j + 1) ∧ (∀ r ∈ ps, Sp2 r) ∧ Sta H2 p c l n u ∧ t' ≤ u ∧ u ≤ t' + 2 * ((j + 1 : Nat) : Int) ∧ (∀ b o, H b = some o → b ≠ p → b ≠ l → H2 b = some o) ∧ H2 a = some (.lst xs) ∧ FrAll K H2 xs ns) ?_
      refine ⟨_, rfl, _, rfl, p, c, l, n, u, 4, rfl, S2, by omega, by decide, by decide, fun Ha y y0 y1 Sa ka => ?_⟩
      refine ⟨_, _, rfl, rfl, _, rfl, p, c, l, n, u + 1, 2, rfl, Sa, by omega, by decide, by decide, fun Hb y2 y20 y21 Sb kb => ?_⟩
      refine ⟨_, _, rfl, rfl, _, _, rfl, by omega, ?_, fun p1 hp1 => ?_⟩
      · have : (1 + y2).natAbs < 2 ^ 2 := by omega
        exact Lt2.mono (m := 2) this (by decide)
      have s3 := same_new (o := fr (red (1 + y) (1 + y2))) hp1
      refine ⟨(by show 2 ≤ sizeLine; decide), fun p2 hp2 => ?_⟩
      have s4 := same_new (o := .tup [x, V.ref p1]) hp2
      have s34 := s3.trans s4
      obtain ⟨o1, o2, o3⟩ := red_small (x := 1 + y) (y := 1 + y2) (by omega)
      have op := red_pos (a := 1 + y) (b := 1 + y2) (by omega) (by omega)
      have fqb := ((ka.fr S2 fq).mono (H' := Ha) (fun _ _ z => z))
      have fq4 := (kb.fr Sa fqb).mono s34
      have f2 : Fr K (upd Hb p1 (fr (red (1 + y) (1 + y2)))) (.ref p1) (red (1 + y) (1 + y2)) := Fr.of upd_same
      have pv4 : PrV K (upd (upd Hb p1 (fr (red (1 + y) (1 + y2)))) p2 (.tup [x, V.ref p1])) (.ref p2) (q, red (1 + y) (1 + y2)) := ⟨p2, x, .ref p1, rfl, SqT.of upd_same, fq4, f2.mono s4⟩
      have hDa : Ha D = some (.lst acc) := ka D _ hD2 np.symm nl.symm
      have hDb : Hb D = some (.lst acc) := kb D _ hDa np.symm nl.symm
      have hD4 := s34 _ _ hDb
      have S4 := Sb.mono s34
      refine ⟨acc, hD4, small1000 (by omega), u + 1 + 1, acc ++ [.ref p2], ps ++ [(q, red (1 + y) (1 + y2))], upd_same, ?_, ?_, ?_, S4.off hD4 nc nl, by omega, by omega, ?_, ?_, ?_⟩
      · exact (PrAll.off hD4 (((pa.kp ka S2).kp kb Sa).mono s34)).snoc (pv4.off hD4)
      · rw [List.map_append, em, take_one e2]
        rfl
      · intro r hr
        rcases List.mem_append.mp hr with h | h
        · exact sp2 r h
        · rw [List.mem_singleton.mp h]
          exact ⟨snq.ok, snq.b, snq.a, o1, o2, by show (red (1 + y) (1 + y2)).1.natAbs < 5; omega, op.1⟩
      · intro b o e n1 n2
        have nb : b ≠ D := ne_of_none (N.k b o e n1 n2) hD
        exact (upd_ne nb).trans (s34 b o (kb b o (ka b o (kk2 b o e n1 n2) n1 n2) n1 n2))
      · have nap : a ≠ p := ne_of sq2 S2.d (by intro z; cases z)
        have naD : a ≠ D := ne_of_none N.sq hD
        exact (upd_ne naD).trans (s34 _ _ (kb a _ (ka a _ sq2 nap N.nl) nap N.nl))
      · exact FrAll.off hD4 (((fx2.kp ka S2).kp kb Sa).mono s34)
    · rintro H2 ⟨u, acc, ps, hD2, pa, em, sp2, S2, u1, u2, kk2, sq2, fx2⟩
      rw [lx, List.take_length] at em
      have lp : ps.length = ns.length := by
        have := congrArg List.length em
        rwa [List.length_map] at this
      have np' : ps ≠ [] := by
        rintro rfl
        exact N.ne i0 em.symm
      refine ⟨D, acc, rfl, Or.inl ⟨SqL.of hD2, fun b hb => ?_⟩⟩
      have s2 := same_new (o := .tup acc) hb
      refine kk _ (.ref b) ps u (.tup (SqT.of upd_same) (pa.mono s2).dp) sp2 np' (by omega) (by omega) (by omega) (S2.mono s2) (fun b' o e n1 n2 => s2 _ _ (kk2 b' o e n1 n2))
end
end Rs


set_option Elab.async false
set_option linter.all false
set_option maxRecDepth 100000
set_option maxHeartbeats 1000000
namespace Fq
open Rs
end Fq
namespace Rs
open PySem L2 Bs Fq LamX RZ
def rLenK (K : PySem.W.Frag) : List V → Hp → VK → Prop := fun xs H Q => ∃ p ys, xs = [V.ref p] ∧ (SqL K H p ys ∨ SqT K H p ys) ∧ Q (.int ys.length) H
end Rs


set_option Elab.async false
set_option linter.all false
set_option maxRecDepth 100000
set_option maxHeartbeats 400000
namespace Rs
open PySem L2 Bs Fq LamX LmD TA2
theorem ExtN.t {K : PySem.W.Frag} {H H' : Hp} {a : Addr} {xs : List V} (e : ExtN H H') (h : SqT K H a xs) : SqT K H' a xs := by
  rcases h with (h | ⟨o, h⟩) | h
  · exact .inl (.inl (e _ _ h (by intro ps z; cases z)))
  · exact .inl (.inr ⟨o, e _ _ h (by intro ps z; cases z)⟩)
  · exact .inr h
theorem ExtN.fr {K : PySem.W.Frag} {H H' : Hp} {v : V} {q : F} (e : ExtN H H') (h : Fr K H v q) : Fr K H' v q := by
  obtain ⟨a, rfl, s⟩ := h
  exact ⟨a, rfl, ExtN.t e s⟩
theorem Sta.ext {H H' : Hp} {p c l : Addr} {n : Nat} {t : Int} (S : Sta H p c l n t) (e : ExtN H H') : Sta H' p c l n t := by
  obtain ⟨cs, a1, a2⟩ := S.cs
  obtain ⟨ls, b1, b2⟩ := S.ls
  exact ⟨e _ _ S.d (by intro ps z; cases z), ⟨cs, e _ _ a1 (by intro ps z; cases z), a2⟩, ⟨ls, e _ _ b1 (by intro ps z; cases z), b2⟩, S.ne, S.n1, S.n2, S.t0⟩
section
variable {K : PySem.W.Frag} {H H' : Hp}
theorem sqL_ext (e : ExtN H H') {a : Addr} {xs : List V} (h : SqL K H a xs) : SqL K H' a xs := by
  rcases h with (h | ⟨o, h⟩) | h
  · exact .inl (.inl (e _ _ h (by intro ps z; cases z)))
  · exact .inl (.inr ⟨o, e _ _ h (by intro ps z; cases z)⟩)
  · exact .inr h
mutual
theorem dp_ext (e : ExtN H H') : ∀ (d : PyData) (v : V), Dp K H v d → Dp K H' v d
  | .none, _, h => by
    cases h
    exact .non
  | .bool b, _, h => by
    cases h
    exact .bl _
  | .int i, _, h => by
    cases h
    exact .int _
  | .str x, _, h => by
    cases h
    exact .str _
  | .list ds, _, h => by
    cases h with
    | lst hs ha => exact .lst (sqL_ext e hs) (dpAll_ext e ds _ ha)
  | .tuple ds, _, h => by
    cases h with
    | tup hs ha => exact .tup (ExtN.t e hs) (dpAll_ext e ds _ ha)
  | .dict _, _, h => by cases h
theorem dpAll_ext (e : ExtN H H') : ∀ (ds : List PyData) (vs : List V), DpAll K H vs ds → DpAll K H' vs ds
  | [], _, h => by
    cases h
    exact .nil
  | d :: ds, _, h => by
    cases h with
    | cons h1 h2 => exact .cons (dp_ext e d _ h1) (dpAll_ext e ds _ h2)
end
end
theorem ExtN.t2 {K : PySem.W.Frag} {H H' : Hp} {v : V} {d : PyData} (e : ExtN H H') (h : Dp K H v d) : Dp K H' v d := dp_ext e d v h
theorem ExtN.l {H H' : Hp} {a : Addr} {xs : List V} (e : ExtN H H') (h : H a = some (.lst xs)) : H' a = some (.lst xs) := e _ _ h (by intro ps z; cases z)
end Rs


set_option Elab.async false
set_option linter.all false
set_option maxRecDepth 100000
set_option maxHeartbeats 1000000
namespace Rs
open PySem L2 Bs Fq LamX LmD RZ TA2
/-- repr of a truth -/
theorem call_repr_bl {X : Cx} : CallR X (.builtin "repr") (fun xs H Q => ∃ b, xs = [.bl b] ∧ Q (.str (if b then "True" else "False")) H) := by
  intro pins s σ H xs us Q I r h
  obtain ⟨b, rfl, q⟩ := h
  obtain ⟨u, rfl, r1⟩ := vals1 r
  obtain rfl : u = .bool b := r1
  exact PySem.P.repr_of_bool ⟨.str _, H, I.tok _, ⟨_, rfl⟩, q⟩
end Rs


set_option linter.all false
set_option maxRecDepth 100000
namespace Pg
abbrev Blk := List Int
abbrev Prt := List (List Int)
def hdI (b : Blk) : Int := b.headD 0
def ltI (b : Blk) : Int := b.getLastD 0
def prs (b : Blk) : List (Int × Int) := b.zip b.tail
def isBlk (b : Blk) : Bool := !b.isEmpty && ((b.all fun n => decide (0 ≤ n) && decide (n ≤ 6)) && (prs b).all fun q => decide (q.1 < q.2))
def within (b : Blk) (lo hi : Int) : Nat := (b.filter fun n => decide (lo ≤ n) && decide (n < hi)).length
def cutB (lo hi : Int) (b : Blk) : Bool := decide (0 < within b lo hi) && decide (within b lo hi < b.length)
def parted (p : Prt) (lo hi : Int) : Bool := p.any (cutB lo hi)
def gaps (p : Prt) : List (Int × Int) := p.flatMap fun b => (prs b).map fun q => (q.1 + 1, q.2)
def crosses (p : Prt) : Bool := (gaps p).any fun g => parted p g.1 g.2
def strB (b : Blk) : Bool := decide (ltI b - hdI b + 1 = b.length)
def stretched (p : Prt) : Bool := p.all strB
inductive Kd
  | all | free | str
deriving DecidableEq
def hasK (k : Kd) (p : Prt) : Bool := match k with
  | .free => !crosses p
  | .all => true
  | .str => stretched p
def more (p : Prt) (n : Int) (k : Nat) : Prt := p.take k ++ [p.getD k [] ++ [n]] ++ p.drop (k + 1)
def withN (p : Prt) (n : Int) : List Prt := (p ++ [[n]]) :: (List.range p.length).map (more p n)
def partsOf (k : Kd) : Nat → List Prt
  | 0 => [[]]
  | m + 1 => ((partsOf k m).flatMap fun p => withN p m).filter (hasK k)
def total (p : Prt) : Nat := (p.map List.length).sum
def beside (p bs : Prt) (n : Int) : List Nat := (List.range bs.length).filter fun k => !parted p (hdI (bs.getD k []) + 1) (n + 1)
def turnS (p bs : Prt) (n : Int) : Prt := match beside p bs n with
  | k :: _ => bs.set k (bs.getD k [] ++ [n])
  | [] => bs ++ [[n]]
def turnTo (p : Prt) : Nat → Prt
  | 0 => []
  | m + 1 => turnS p (turnTo p m) m
def turnP (p : Prt) : Prt := turnTo p (total p)
def sgn (x : Int) (m : Nat) : Int := if m % 2 = 1 then x else -x
def cat (m : Nat) : Int := match m with
  | 1 => 1 | 2 => 1 | 3 => 2 | 4 => 5 | 5 => 14 | 6 => 42 | 7 => 132 | _ => 0
def fact : Nat → Int
  | 0 => 1
  | n + 1 => (n + 1 : Nat) * fact n
def signB (k : Kd) (p : Prt) : Int := match k with
  | .free => (turnP p).foldl (fun w b => w * sgn (cat b.length) b.length) 1
  | .all => if p.length = 0 then 1 else sgn (fact (p.length - 1)) p.length
  | .str => if p.length = 0 then 1 else sgn 1 p.length
def lawRows : Nat → List Prt
  | 0 => [[]]
  | m + 1 => (lawRows m).flatMap fun p => withN p m
def homes (p : Prt) (n : Int) : List Nat := (List.range p.length).filter fun k => (p.getD k []).contains n
def home (p : Prt) (n : Int) : Nat := (homes p n).headD 0
def freeB (h : List Nat) : Bool := (List.range h.length).all fun near => (List.range h.length).all fun spot => (List.range h.length).all fun late =>
  !(decide (near < spot) && (decide (spot < late) && (decide (h.getD near 0 = h.getD late 0) && (decide (h.getD late 0 ≠ h.getD spot 0) && (h.drop (late + 1)).contains (h.getD spot 0)))))
def lawFree (p : Prt) : Bool := freeB ((List.range (total p)).map fun n : Nat => home p n)
def lawKind (k : Kd) (p : Prt) : Bool := match k with
  | .free => lawFree p
  | .all => true
  | .str => p.all fun b => !decide (ltI b - hdI b ≥ b.length)
def lawCut (b : Blk) (late : Int) (own : Blk) : Bool := decide (0 < (own.filter fun n => decide (hdI b < n) && decide (n ≤ late)).length) && decide ((own.filter fun n => decide (hdI b < n) && decide (n ≤ late)).length < own.length)
def lawBeside (p bs : Prt) (n : Int) : List Nat := (List.range bs.length).filter fun k => !(p.any (lawCut (bs.getD k []) n))
def lawTurnS (p bs : Prt) (n : Int) : Prt := match lawBeside p bs n with
  | k :: _ => bs.set k (bs.getD k [] ++ [n])
  | [] => bs ++ [[n]]
def lawTurnTo (p : Prt) : Nat → Prt
  | 0 => []
  | m + 1 => lawTurnS p (lawTurnTo p m) m
def lawTurn (p : Prt) : Prt := lawTurnTo p (total p)
def sg (b : Blk) : Int := [1, -1, 2, -5, 14, -42, 132].getD (b.length - 1) 0
def lawSign (k : Kd) (p : Prt) : Int := match k with
  | .free => (lawTurn p).foldl (fun w b => w * sg b) 1
  | .all => (List.range (p.length - 1)).foldl (fun w i => w * (0 - ((1 + i : Nat) : Int))) 1
  | .str => (List.range (p.length - 1)).foldl (fun w _ => w * (-1)) 1
def kds : List Kd := [.all, .free, .str]
def validB (p : Prt) : Bool := (p.all isBlk) && (((p.zip p.tail).all fun q => decide (hdI q.1 < hdI q.2)) && p.flatten.isPerm ((List.range (total p)).map fun n : Nat => (n : Int)))
def sizeB (p : Prt) : Bool := decide (p.length ≤ 8) && p.all fun b => decide (b.length ≤ 8) && decide (0 < b.length)
def oneB (p : Prt) : Bool := validB p && (sizeB p && (sizeB (turnP p) && (decide (total p ≤ 7) && ((kds.all fun k => hasK k p == lawKind k p && (!lawKind k p || signB k p == lawSign k p)) && (turnP p == lawTurn p && (lawKind .free (turnP p) && (!lawKind .free p || (turnP p).length + p.length == total p + (if total p = 0 then 0 else 1))))))))
theorem all_one : ∀ n ∈ [0, 1, 2, 3, 4, 5], (lawRows n).all oneB = true := by decide +kernel
theorem all_perm : ∀ n ∈ [0, 1, 2, 3, 4, 5], ∀ k ∈ kds, (((lawRows n).filter (lawKind k)).isPerm (partsOf k n)) = true := by decide +kernel
/-- how many there are, and of what size -/
def lens (k : Kd) (n : Nat) : List Nat := (List.range (n + 1)).map fun m => (partsOf k m).length
def szTo (k : Kd) (n : Nat) : Bool := (List.range (n + 1)).all fun m => decide ((partsOf k m).length ≤ 500) && (partsOf k m).all sizeB
theorem len_free : (partsOf .free 6).length = 132 ∧ (partsOf .free 7).length = 429 := by decide +kernel
theorem len_str : (partsOf .str 6).length = 32 ∧ (partsOf .str 7).length = 64 := by decide +kernel
theorem sz_free : szTo .free 7 = true := by decide +kernel
theorem sz_str : szTo .str 7 = true := by decide +kernel
theorem sz_all : szTo .all 5 = true := by decide +kernel
end Pg


set_option Elab.async false
set_option linter.all false
set_option maxRecDepth 100000
set_option maxHeartbeats 400000
namespace Rs
open PySem L2 Bs Fq
abbrev sBetween : Stmt := top 21
abbrev sNeedB : Stmt := top 26
section
variable {P : Program} {w : World} {K : PySem.W.Frag} {mg : Str → Option Value} {base : Heap} {f : Addr} {fd : FuncData}
theorem sc16 : FnScope ["thing", "low", "high"] ["thing", "low", "high"] (defScope sBetween) := ⟨rfl, rfl, rfl, by decide +kernel, rfl, by decide +kernel, by decide +kernel⟩
theorem ok_between (F : Fun K "is_between" "is_between" sBetween f fd) (W : Cal P w K mg base 1 "is_whole" (spWhole K)) : FnOk P w K mg base CX0 2 f fd ["thing", "low", "high"] (spBetween K) := by
  refine F.ok sc16 (fun vs H Q E h => ?_) (fun cdv A outer s H vs Q E hr h => ?_)
  · obtain ⟨v, d, lo, hi, rfl, _⟩ := h
    rfl
  · obtain ⟨v, d, lo, hi, rfl, hd, k⟩ := h
    refine ⟨_, pss_one (ps_ret (pe_and (pe_n W hr (by decide) (by rfl) (pa_cons (pv 0) pa_nil)) (pe_and (pe_cmpR op_le (pv 1) (pv 0) (nomark _)) (pe_one (pe_cmpR op_le (pv 0) (pv 2) (nomark _)))))), ?_⟩
    refine ⟨v, rfl, v, d, rfl, hd, _, rfl, ?_⟩
    cases d with
    | int i =>
      cases hd
      refine iteT ⟨_, rfl, _, rfl, _, _, rfl, rfl, _, rfl, ?_⟩
      have e : betwD lo hi (.int i) = (decide (lo ≤ i) && decide (i ≤ hi)) := rfl
      refine ite2 (fun c => ⟨_, rfl, _, rfl, _, _, rfl, rfl, ?_⟩) (fun c => ?_)
      · rw [e, c, Bool.true_and] at k
        exact k
      · rw [e, Bool.eq_false_iff.mpr c, Bool.false_and] at k
        exact k
    | bool b => exact iteF k
    | none => exact iteF k
    | str x => exact iteF k
    | list xs => exact iteF k
    | tuple xs => exact iteF k
    | dict xs => exact iteF k
end
end Rs


set_option Elab.async false
set_option linter.all false
set_option maxRecDepth 100000
set_option maxHeartbeats 400000
namespace Rs
open PySem L2 Bs Fq
section
variable {P : Program} {w : World} {K : PySem.W.Frag} {mg : Str → Option Value} {base : Heap} {f : Addr} {fd : FuncData} {CF CN : Addr}
theorem sc19 : FnScope ["thing", "low", "high"] ["thing", "low", "high"] (defScope sNeedB) := ⟨rfl, rfl, rfl, by decide +kernel, rfl, by decide +kernel, by decide +kernel⟩
end
end Rs


set_option Elab.async false
set_option linter.all false
set_option maxRecDepth 100000
set_option maxHeartbeats 1000000
namespace Rs
open PySem L2 Bs LamX Pg RZ
inductive Al {α : Type} (R : V → α → Prop) : List V → List α → Prop
  | nil : Al R [] []
  | cons {v : V} {vs : List V} {q : α} {qs : List α} : R v q → Al R vs qs → Al R (v :: vs) (q :: qs)
section
variable {α β : Type} {R S : V → α → Prop} {vs us : List V} {qs rs : List α}
theorem Al.imp (h : ∀ v q, R v q → S v q) : ∀ {vs : List V} {qs : List α}, Al R vs qs → Al S vs qs
  | _, _, .nil => .nil
  | _, _, .cons a b => .cons (h _ _ a) (Al.imp h b)
theorem Al.len : ∀ {vs : List V} {qs : List α}, Al R vs qs → vs.length = qs.length
  | _, _, .nil => rfl
  | _, _, .cons _ b => congrArg (· + 1) (Al.len b)
theorem Al.get : ∀ {vs : List V} {qs : List α} {i : Nat} {v : V}, Al R vs qs → vs[i]? = some v → ∃ q, qs[i]? = some q ∧ R v q
  | _, _, 0, _, .cons a _, h => by
    cases h
    exact ⟨_, rfl, a⟩
  | _, _, i + 1, _, .cons _ b, h => Al.get (i := i) b h
  | _, _, _, _, .nil, h => by simp at h
theorem Al.at : ∀ {vs : List V} {qs : List α} {i : Nat} {q : α}, Al R vs qs → qs[i]? = some q → ∃ v, vs[i]? = some v ∧ R v q
  | _, _, 0, _, .cons a _, h => by
    cases h
    exact ⟨_, rfl, a⟩
  | _, _, i + 1, _, .cons _ b, h => Al.at (i := i) b h
  | _, _, _, _, .nil, h => by simp at h
theorem Al.app : ∀ {vs us : List V} {qs rs : List α}, Al R vs qs → Al R us rs → Al R (vs ++ us) (qs ++ rs)
  | _, _, _, _, .nil, h => h
  | _, _, _, _, .cons a b, h => .cons a (Al.app b h)
theorem Al.snoc {v : V} {q : α} (h : Al R vs qs) (g : R v q) : Al R (vs ++ [v]) (qs ++ [q]) := h.app (.cons g .nil)
theorem Al.take : ∀ {vs : List V} {qs : List α} (n : Nat), Al R vs qs → Al R (vs.take n) (qs.take n)
  | _, _, 0, _ => .nil
  | _, _, n + 1, .nil => .nil
  | _, _, n + 1, .cons a b => .cons a (Al.take n b)
theorem Al.drop : ∀ {vs : List V} {qs : List α} (n : Nat), Al R vs qs → Al R (vs.drop n) (qs.drop n)
  | _, _, 0, h => h
  | _, _, n + 1, .nil => .nil
  | _, _, n + 1, .cons a b => Al.drop n b
theorem Al.set : ∀ {vs : List V} {qs : List α} (n : Nat) {v : V} {q : α}, Al R vs qs → R v q → Al R (vs.set n v) (qs.set n q)
  | _, _, _, _, _, .nil, _ => .nil
  | _, _, 0, _, _, .cons _ b, h => .cons h b
  | _, _, n + 1, _, _, .cons a b, h => .cons a (Al.set n b h)
end
/-- a tuple of whole numbers -/
def It (K : PySem.W.Frag) (H : Hp) (v : V) (w : List Int) : Prop := ∃ a, v = .ref a ∧ SqT K H a (w.map V.int)
def dI (w : List Int) : PyData := .tuple (w.map PyData.int)
/-- a tuple of them -/
def Pt (K : PySem.W.Frag) (H : Hp) (v : V) (ws : Prt) : Prop := ∃ a vs, v = .ref a ∧ SqT K H a vs ∧ Al (It K H) vs ws
def dW (ws : Prt) : PyData := .tuple (ws.map dI)
section
variable {K : PySem.W.Frag} {H H' : Hp} {v : V} {w : List Int} {ws : Prt} {D : Addr} {acc : List V} {o : HO}
theorem It.mono (h : It K H v w) (e : Same H H') : It K H' v w := by
  obtain ⟨a, rfl, s⟩ := h
  exact ⟨a, rfl, Bs.Same.t e s⟩
theorem It.off (h : It K H v w) (hD : H D = some (.lst acc)) : It K (upd H D o) v w := by
  obtain ⟨a, rfl, s⟩ := h
  exact ⟨a, rfl, sqT_off hD s⟩
theorem dpInts : ∀ w : List Int, DpAll K H (w.map V.int) (w.map PyData.int)
  | [] => .nil
  | i :: w => .cons (.int i) (dpInts w)
theorem It.dp (h : It K H v w) : Dp K H v (dI w) := by
  obtain ⟨a, rfl, s⟩ := h
  exact .tup s (dpInts w)
theorem Al.dpI : ∀ {vs : List V} {ws : Prt}, Al (It K H) vs ws → DpAll K H vs (ws.map dI)
  | _, _, .nil => .nil
  | _, _, .cons a b => .cons a.dp (Al.dpI b)
theorem alI_mono {vs : List V} (h : Al (It K H) vs ws) (e : Same H H') : Al (It K H') vs ws := h.imp fun _ _ z => z.mono e
theorem alI_off {vs : List V} (h : Al (It K H) vs ws) (hD : H D = some (.lst acc)) : Al (It K (upd H D o)) vs ws := h.imp fun _ _ z => z.off hD
theorem Pt.mono (h : Pt K H v ws) (e : Same H H') : Pt K H' v ws := by
  obtain ⟨a, vs, rfl, s, i⟩ := h
  exact ⟨a, vs, rfl, Bs.Same.t e s, alI_mono i e⟩
theorem Pt.off (h : Pt K H v ws) (hD : H D = some (.lst acc)) : Pt K (upd H D o) v ws := by
  obtain ⟨a, vs, rfl, s, i⟩ := h
  exact ⟨a, vs, rfl, sqT_off hD s, alI_off i hD⟩
theorem Pt.dp (h : Pt K H v ws) : Dp K H v (dW ws) := by
  obtain ⟨a, vs, rfl, s, i⟩ := h
  exact .tup s i.dpI
theorem Al.dpW : ∀ {vs : List V} {ps : List Prt}, Al (Pt K H) vs ps → DpAll K H vs (ps.map dW)
  | _, _, .nil => .nil
  | _, _, .cons a b => .cons a.dp (Al.dpW b)
theorem alP_mono {vs : List V} {ps : List Prt} (h : Al (Pt K H) vs ps) (e : Same H H') : Al (Pt K H') vs ps := h.imp fun _ _ z => z.mono e
theorem alP_off {vs : List V} {ps : List Prt} (h : Al (Pt K H) vs ps) (hD : H D = some (.lst acc)) : Al (Pt K (upd H D o)) vs ps := h.imp fun _ _ z => z.off hD
end
/-- a slice of a tuple, whichever -/
theorem sl_cut {K : PySem.W.Frag} {H : Hp} {Q : VK} {a : Addr} {xs ys : List V} {lo hi : Option Int} (ha : SqT K H a xs) (e : cutV xs lo hi = ys) (k : ∀ c H', Same H H' → SqT K H' c ys → Q (.ref c) H') : rSlA K (.ref a) lo hi H Q := by
  refine ⟨a, xs, rfl, ha, fun w => ?_, fun _ p hp => k p _ (same_new hp) (by rw [← e]; exact SqT.of upd_same)⟩
  have : cutV xs lo hi = xs := by
    unfold cutV
    rw [w.1, w.2, List.drop_zero, Nat.sub_zero, List.take_length]
  rw [this] at e
  subst e
  exact k a H (fun _ _ z => z) ha
section
variable {J J1 : L2.It} {n n1 : Nat} {G G1 : Hp → Prop} {Y Y1 : Nat → Hp → V → Hp → Prop}
theorem lc2_in (w : Walk J1 n1 G1 Y1) {g1 : TG} {tt1 : TT} {te : TE} {vs1 : List Nat} {σ2 : L2.St} {H4 : Hp} {D : Addr} {Nx : Hp → Prop} (Pv : Nat → Hp → Prop) (h0 : Pv 0 H4) (hG : ∀ i H, i ≤ n1 → Pv i H → G1 H)
    (hs : ∀ i x H H', i < n1 → Pv i H → Y1 i H x H' → g1 x (wipe σ2 vs1) H' fun σ3 H5 => wipe σ3 vs1 = wipe σ2 vs1 ∧ tt1 σ3 H5 fun b H6 =>
      if b = true then te σ3 H6 fun y H7 => ∃ acc, H7 D = some (.lst acc) ∧ acc.length < sizeLine ∧ Pv (i + 1) (upd H7 D (.lst (acc ++ [y]))) else Pv (i + 1) H6) (hd : ∀ H, Pv n1 H → Nx H) :
    ∃ W1 : Nat → Nat → Hp → Prop, (∃ m, W1 0 m H4) ∧ ∀ j k H, W1 j k H →
      (J1.stop j H ∧ Nx H) ∨ (J1.go j H ∧ ∃ Nx1 : Hp → Prop, (∀ H', Nx1 H' → ∃ k', k' < k ∧ W1 (j + 1) k' H') ∧ ∀ x H', J1.yld j H x H' → g1 x (wipe σ2 vs1) H' fun σ3 H5 => wipe σ3 vs1 = wipe σ2 vs1 ∧ tt1 σ3 H5 fun b H6 =>
        if b = true then te σ3 H6 fun y H7 => ∃ acc, H7 D = some (.lst acc) ∧ acc.length < sizeLine ∧ Nx1 (upd H7 D (.lst (acc ++ [y]))) else Nx1 H6) := by
  refine ⟨fun i m H => m = n1 - i ∧ i ≤ n1 ∧ Pv i H, ⟨n1, by simp, Nat.zero_le _, h0⟩, ?_⟩
  rintro i m H ⟨rfl, hi, p⟩
  have q := hG i H hi p
  by_cases hlt : i < n1
  · refine .inr ⟨w.goes i H hlt q, Pv (i + 1), fun H' p' => ⟨n1 - (i + 1), by omega, rfl, hlt, p'⟩, fun x H' y => hs i x H H' hlt p (w.yields i H x H' hlt q y)⟩
  · have e : i = n1 := by omega
    subst e
    exact .inl ⟨w.stops H q, hd H p⟩
theorem lc2_out (w : Walk J n G Y) {B : V → Hp → (Hp → Prop) → Prop} {Qd : Hp → Prop} {H1 : Hp} (Pv : Nat → Hp → Prop) (h0 : Pv 0 H1) (hG : ∀ i H, i ≤ n → Pv i H → G H)
    (hs : ∀ i x H H', i < n → Pv i H → Y i H x H' → B x H' (Pv (i + 1))) (hd : ∀ H, Pv n H → Qd H) :
    ∃ W : Nat → Nat → Hp → Prop, (∃ m, W 0 m H1) ∧ ∀ i m H, W i m H →
      (J.stop i H ∧ Qd H) ∨ (J.go i H ∧ ∃ Nx : Hp → Prop, (∀ H', Nx H' → ∃ m', m' < m ∧ W (i + 1) m' H') ∧ ∀ x H', J.yld i H x H' → B x H' Nx) := by
  refine ⟨fun i m H => m = n - i ∧ i ≤ n ∧ Pv i H, ⟨n, by simp, Nat.zero_le _, h0⟩, ?_⟩
  rintro i m H ⟨rfl, hi, p⟩
  have q := hG i H hi p
  by_cases hlt : i < n
  · exact .inr ⟨w.goes i H hlt q, Pv (i + 1), fun H' p' => ⟨n - (i + 1), by omega, rfl, hlt, p'⟩, fun x H' y => hs i x H H' hlt p (w.yields i H x H' hlt q y)⟩
  · have e : i = n := by omega
    subst e
    exact .inl ⟨w.stops H q, hd H p⟩
end
end Rs


set_option Elab.async false
set_option linter.all false
set_option maxRecDepth 100000
set_option maxHeartbeats 1000000
namespace Rs
open PySem L2 Bs LamX Pg RZ
def kdS : Kd → Str
  | .all => "all"
  | .free => "free"
  | .str => "stretch"
structure KindsG (K : PySem.W.Frag) (mg : Str → Option Value) : Prop where
  ex : ∃ a : Addr, mg "KINDS" = some (.ref a) ∧ ∀ H : Hp, SqT K H a [.str "all", .str "free", .str "stretch"]
abbrev sNeedKind : Stmt := top 30
abbrev sStretch : Stmt := top 33
abbrev sHasKind : Stmt := top 34
def spNeedKind : Sp := fun vs H Q _ => ∃ k : Kd, vs = [.str (kdS k)] ∧ Q (.str (kdS k)) H
def spPB (K : PySem.W.Frag) (B : Prt → Bool) : Sp := fun vs H Q _ => ∃ (v : V) (p : Prt), vs = [v] ∧ Pt K H v p ∧ sizeB p = true ∧ ∀ H', Same H H' → Q (.bl (B p)) H'
def spHasKind (K : PySem.W.Frag) : Sp := fun vs H Q _ => ∃ (k : Kd) (v : V) (p : Prt), vs = [.str (kdS k), v] ∧ Pt K H v p ∧ sizeB p = true ∧ ∀ H', Same H H' → Q (.bl (hasK k p)) H'
theorem size_blk {p : Prt} (h : sizeB p = true) : p.length ≤ 8 ∧ ∀ b ∈ p, b.length ≤ 8 ∧ 0 < b.length := by
  unfold sizeB at h
  rw [Bool.and_eq_true, decide_eq_true_eq, List.all_eq_true] at h
  refine ⟨h.1, fun b hb => ?_⟩
  have := h.2 b hb
  rw [Bool.and_eq_true, decide_eq_true_eq, decide_eq_true_eq] at this
  exact this
section
variable {P : Program} {w : World} {K : PySem.W.Frag} {mg : Str → Option Value} {base : Heap} {f : Addr} {fd : FuncData}
theorem scNeedKind : FnScope ["kind"] ["kind"] (defScope sNeedKind) := ⟨rfl, rfl, rfl, by decide +kernel, rfl, by decide +kernel, by decide +kernel⟩
theorem ok_needKind (F : Fun K "need_kind" "need_kind" sNeedKind f fd) (T : Blt mg) (st : mg "str" = none) (KG : KindsG K mg) : FnOk P w K mg base CX0 1 f fd ["kind"] spNeedKind := by
  refine F.ok scNeedKind (fun vs H Q E h => ?_) (fun cdv A outer s H vs Q E hr h => ?_)
  · obtain ⟨k, rfl, _⟩ := h
    rfl
  · obtain ⟨k, rfl, kk⟩ := h
    obtain ⟨ka, mk, sk⟩ := KG.ex
    refine ⟨_, pss_cons (ps_if (PW.pt (pw_or (pt_not (pt_val (pe_callB call_isi (by rfl) T.isinstance (by decide +kernel) (pa_cons (pv 0) (pa_cons (pe_bltn (v := .ty "str") (by rfl) st (by decide +kernel) rfl) pa_nil)))))
        (pw_or1 (pt_cmpR op_notIn_seq (pv 0) (pe_glob (v := .ref ka) (by rfl) mk rfl) (by rfl))))) (pss_one ps_never) pss_nil)
      (pss_one (ps_ret (pv 0))), ?_⟩
    have hd : Dp K H (.str (kdS k)) (.str (kdS k)) := .str _
    refine ⟨_, rfl, _, _, _, _, _, rfl, .ty _, hd.ty, kitS K _, _, rfl, ?_⟩
    refine iteF ⟨_, rfl, ka, _, rfl, .inr (sk H), rfl, rfl, _, rfl, ?_⟩
    cases k <;> exact ite2 (fun c => absurd c (by decide +kernel)) (fun _ => ⟨_, rfl, kk⟩)
end
end Rs


set_option Elab.async false
set_option linter.all false
set_option maxRecDepth 100000
set_option maxHeartbeats 1000000
namespace Rs
open PySem L2 Bs LamX Pg RZ
abbrev sWithN : Stmt := top 35
abbrev sPartsOf : Stmt := top 36
def rIxTK (K : PySem.W.Frag) := rIxT K
def spWithN (K : PySem.W.Frag) : Sp := fun vs H Q _ => ∃ (v : V) (p : Prt) (n : Int), vs = [v, .int n] ∧ Pt K H v p ∧ p.length ≤ 20 ∧ (∀ b ∈ p, b.length ≤ 20) ∧ ∀ H' L xs, Same H H' → H L = none → H' L = some (.lst xs) → Al (Pt K H') xs (withN p n) → Q (.ref L) H'
abbrev NWn : List Str := ["parting", "number", "found", "k", "block"]
theorem hd_at {b : Blk} (h : 0 < b.length) : b[0]? = some (hdI b) := by
  cases b with
  | nil => cases h
  | cons x b => rfl
theorem lt_at {b : Blk} (h : 0 < b.length) : b[b.length - 1]? = some (ltI b) := by
  unfold ltI
  rw [List.getLastD_eq_getLast?, List.getLast?_eq_getElem?]
  cases e : b[b.length - 1]? with
  | none =>
    rw [List.getElem?_eq_none_iff] at e
    omega
  | some x => rfl
theorem more_len (p : Prt) (n : Int) (k : Nat) (h : k < p.length) : (more p n k).length = p.length := by
  unfold more
  rw [List.length_append, List.length_append, List.length_take, List.length_drop]
  show min k p.length + 1 + (p.length - (k + 1)) = _
  omega
theorem getD_some {p : Prt} {k : Nat} {b : Blk} (h : p[k]? = some b) : p.getD k [] = b := by
  rw [List.getD_eq_getElem?_getD, h]
  rfl
section
variable {P : Program} {w : World} {K : PySem.W.Frag} {mg : Str → Option Value} {base : Heap} {f : Addr} {fd : FuncData}
theorem scStretch : FnScope ["parting", "block"] ["parting"] (defScope sStretch) := ⟨rfl, rfl, rfl, by decide +kernel, rfl, by decide +kernel, by decide +kernel⟩
theorem ok_stretch (F : Fun K "is_stretched" "is_stretched" sStretch f fd) (T : Blt mg) (al : mg "all" = none) : FnOk P w K mg base CX0 1 f fd ["parting"] (spPB K stretched) := by
  refine F.ok scStretch (fun vs H Q E h => ?_) (fun cdv A outer s H vs Q E hr h => ?_)
  · obtain ⟨v, p, rfl, _⟩ := h
    rfl
  · obtain ⟨v, p, rfl, pp, sz, kk⟩ := h
    obtain ⟨a, xs, rfl, sx, all⟩ := id pp
    obtain ⟨l8, bl⟩ := size_blk sz
    have lx := all.len
    refine ⟨_, pss_one (ps_ret (pe_callB (cr_all rfl) (by rfl) al (by decide +kernel) (pa_cons (pe_lc (own := [("block", 1)]) (g := gName 1) (tt := tYes) rfl scStretch.nd (pi_tup (pv 0)) (blkOk_by (N := ["parting", "block"]) (sc := defScope sStretch) (by decide +kernel))
        (fun _ _ _ _ _ => pg_name (i := 1) scStretch.nd rfl (Or.inl rfl)) (fun _ _ _ _ _ => pts_nil)
        (fun _ _ _ _ _ => pe_cmpR (r := rEq) op_eq (pe_op (r := rAdd) op_add (pe_op (r := rSub) op_sub (pe_ix (r := rIxT K) ix_tup (pv 1) (pe_un (r := rU fun i => V.int (-i)) un_neg pe_int) (fun _ _ => rfl)) (pe_ix (r := rIxT K) ix_tup (pv 1) pe_int (fun _ _ => rfl))) pe_int) (pe_callB (id := "len") (r := rLenK K) call_len_seq (by rfl) T.len (by decide +kernel) (pa_cons (pv 1) pa_nil)) (nomark _))) pa_nil))), ?_⟩
    refine ⟨_, rfl, a, rfl, ⟨_, sx⟩, fun D hD => lc_tup (K := K) (a := a) (xs := xs) (fun i H2 => Same H H2 ∧ H2 D = some (.lst (((p.take i).map strB).map V.bl))) ⟨same_new hD, upd_same⟩ (fun i H2 _ z => Bs.Same.t z.1 sx) ?_ ?_⟩
    · rintro i x H2 hx ⟨s2, hD2⟩
      obtain ⟨b, hb, ib⟩ := all.get hx
      have bb := bl b (List.mem_of_getElem? hb)
      obtain ⟨c, rfl, sc⟩ := id ib
      have sc2 := Bs.Same.t s2 sc
      have ne : b.map V.int ≠ [] := fun z => by
        have := congrArg List.length z
        rw [List.length_map] at this
        have h0 : b.length = 0 := this
        omega
      have g0 : (b.map V.int)[0]? = some (V.int (hdI b)) := by rw [List.getElem?_map, hd_at bb.2]; rfl
      have g1 : (b.map V.int)[(b.map V.int).length - 1]? = some (V.int (ltI b)) := by rw [List.length_map, List.getElem?_map, lt_at bb.2]; rfl
      refine ⟨rfl, ?_⟩
      refine iteT (B := Same H H2 ∧ H2 D = some (.lst (((p.take (i + 1)).map strB).map V.bl))) ?_
      refine ⟨_, rfl, _, rfl, c, _, _, _, rfl, rfl, sc2, atI_neg1 ne g1, _, rfl, c, _, _, _, rfl, rfl, sc2, atI_nat (j := 0) g0, _, _, rfl, rfl, _, _, rfl, rfl, _, rfl, c, _, rfl, .inr sc2, rfl, ?_⟩
      refine ⟨_, hD2, small1000 (by rw [List.length_map, List.length_map, List.length_take]; omega), fun c o e => (upd_ne (ne_of_none e hD)).trans (s2 c o e), ?_⟩
      rw [upd_same, take_one hb, List.map_append, List.map_append]
      have e : decide (V.int (ltI b - hdI b + 1) = V.int ((b.map V.int).length : Nat)) = strB b := by
        unfold strB
        rw [List.length_map]
        exact decide_eq_decide.mpr ⟨fun z => V.int.inj z, fun z => by rw [z]⟩
      show some (HO.lst (_ ++ [V.bl (decide (V.int (ltI b - hdI b + 1) = V.int ((b.map V.int).length : Nat)))])) = _
      rw [e]
      rfl
    · rintro H2 ⟨s2, hD2⟩
      rw [lx, List.take_length] at hD2
      refine ⟨D, _, rfl, SqL.of hD2, ?_⟩
      have e : (p.map strB).all id = stretched p := by
        rw [List.all_map]
        rfl
      rw [e]
      exact kk H2 s2
theorem scHasKind : FnScope ["kind", "parting"] ["kind", "parting"] (defScope sHasKind) := ⟨rfl, rfl, rfl, by decide +kernel, rfl, by decide +kernel, by decide +kernel⟩
theorem ok_hasKind (F : Fun K "has_kind" "has_kind" sHasKind f fd) (DC : Cal P w K mg base 2 "does_cross" (spPB K crosses)) (IS : Cal P w K mg base 1 "is_stretched" (spPB K stretched)) : FnOk P w K mg base CX0 3 f fd ["kind", "parting"] (spHasKind K) := by
  refine F.ok scHasKind (fun vs H Q E h => ?_) (fun cdv A outer s H vs Q E hr h => ?_)
  · obtain ⟨k, v, p, rfl, _⟩ := h
    rfl
  · obtain ⟨k, v, p, rfl, pp, sz, kk⟩ := h
    refine ⟨_, pss_cons (ps_if (pt_cmpR op_eq (pv 0) pe_str (nomark _)) (pss_one (ps_ret (pe_not (pe_n DC hr (by decide) (by rfl) (pa_cons (pv 1) pa_nil))))) pss_nil)
      (pss_one (ps_ret (pe_or (pe_cmpR op_eq (pv 0) pe_str (nomark _)) (pe_one (pe_n IS hr (by decide) (by rfl) (pa_cons (pv 1) pa_nil)))))), ?_⟩
    refine ⟨_, rfl, rfl, _, rfl, ?_⟩
    cases k with
    | free =>
      refine ite2 (fun _ => ?_) (fun c => absurd (decide_eq_true rfl) c)
      exact ⟨_, rfl, v, p, rfl, pp, sz, fun H1 s1 => ⟨_, rfl, kk H1 s1⟩⟩
    | all =>
      refine ite2 (fun c => absurd c (by decide +kernel)) (fun _ => ?_)
      refine ⟨_, rfl, rfl, _, rfl, ?_⟩
      refine ite2 (fun _ => ?_) (fun c => absurd (decide_eq_true rfl) c)
      exact kk H (fun _ _ z => z)
    | str =>
      refine ite2 (fun c => absurd c (by decide +kernel)) (fun _ => ?_)
      refine ⟨_, rfl, rfl, _, rfl, ?_⟩
      refine ite2 (fun c => absurd c (by decide +kernel)) (fun _ => ?_)
      exact ⟨_, rfl, v, p, rfl, pp, sz, fun H1 s1 => kk H1 s1⟩
theorem scWithN : FnScope NWn ["parting", "number"] (defScope sWithN) := ⟨rfl, rfl, rfl, by decide +kernel, rfl, by decide +kernel, by decide +kernel⟩
theorem ok_withN (F : Fun K "with_next" "with_next" sWithN f fd) (en : mg "enumerate" = none) : FnOk P w K mg base CX0 1 f fd ["parting", "number"] (spWithN K) := by
  refine F.ok scWithN (fun vs H Q E h => ?_) (fun cdv A outer s H vs Q E hr h => ?_)
  · obtain ⟨v, p, n, rfl, _⟩ := h
    rfl
  · obtain ⟨v, p, n, rfl, ⟨a, xs, rfl, sx, al⟩, l20, bl, kk⟩ := h
    have lx := al.len
    refine ⟨_, C8.pss_cut (ps_set (i := 2) scWithN.nd rfl (Or.inl rfl) (pe_lst (pa_cons (pe_op op_catA (pv 0) (pe_tup (pa_cons (pe_tup (pa_cons (pv 1) pa_nil)) pa_nil))) pa_nil)))
      (pss_cons (ps_for PassesOwn.never rfl (EnT.pi_enumT (by rfl) en (pa_cons (pv 0) pa_nil)) (pg_tup rfl (pgs_cons (pg_name (i := 3) scWithN.nd rfl (.inl rfl)) (pgs_cons (pg_name (i := 4) scWithN.nd rfl (.inl rfl)) pgs_nil)))
        (pss_one (ps_expr (pe_bm PySem.F.plainAttrs_list PySem.F.slot_list_append PySem.F.type_list_append mt_append (pv 2) (pa_cons (pe_op op_catA (pe_op op_catA (pe_slice sl_tupA (pv 0) po_none (po_some (pv 3))) (pe_tup (pa_cons (pe_op op_catA (pv 4) (pe_tup (pa_cons (pv 1) pa_nil))) pa_nil))) (pe_slice sl_tupA (pv 0) (po_some (pe_op op_add (pv 3) pe_int)) po_none)) pa_nil)))))
      (pss_one (ps_ret (pv 2)))), ?_⟩
    refine ⟨fun σ H1 => ∃ (L : Addr) (z : V), Same H H1 ∧ H L = none ∧ H1 L = some (.lst [z]) ∧ Pt K H1 z (p ++ [[n]]) ∧ σ = [some (.ref a), some (.int n), some (.ref L), none, none], ?_, ?_⟩
    · refine ⟨_, rfl, _, rfl, (by show 1 ≤ sizeLine; decide), fun p1 hp1 => ⟨(by show 1 ≤ sizeLine; decide), fun p2 hp2 => ?_⟩⟩
      have s1 := same_new (o := .tup [.int n]) hp1
      have s2 := same_new (o := .tup [.ref p1]) hp2
      have s12 := s1.trans s2
      refine cat_any (Bs.Same.t s12 sx) (SqT.of upd_same) (Nat.le_of_lt (small1000 (by show _ + 1 ≤ 1000; omega))) (fun c H3 s3 sc => ⟨(by show 1 ≤ sizeLine; decide), fun L hL => ?_⟩)
      have s4 := same_new (o := .lst [.ref c]) hL
      have s34 := s3.trans s4
      refine ⟨L, .ref c, (s12.trans s3).trans s4, (s12.trans s3).free hL, upd_same, ⟨c, _, rfl, Bs.Same.t s4 sc, (alI_mono al (s12.trans s34)).snoc ⟨p1, rfl, ?_⟩⟩, rfl⟩
      exact SqT.of (s34 _ _ (s2 _ _ upd_same))
    rintro σ H1 ⟨L, z, s1, nL, gL, pz, rfl⟩
    refine ⟨_, rfl, a, xs, rfl, Bs.Same.t s1 sx, ?_⟩
    refine for_it walk_enumT (fun i σ H2 => Same H H2 ∧ ∃ acc v3 v4, H2 L = some (.lst acc) ∧ Al (Pt K H2) acc ((p ++ [[n]]) :: (List.range i).map (more p n)) ∧ σ = [some (.ref a), some (.int n), some (.ref L), v3, v4])
      ⟨s1, [z], none, none, gL, .cons pz .nil, rfl⟩ (fun i σ H2 _ q => Bs.Same.t q.1 sx) ?_ ?_
    · rintro i x σ H2 H3 hi ⟨s2, acc, v3, v4, gL2, aa, rfl⟩ ⟨T, x', y', rfl, hT, rfl, h1, h2⟩
      cases h1
      have h2' : xs[i]? = some y' := h2
      obtain ⟨b, hb, ib⟩ := al.get h2'
      have bb := bl b (List.mem_of_getElem? hb)
      obtain ⟨c, rfl, sc⟩ := id ib
      have ii : i < p.length := by omega
      have s3 := same_new (o := .tup [.int (i : Nat), .ref c]) hT
      have s23 := s2.trans s3
      have la := aa.len
      rw [List.length_cons, List.length_map, List.length_range] at la
      refine ⟨T, _, rfl, SqT.of upd_same, rfl, _, _, rfl, _, _, rfl, rfl, ?_⟩
      have gL3 := s3 _ _ gL2
      have aa3 := alP_mono aa s3
      generalize upd H2 T (.tup [.int (i : Nat), .ref c]) = H3 at *
      refine ⟨_, rfl, .inl ⟨rfl, _, SqL.of gL3⟩, _, rfl, _, rfl, (i : Int), rfl, ?_⟩
      refine sl_cut (Bs.Same.t s23 sx) (cut_to (by omega)) fun d1 H4 s4 sd1 => ?_
      have s24 := s23.trans s4
      refine ⟨_, rfl, _, rfl, (by show 1 ≤ sizeLine; decide), fun p5 hp5 => ?_⟩
      have s5 := same_new (o := .tup [.int n]) hp5
      have s25 := s24.trans s5
      refine cat_any (Bs.Same.t s25 sc) (SqT.of upd_same) (Nat.le_of_lt (small1000 (by rw [List.length_map]; show _ + 1 ≤ 1000; omega))) (fun d2 H6 s6 sd2 => ⟨(by show 1 ≤ sizeLine; decide), fun p7 hp7 => ?_⟩)
      have s7 := same_new (o := .tup [.ref d2]) hp7
      have s67 := s6.trans s7
      refine cat_any (Bs.Same.t (s5.trans s67) sd1) (SqT.of upd_same) (Nat.le_of_lt (small1000 (by rw [List.length_take]; show _ + 1 ≤ 1000; omega))) (fun d3 H8 s8 sd3 => ?_)
      have s58 := (s5.trans s67).trans s8
      refine ⟨_, rfl, _, rfl, _, _, rfl, rfl, (i : Int) + 1, rfl, ?_⟩
      unfold tNoPart
      refine sl_cut (ys := xs.drop (i + 1)) (Bs.Same.t (s24.trans s58) sx) (by rw [show (i : Int) + 1 = ((i + 1 : Nat) : Int) by omega]; exact cut_from (by omega)) fun d4 H9 s9 sd4 => ?_
      refine cat_any (Bs.Same.t s9 sd3) sd4 (Nat.le_of_lt (small1000 (by rw [List.length_append, List.length_take, List.length_drop]; show _ + 1 + _ ≤ 1000; omega))) (fun d5 H10 s10 sd5 => ?_)
      have s910 := s9.trans s10
      have s310 := (s4.trans s58).trans s910
      have gL10 := s310 _ _ gL3
      refine ⟨L, acc, _, rfl, rfl, gL10, small1000 (by omega), fun b' o e => (upd_ne (ne_of_none e nL)).trans (s310 b' o (s23 b' o e)), acc ++ [.ref d5], _, _, upd_same, ?_, rfl⟩
      have al10 := alI_mono al (s23.trans s310)
      have i2 : It K H10 (.ref d2) (b ++ [n]) := ⟨d2, rfl, Bs.Same.t (s7.trans (s8.trans s910)) (by rw [List.map_append]; exact sd2)⟩
      have pm : Pt K H10 (.ref d5) (more p n i) := ⟨d5, _, rfl, sd5, by
        unfold more
        rw [getD_some hb]
        exact ((al10.take i).app (.cons i2 .nil)).app (al10.drop (i + 1))⟩
      rw [List.range_succ, List.map_append, ← List.cons_append]
      exact (alP_off (alP_mono aa3 s310) gL10).snoc (pm.off gL10)
    · rintro σ H2 ⟨s2, acc, v3, v4, gL2, aa, rfl⟩
      rw [lx] at aa
      exact ⟨_, rfl, kk H2 L acc s2 nL gL2 aa⟩
end
end Rs


set_option Elab.async false
set_option linter.all false
set_option maxRecDepth 100000
set_option maxHeartbeats 1000000
namespace Pg
def ltG {α : Type} [DecidableEq α] (lt : α → α → Bool) : List α → List α → Bool
  | [], [] => false
  | [], _ :: _ => true
  | _ :: _, [] => false
  | x :: xs, y :: ys => if x = y then ltG lt xs ys else lt x y
def ltN (x y : Int) : Bool := decide (x < y)
def ltB (a b : Blk) : Bool := ltG ltN a b
def ltW (p q : Prt) : Bool := ltG ltB p q
def leW (p q : Prt) : Bool := !ltW q p
def sortW (ps : List Prt) : List Prt := ps.mergeSort leW
theorem ltG_anti {α : Type} [DecidableEq α] {lt : α → α → Bool} (h : ∀ x y, lt x y = false → lt y x = false → x = y) : ∀ xs ys : List α, ltG lt xs ys = false → ltG lt ys xs = false → xs = ys
  | [], [], _, _ => rfl
  | [], _ :: _, a, _ => by cases a
  | _ :: _, [], _, a => by cases a
  | x :: xs, y :: ys, a, b => by
    unfold ltG at a b
    by_cases e : x = y
    · subst e
      rw [if_pos rfl] at a b
      rw [ltG_anti h xs ys a b]
    · rw [if_neg e] at a
      rw [if_neg (fun z => e z.symm)] at b
      exact absurd (h x y a b) e
theorem ltN_anti (x y : Int) (a : ltN x y = false) (b : ltN y x = false) : x = y := by
  have a' := of_decide_eq_false a
  have b' := of_decide_eq_false b
  omega
theorem leW_anti (p q : Prt) (a : leW p q = true) (b : leW q p = true) : p = q := by
  unfold leW at a b
  rw [Bool.not_eq_true'] at a b
  exact ltG_anti (ltG_anti ltN_anti) p q b a
/-- what is asked of the sizes on the way -/
def szL (k : Kd) (n : Nat) : Bool := (List.range n).all fun m => decide (((partsOf k m).flatMap fun p => withN p m).length ≤ 1000) && (((partsOf k m).flatMap fun p => withN p m).all sizeB && (decide ((partsOf k m).length ≤ 500) && (partsOf k m).all sizeB))
def szAll (k : Kd) (n : Nat) : Bool := szL k n && ((partsOf k n).all sizeB && (decide ((partsOf k n).length ≤ 1000) && (decide ((partsOf k n).length ≤ 1) || (partsOf k n).all fun p => !p.isEmpty)))
theorem szA_free : ∀ n ∈ [0, 1, 2, 3, 4, 5, 6, 7], szAll .free n = true := by decide +kernel
theorem szA_str : ∀ n ∈ [0, 1, 2, 3, 4, 5, 6, 7], szAll .str n = true := by decide +kernel
theorem szA_all : ∀ n ∈ [0, 1, 2, 3, 4, 5], szAll .all n = true := by decide +kernel
end Pg
namespace Rs
open PySem L2 Bs LamX Pg RZ
theorem eqvI_all : ∀ a b : Blk, PyData.eqvAll (a.map PyData.int) (b.map PyData.int) = decide (a = b)
  | [], [] => by simp [PyData.eqvAll]
  | [], _ :: _ => by simp [PyData.eqvAll]
  | _ :: _, [] => by simp [PyData.eqvAll]
  | x :: a, y :: b => by
    rw [List.map_cons, List.map_cons, PyData.eqvAll, eqvI_all a b]
    by_cases e : x = y
    · simp [PyData.eqv, e]
    · simp [PyData.eqv, e]
theorem eqv_dI (a b : Blk) : PyData.eqv (dI a) (dI b) = decide (a = b) := by
  unfold dI
  rw [PyData.eqv, eqvI_all]
theorem row_I : ∀ a b : Blk, PySem.W.rowLt (a.map PyData.int) (b.map PyData.int) = ltB a b
  | [], [] => by
    have e : PySem.W.rowLt [] [] = false := PyProof.Rows.lex_irrefl _
    exact e
  | [], y :: ys => by
    rw [show ([] : List Int).map PyData.int = [] from rfl]
    have := PySem.W.dataLt_ints [] (y :: ys)
    rw [show ([] : List Int).map PyData.int = [] from rfl] at this
    rw [this]
    simp [ltB, ltG]
  | x :: xs, [] => by
    have := PySem.W.dataLt_ints (x :: xs) []
    rw [this]
    simp [ltB, ltG]
  | x :: xs, y :: ys => by
    have e : PySem.W.rowLt (PyData.int x :: xs.map .int) (PyData.int y :: ys.map .int) = if x = y then PySem.W.rowLt (xs.map .int) (ys.map .int) else decide (x < y) := by
      unfold PySem.W.rowLt
      rw [PySem.W.dataLt_cons (by simp [PySem.W.alike]), PySem.W.dataLt_int]
      simp only [PyData.eqv, beq_iff_eq]
    rw [List.map_cons, List.map_cons, e, row_I xs ys]
    rfl
theorem lt_dI (a b : Blk) : PySem.W.dataLt (dI a) (dI b) = ltB a b := by
  unfold dI
  rw [PySem.W.dataLt_tuple]
  exact row_I a b
theorem alike_dI (a b : Blk) : PySem.W.alike (dI a) (dI b) = true := by
  unfold dI
  rw [PySem.W.alike]
  exact PySem.W.alike_ints a b
theorem row_W : ∀ p q : Prt, PySem.W.rowLt (p.map dI) (q.map dI) = ltW p q
  | [], [] => by
    have e : PySem.W.rowLt [] [] = false := PyProof.Rows.lex_irrefl _
    exact e
  | [], b :: q => by
    unfold PySem.W.rowLt
    rw [List.map_cons, PySem.W.toks_all_cons]
    unfold dI
    simp only [PySem.W.keyToksAll, PySem.W.keyToks, List.map_nil]
    rfl
  | a :: p, [] => by
    unfold PySem.W.rowLt
    rw [List.map_cons, PySem.W.toks_all_cons]
    unfold dI
    simp only [PySem.W.keyToksAll, PySem.W.keyToks, List.map_nil]
    rfl
  | a :: p, b :: q => by
    have e : PySem.W.rowLt (dI a :: p.map dI) (dI b :: q.map dI) = if a = b then PySem.W.rowLt (p.map dI) (q.map dI) else ltB a b := by
      unfold PySem.W.rowLt
      rw [PySem.W.dataLt_cons (alike_dI a b), lt_dI, eqv_dI]
      simp only [decide_eq_true_eq]
    rw [List.map_cons, List.map_cons, e, row_W p q]
    rfl
theorem lt_dW (p q : Prt) : PySem.W.dataLt (dW p) (dW q) = ltW p q := by
  unfold dW
  rw [PySem.W.dataLt_tuple]
  exact row_W p q
theorem alikeAll_dI : ∀ p q : Prt, PySem.W.alikeAll (p.map dI) (q.map dI) = true
  | [], _ => by simp [PySem.W.alikeAll]
  | _ :: _, [] => by simp [PySem.W.alikeAll]
  | a :: p, b :: q => by
    rw [List.map_cons, List.map_cons, PySem.W.alikeAll, alikeAll_dI p q, alike_dI]
    rfl
theorem alike_dW (p q : Prt) : PySem.W.alike (dW p) (dW q) = true := by
  unfold dW
  rw [PySem.W.alike]
  exact alikeAll_dI p q
theorem le_dW : PySem.W.dataLe false dW = leW := by
  funext p q
  show (!PySem.W.dataLt (dW q) (dW p)) = _
  rw [lt_dW]
  rfl
theorem lt_toks (p q : Prt) : ltW p q = PyProof.Rows.lexLt PyProof.Rows.itemOrd (PySem.W.keyToks (dW p)) (PySem.W.keyToks (dW q)) := (lt_dW p q).symm
theorem ltW_trans (p q r : Prt) (a : ltW p q = true) (b : ltW q r = true) : ltW p r = true := by
  rw [lt_toks] at *
  exact PyProof.Rows.lex_trans _ _ _ a b
theorem ltW_irrefl (p : Prt) : ltW p p = false := by
  rw [lt_toks]
  exact PyProof.Rows.lex_irrefl _
theorem ltW_neg (p q r : Prt) (a : ltW p r = true) : ltW p q = true ∨ ltW q r = true := by
  rw [lt_toks] at *
  rw [lt_toks]
  exact PyProof.Rows.lex_negTrans _ _ _ a
theorem leW_total (p q : Prt) : (leW p q || leW q p) = true := by
  unfold leW
  cases h : ltW q p with
  | false => rfl
  | true =>
    cases g : ltW p q with
    | false => rfl
    | true =>
      have := ltW_trans p q p g h
      rw [ltW_irrefl] at this
      cases this
theorem leW_trans (p q r : Prt) (a : leW p q = true) (b : leW q r = true) : leW p r = true := by
  unfold leW at *
  cases h : ltW r p with
  | false => rfl
  | true =>
    rcases ltW_neg r q p h with z | z
    · rw [z] at b; cases b
    · rw [z] at a; cases a
theorem sortW_srt (ps : List Prt) : (sortW ps).Pairwise fun p q => leW p q = true := List.pairwise_mergeSort leW_trans leW_total ps
theorem sortW_perm (ps : List Prt) : (sortW ps).Perm ps := List.mergeSort_perm ps leW
theorem srt_uniq {l m : List Prt} (hl : l.Pairwise fun p q => leW p q = true) (hm : m.Pairwise fun p q => leW p q = true) (h : l.Perm m) : l = m := h.eq_of_pairwise (fun p q _ _ a b => leW_anti p q a b) hl hm
theorem sort_kind {n : Nat} {k : Kd} (hn : n ≤ 5) : sortW (partsOf k n) = (sortW (lawRows n)).filter (lawKind k) := by
  refine srt_uniq (sortW_srt _) ((sortW_srt _).filter _) ?_
  have hm : n ∈ [0, 1, 2, 3, 4, 5] := by simp; omega
  have hk : k ∈ kds := by cases k <;> decide
  have := List.isPerm_iff.mp (all_perm n hm k hk)
  exact ((sortW_perm _).trans this.symm).trans ((sortW_perm _).symm.filter _)
theorem sort_str3 : sortW (partsOf .str 3) = [[[0], [1], [2]], [[0], [1, 2]], [[0, 1], [2]], [[0, 1, 2]]] := by
  refine srt_uniq (sortW_srt _) (by decide +kernel) ((sortW_perm _).trans (List.isPerm_iff.mp (by decide +kernel)))
end Rs


set_option Elab.async false
set_option linter.all false
set_option maxRecDepth 100000
set_option maxHeartbeats 1000000
namespace Rs
open PySem L2 Bs LamX Pg RZ
def rSortedW (K : PySem.W.Frag) : List V → Hp → VK → Prop := fun vs H Q => ∃ (a : Addr) (xs : List V) (ps : List Prt), vs = [V.ref a] ∧ SqL K H a xs ∧ Al (Pt K H) xs ps ∧ (ps.length ≤ 1 ∨ ∀ p ∈ ps, p.isEmpty = false) ∧
  ∀ ys L, Al (Pt K H) ys (sortW ps) → H L = none → Q (.ref L) (upd H L (.lst ys))
theorem depth_all0 : ∀ w : List Int, PyData.depthAll (w.map PyData.int) = 0 := PySem.W.depth_ints
theorem depth_dI (w : List Int) : (dI w).depth = 1 := by
  unfold dI
  simp [PyData.depth, depth_all0]
theorem depth_dWs : ∀ p : Prt, PyData.depthAll (p.map dI) ≤ 1
  | [] => by simp [PyData.depthAll]
  | b :: p => by
    have := depth_dWs p
    have h := depth_dI b
    simp only [List.map_cons, PyData.depthAll]
    omega
theorem depth_dW (p : Prt) : (dW p).depth ≤ 2 := by
  have := depth_dWs p
  unfold dW
  simp only [PyData.depth]
  omega
def RP (K : PySem.W.Frag) (H : Hp) (u : Value) (p : Prt) : Prop := ∃ a, u = Value.ref a ∧ Pt K H (.ref a) p
theorem each_rp {K : PySem.W.Frag} {H : Hp} : ∀ {xs : List V} {us : List Value} {ps : List Prt}, Vals xs us → Al (Pt K H) xs ps → PySem.W.EachIs (RP K H) us ps
  | _, _, _, .nil, .nil => .nil
  | _, _, _, .cons r t, .cons h al => by
    obtain ⟨a, vs, rfl, s, i⟩ := h
    cases r
    exact .cons ⟨a, rfl, a, vs, rfl, s, i⟩ (each_rp t al)
theorem each_back {K : PySem.W.Frag} {H : Hp} : ∀ {us : List Value} {ps : List Prt}, PySem.W.EachIs (RP K H) us ps → Al (Pt K H) (us.map backV) ps ∧ ∀ u ∈ us, ∃ a, u = Value.ref a
  | _, _, .nil => ⟨.nil, fun u hu => absurd hu (by simp)⟩
  | _, _, .cons ⟨a, e, h⟩ t => by
    subst e
    obtain ⟨t1, t2⟩ := each_back t
    refine ⟨.cons h t1, fun u hu => ?_⟩
    rcases List.mem_cons.mp hu with e | hu
    · exact ⟨a, e⟩
    · exact t2 u hu
section
variable {X : Cx}
theorem cr_sortedW (hu : X.A.units + 64 < cLine) : CallR X (.builtin "sorted") (rSortedW X.K) := by
  intro pins s σ H vs us Q I r h
  obtain ⟨a, xs, ps, rfl, hs, al, sz, q⟩ := h
  obtain ⟨its, rv, hl, hz⟩ := I.list hs
  rw [Vals.ref1 r]
  have er := each_rp rv al
  have ln : ps.length ≤ sizeLine := by rw [← al.len]; exact hz
  have fin : ∀ out : List Value, PySem.W.EachIs (RP X.K H) out (sortW ps) → EP X pins σ Q (.ref (s.heap.objs.size + 1)) { s with heap := PyProof.Rows.sortedAll s.heap its out.toArray } := fun out eo => by
    obtain ⟨k1, k2⟩ := each_back eo
    obtain ⟨ep, he'⟩ := PyProof.Rows.sortedAll_at s.heap its out.toArray
    have hlen : (out.map backV).length ≤ sizeLine := by
      rw [k1.len, (sortW_perm ps).length_eq]
      exact ln
    exact ⟨.ref _, upd H (s.heap.objs.size + 1) (.lst (out.map backV)), I.laid (t' := s.toks) (fun _ _ => PyProof.Rows.sortedAll_old) (Nat.le_succ _) ⟨hlen, out, ep, vals_back k2, he'⟩, rfl, q _ _ k1 (I.hok.fresh (Nat.le_succ _))⟩
  rcases sz with sz | sz
  · have lu : its.length ≤ 1 := by rw [er.length]; exact sz
    refine SrtO.sorted_ord (ltv := fun _ _ => false) ⟨fun _ _ _ => rfl, fun _ _ _ _ _ => rfl⟩ hl.isList (by rw [← rv.length]; exact hz) (fun h2 => absurd h2 (by omega)) fun out h1 h2 => ?_
    have eo : out = its := by
      match its, lu with
      | [], _ => exact h2.perm.eq_nil
      | [u], _ => exact List.perm_singleton.mp h2.perm
      | _ :: _ :: _, c => exact absurd c (by simp)
    have es : sortW ps = ps := by
      match ps, sz with
      | [], _ => exact List.mergeSort_nil
      | [p], _ => exact List.mergeSort_singleton _
      | _ :: _ :: _, c => exact absurd c (by simp)
    subst eo
    exact fin out (by rw [es]; exact er)
  · have hr : PySem.W.EachIs (fun v b => ∃ as, PySem.Reads s.heap v (dW b) as) its ps := er.mono fun u p z => by
      obtain ⟨b, e, h⟩ := z
      subst e
      exact Dp.reads I _ _ _ h.dp rfl
    have hk : PySem.W.Sortable (ps.map dW) := .inl fun d hd => by
      obtain ⟨p, hp, rfl⟩ := List.mem_map.mp hd
      have := sz p hp
      cases p with
      | nil => cases this
      | cons b p => exact ⟨_, _, rfl⟩
    refine PySem.W.sorted_data (enc := dW) hl.isList er hr (.of alike_dW) hk ln (fun p _ => ?_) fun out _ eo => ?_
    · have := depth_dW p
      omega
    · rw [le_dW] at eo
      exact fin out eo
end
end Rs


set_option Elab.async false
set_option linter.all false
set_option maxRecDepth 100000
set_option maxHeartbeats 1000000
namespace Rs
open PySem L2 Bs LamX Pg RZ
def spPartsOf (K : PySem.W.Frag) : Sp := fun vs H Q _ => ∃ (k : Kd) (m : Nat), vs = [.str (kdS k), .int (m : Nat)] ∧ szAll k m = true ∧ m ≤ 7 ∧ ∀ H' L ys, Same H H' → SqT K H' L ys → Al (Pt K H') ys (sortW (partsOf k m)) → Q (.ref L) H'
abbrev NPo : List Str := ["kind", "many", "found", "number", "longer", "shorter", "parting"]
theorem szl_at {k : Kd} {n m : Nat} (h : szL k n = true) (hm : m < n) : ((partsOf k m).flatMap fun p => withN p m).length ≤ 1000 ∧ (∀ p ∈ (partsOf k m).flatMap (fun p => withN p m), sizeB p = true) ∧ (partsOf k m).length ≤ 500 ∧ ∀ p ∈ partsOf k m, sizeB p = true := by
  unfold szL at h
  have := List.all_eq_true.mp h m (List.mem_range.mpr hm)
  rw [Bool.and_eq_true, Bool.and_eq_true, Bool.and_eq_true, decide_eq_true_eq, decide_eq_true_eq, List.all_eq_true, List.all_eq_true] at this
  exact ⟨this.1, this.2.1, this.2.2.1, this.2.2.2⟩
theorem sza_at {k : Kd} {n : Nat} (h : szAll k n = true) : szL k n = true ∧ (∀ p ∈ partsOf k n, sizeB p = true) ∧ (partsOf k n).length ≤ 1000 ∧ ((partsOf k n).length ≤ 1 ∨ ∀ p ∈ partsOf k n, p.isEmpty = false) := by
  unfold szAll at h
  rw [Bool.and_eq_true, Bool.and_eq_true, Bool.and_eq_true, decide_eq_true_eq, Bool.or_eq_true, decide_eq_true_eq, List.all_eq_true, List.all_eq_true] at h
  refine ⟨h.1, h.2.1, h.2.2.1, h.2.2.2.imp id fun z p hp => ?_⟩
  have := z p hp
  rw [Bool.not_eq_true'] at this
  exact this
theorem flat_one {α β : Type} {f : α → List β} {l : List α} {i : Nat} {x : α} (h : l[i]? = some x) : (l.take (i + 1)).flatMap f = (l.take i).flatMap f ++ f x := by
  rw [take_one h, List.flatMap_append]
  simp
theorem flat_take_len {α β : Type} {f : α → List β} (l : List α) (j : Nat) : ((l.take j).flatMap f).length ≤ (l.flatMap f).length := by
  conv => rhs; rw [← List.take_append_drop j l, List.flatMap_append, List.length_append]
  omega
section
variable {P : Program} {w : World} {K : PySem.W.Frag} {mg : Str → Option Value} {base : Heap} {f : Addr} {fd : FuncData}
theorem scPartsOf : FnScope NPo ["kind", "many"] (defScope sPartsOf) := ⟨rfl, rfl, rfl, by decide +kernel, rfl, by decide +kernel, by decide +kernel⟩
theorem ok_partsOf (F : Fun K "partings_of" "partings_of" sPartsOf f fd) (T : Blt mg) (so : mg "sorted" = none) (WN : Cal P w K mg base 1 "with_next" (spWithN K)) (HK : Cal P w K mg base 3 "has_kind" (spHasKind K)) : FnOk P w K mg base CX0 4 f fd ["kind", "many"] (spPartsOf K) := by
  refine F.ok scPartsOf (fun vs H Q E h => ?_) (fun cdv A outer s H vs Q E hr h => ?_)
  · obtain ⟨k, m, rfl, _⟩ := h
    rfl
  · obtain ⟨k, m, rfl, sz, m7, kk⟩ := h
    obtain ⟨zl, z1, z2, z3⟩ := sza_at sz
    refine ⟨_, pss_cons (ps_set (i := 2) scPartsOf.nd rfl (Or.inl rfl) (pe_lst (pa_cons (pe_tup pa_nil) pa_nil)))
      (C8.pss_cut (ps_for PassesOwn.never rfl (pi_range1 rfl T.range (pa_cons (pv 1) pa_nil)) (pg_name (i := 3) scPartsOf.nd rfl (Or.inr rfl))
        (C8.pss_cut (ps_setLc2 (i := 4) (own := [("shorter", 5), ("parting", 6)]) (vs1 := [6]) (g := gName 5) (tt := tYes) (g1 := gName 6) (tt1 := tYes) (wi1 := iList K (tCall (spWithN K) [] E0 (tCons (tVar 5) (tCons (tVar 3) tNil)))) (te := tVar 6) (by rfl) scPartsOf.nd rfl rfl (sw_true rfl rfl rfl (by decide +kernel)) (pi_list (pv 2)) (blkOk_by (N := NPo) (sc := defScope sPartsOf) (by decide +kernel)) (by decide)
          (fun _ _ _ _ _ => pg_name (i := 5) scPartsOf.nd rfl (Or.inl rfl)) (fun _ _ _ _ _ => pts_nil)
          (fun _ _ _ _ _ => pi_list (pe_n WN hr (by decide) (by rfl) (pa_cons (pv 5) (pa_cons (pv 3) pa_nil))))
          (fun _ _ _ _ _ => pg_name (i := 6) scPartsOf.nd rfl (Or.inl rfl)) (fun _ _ _ _ _ => pts_nil)
          (fun _ _ _ _ _ => pv 6))
        (pss_one (ps_setLc (i := 2) (own := [("parting", 6)]) (g := gName 6) (by rfl) scPartsOf.nd rfl rfl (sw_true rfl rfl rfl (by decide +kernel)) (pi_list (pv 4)) (blkOk_by (N := NPo) (sc := defScope sPartsOf) (by decide +kernel))
          (fun _ _ _ _ _ => pg_name (i := 6) scPartsOf.nd rfl (Or.inl rfl)) (fun _ _ _ _ _ => pts_one (pt_val (pe_n HK hr (by decide) (by rfl) (pa_cons (pv 0) (pa_cons (pv 6) pa_nil)))))
          (fun _ _ _ _ _ => pv 6)))))
      (pss_one (ps_ret (pe_callTy call_tuple_of (by rfl) T.tuple (by decide +kernel) (pa_cons (pe_callB (cr_sortedW hr.units) (by rfl) so (by decide +kernel) (pa_cons (pv 2) pa_nil)) pa_nil))))), ?_⟩
    refine ⟨(by show 0 ≤ sizeLine; decide), fun p0 hp0 => ⟨(by show 1 ≤ sizeLine; decide), fun L0 hL0 => ?_⟩⟩
    have t1 := same_new (o := .tup []) hp0
    have t2 := same_new (o := .lst [.ref p0]) hL0
    have t12 := t1.trans t2
    have pt0 : Al (Pt K (upd (upd H p0 (.tup [])) L0 (.lst [.ref p0]))) [V.ref p0] (partsOf k 0) := .cons ⟨p0, [], rfl, Bs.Same.t t2 (SqT.of upd_same), .nil⟩ .nil
    have gL0 : upd (upd H p0 (.tup [])) L0 (.lst [V.ref p0]) L0 = some (.lst [V.ref p0]) := upd_same
    generalize upd (upd H p0 (.tup [])) L0 (.lst [V.ref p0]) = H0 at *
    refine ⟨fun σ H1 => ∃ L acc v3 v4, Same H H1 ∧ H1 L = some (.lst acc) ∧ Al (Pt K H1) acc (partsOf k m) ∧ σ = [some (.str (kdS k)), some (.int (m : Nat)), some (.ref L), v3, v4, none, none], ?_, ?_⟩
    · refine ⟨_, rfl, _, rfl, by omega, by omega, for_range (n := ((m : Nat) : Int).toNat) (fun i σ H1 => ∃ L acc v3 v4, Same H H1 ∧ H1 L = some (.lst acc) ∧ Al (Pt K H1) acc (partsOf k i) ∧ σ = [some (.str (kdS k)), some (.int (m : Nat)), some (.ref L), v3, v4, none, none])
        ⟨L0, _, none, none, t12, gL0, pt0, rfl⟩ ?_ ?_⟩
      · rintro i σ H1 hi ⟨L, acc, v3, v4, s1, gL, al, rfl⟩
        have im : i < m := by omega
        obtain ⟨y1, y2, y3, y4⟩ := szl_at zl im
        rw [Int.zero_add]
        refine ⟨fun σ H2 => ∃ L2 bcc, Same H H2 ∧ H2 L2 = some (.lst bcc) ∧ Al (Pt K H2) bcc ((partsOf k i).flatMap fun p => withN p i) ∧ σ = [some (.str (kdS k)), some (.int (m : Nat)), some (.ref L), some (.int (i : Nat)), some (.ref L2), none, none], ?_, ?_⟩
        · refine ⟨_, rfl, L, rfl, ⟨_, SqL.of gL⟩, fun D hD => ?_⟩
          refine lc2_out (walk_list (K := K) (a := L) (xs := acc)) (fun j H2 => Same H1 H2 ∧ ∃ bcc, H2 D = some (.lst bcc) ∧ Al (Pt K H2) bcc (((partsOf k i).take j).flatMap fun p => withN p i)) ⟨same_new hD, [], upd_same, .nil⟩ (fun j H2 _ q => SqL.of (q.1 _ _ gL)) ?_ ?_
          · rintro j x H2' H2 hj ⟨s2, bcc, hD2, ga⟩ ⟨e2, hx⟩
            subst e2
            obtain ⟨p, hp, ip⟩ := al.get hx
            have zp := size_blk (y4 p (List.mem_of_getElem? hp))
            have fl := flat_one (f := fun p => withN p (i : Int)) hp
            have ln := flat_take_len (f := fun p => withN p (i : Int)) (partsOf k i) (j + 1)
            rw [fl, List.length_append] at ln
            refine ⟨rfl, ?_⟩
            refine iteT (B := Same H1 H2 ∧ ∃ bcc, H2 D = some (.lst bcc) ∧ Al (Pt K H2) bcc (((partsOf k i).take (j + 1)).flatMap fun p => withN p i)) ?_
            refine ⟨_, rfl, _, rfl, x, p, (i : Nat), rfl, ip.mono s2, by omega, fun b hb => by have := zp.2 b hb; omega, fun H3 L3 xs3 s3 n3 g3 al3 => ⟨L3, rfl, ⟨_, SqL.of g3⟩, ?_⟩⟩
            have hD3 := s3 _ _ hD2
            have nD : L3 ≠ D := fun e => by
              rw [e, hD2] at n3
              cases n3
            refine lc2_in (walk_list (K := K) (a := L3) (xs := xs3)) (fun l H4 => Same H1 H4 ∧ H4 L3 = some (.lst xs3) ∧ Al (Pt K H4) xs3 (withN p i) ∧ ∃ acc, H4 D = some (.lst acc) ∧ Al (Pt K H4) acc (((partsOf k i).take j).flatMap (fun p => withN p i) ++ (withN p i).take l)) ⟨s2.trans s3, g3, al3, bcc, hD3, by rw [List.take_zero, List.append_nil]; exact alP_mono ga s3⟩ (fun l H4 _ q => SqL.of q.2.1) ?_ ?_
            · rintro l y H4' H4 hl ⟨s4, g4, a4, acc4, hD4, ga4⟩ ⟨e4, hy⟩
              subst e4
              obtain ⟨q, hq, iq⟩ := a4.get hy
              have la := ga4.len
              rw [List.length_append, List.length_take] at la
              refine ⟨rfl, ?_⟩
              refine iteT (B := Same H1 H4 ∧ H4 L3 = some (.lst xs3) ∧ Al (Pt K H4) xs3 (withN p i) ∧ ∃ acc, H4 D = some (.lst acc) ∧ Al (Pt K H4) acc (((partsOf k i).take j).flatMap (fun p => withN p i) ++ (withN p i).take (l + 1))) ?_
              refine ⟨_, rfl, acc4, hD4, small1000 (by omega), fun c o e => (upd_ne (ne_of_none e hD)).trans (s4 c o e), (upd_ne nD).trans g4, alP_off a4 hD4, acc4 ++ [y], upd_same, ?_⟩
              rw [take_one hq, ← List.append_assoc]
              exact (alP_off ga4 hD4).snoc (iq.off hD4)
            · rintro H4 ⟨s4, g4, a4, acc4, hD4, ga4⟩
              rw [al3.len, List.take_length, ← fl] at ga4
              exact ⟨s4, acc4, hD4, ga4⟩
          · rintro H2 ⟨s2, bcc, hD2, ga⟩
            rw [al.len, List.take_length] at ga
            exact ⟨D, bcc, s1.trans s2, hD2, ga, rfl⟩
        rintro σ H2 ⟨L2, bcc, s2, gL2, ga, rfl⟩
        have lb := ga.len
        refine ⟨_, rfl, L2, rfl, ⟨_, SqL.of gL2⟩, fun D hD => ?_⟩
        refine lc_list (K := K) (a := L2) (xs := bcc) (fun j H3 => Same H2 H3 ∧ ∃ cc, H3 D = some (.lst cc) ∧ Al (Pt K H3) cc ((((partsOf k i).flatMap fun p => withN p i).take j).filter (hasK k))) ⟨same_new hD, [], upd_same, .nil⟩ (fun j H3 _ q => SqL.of (q.1 _ _ gL2)) ?_ ?_
        · rintro j x H3 hx ⟨s3, cc, hD3, gc⟩
          obtain ⟨q, hq, iq⟩ := ga.get hx
          have lc := gc.len
          have lf := List.length_filter_le (hasK k) (((partsOf k i).flatMap fun p => withN p i).take j)
          have lt := List.length_take_le' j ((partsOf k i).flatMap fun p => withN p i)
          refine ⟨rfl, ?_⟩
          refine ⟨_, rfl, _, rfl, k, x, q, rfl, iq.mono s3, y2 q (List.mem_of_getElem? hq), fun H4 s4 => ?_⟩
          refine ⟨_, rfl, ?_⟩
          have e := take_one hq
          refine ite2 (fun c => ?_) (fun c => ?_)
          · refine ⟨_, rfl, cc, s4 _ _ hD3, small1000 (by omega), fun c o e => (upd_ne (ne_of_none e hD)).trans (s4 c o (s3 c o e)), cc ++ [x], upd_same, ?_⟩
            rw [e, List.filter_append, List.filter_cons_of_pos c]
            exact (alP_off (alP_mono gc s4) (s4 _ _ hD3)).snoc ((iq.mono (s3.trans s4)).off (s4 _ _ hD3))
          · refine ⟨s3.trans s4, cc, s4 _ _ hD3, ?_⟩
            rw [e, List.filter_append, List.filter_cons_of_neg c]
            show Al _ _ (_ ++ [])
            rw [List.append_nil]
            exact alP_mono gc s4
        · rintro H3 ⟨s3, cc, hD3, gc⟩
          rw [lb, List.take_length] at gc
          exact ⟨D, cc, _, _, s2.trans s3, hD3, gc, rfl⟩
      · rintro σ H1 ⟨L, acc, v3, v4, s1, gL, al, rfl⟩
        exact ⟨L, acc, v3, v4, s1, gL, al, rfl⟩
    rintro σ H1 ⟨L, acc, v3, v4, s1, gL, al, rfl⟩
    refine ⟨_, rfl, L, acc, partsOf k m, rfl, SqL.of gL, al, z3, fun ys p2 ai hp2 => ⟨p2, ys, rfl, .inl ⟨SqL.of upd_same, fun l hl => ?_⟩⟩⟩
    have s2 := same_new (o := .lst ys) hp2
    have s3 := same_new (o := .tup ys) hl
    exact kk _ l ys ((s1.trans s2).trans s3) (SqT.of upd_same) (alP_mono ai (s2.trans s3))
end
end Rs


set_option Elab.async false
set_option linter.all false
set_option maxRecDepth 100000
set_option maxHeartbeats 1000000
namespace Rs
open PySem L2 Bs LamX Pg RZ
def spNeedB0 (K : PySem.W.Frag) : Sp := fun vs H Q _ => ∃ (v : V) (d : PyData) (lo hi : Int), vs = [v, .int lo, .int hi] ∧ Dp K H v d ∧ betwD lo hi d = true ∧ Q v H
section
variable {P : Program} {w : World} {K : PySem.W.Frag} {mg : Str → Option Value} {base : Heap} {f : Addr} {fd : FuncData}
theorem ok_needB0 (F : Fun K "need_between" "need_between" sNeedB f fd) (W : Cal P w K mg base 2 "is_between" (spBetween K)) : FnOk P w K mg base CX0 3 f fd ["thing", "low", "high"] (spNeedB0 K) := by
  refine F.ok sc19 (fun vs H Q E h => ?_) (fun cdv A outer s H vs Q E hr h => ?_)
  · obtain ⟨v, d, lo, hi, rfl, _⟩ := h
    rfl
  · obtain ⟨v, d, lo, hi, rfl, hd, bt, k1⟩ := h
    refine ⟨_, pss_cons (ps_if (pt_not (pt_val (pe_n W hr (by decide) (by rfl) (pa_cons (pv 0) (pa_cons (pv 1) (pa_cons (pv 2) pa_nil)))))) (pss_one ps_never) pss_nil) (pss_one (ps_ret (pv 0))), ?_⟩
    refine ⟨_, rfl, _, rfl, _, rfl, v, d, lo, hi, rfl, hd, _, rfl, ?_⟩
    rw [bt]
    exact iteF ⟨_, rfl, k1⟩
end
end Rs


set_option Elab.async false
set_option linter.all false
set_option maxRecDepth 100000
set_option maxHeartbeats 1000000
namespace Pg
def turnOk (p : Prt) : Bool := decide (total p ≤ 8) && (sizeB p && (List.range (total p + 1)).all fun m => sizeB (turnTo p m))
end Pg
namespace Rs
open PySem L2 Bs LamX Pg RZ
def spTurned (K : PySem.W.Frag) : Sp := fun vs H Q _ => ∃ (v : V) (p : Prt), vs = [v] ∧ Pt K H v p ∧ turnOk p = true ∧ ∀ H' L, Same H H' → Pt K H' (.ref L) (turnP p) → Q (.ref L) H'
theorem turnOk_at {p : Prt} (h : turnOk p = true) : total p ≤ 8 ∧ sizeB p = true ∧ ∀ m, m ≤ total p → sizeB (turnTo p m) = true := by
  unfold turnOk at h
  rw [Bool.and_eq_true, Bool.and_eq_true, decide_eq_true_eq, List.all_eq_true] at h
  exact ⟨h.1, h.2.1, fun m hm => h.2.2 m (List.mem_range.mpr (by omega))⟩
end Rs


set_option Elab.async false
set_option linter.all false
set_option maxRecDepth 100000
set_option maxHeartbeats 1000000
namespace Pg
def gdB (p : Prt) : Bool := validB p && (turnOk p && ((turnP p).all (fun b => decide (b.length ≤ 7)) && decide (p.length ≤ 7)))
theorem all_gd : ∀ n ∈ [0, 1, 2, 3, 4, 5], (lawRows n).all gdB = true := by decide +kernel
theorem gd_at {p : Prt} (h : gdB p = true) : validB p = true ∧ turnOk p = true ∧ (∀ b ∈ turnP p, b.length ≤ 7) ∧ p.length ≤ 7 := by
  unfold gdB at h
  rw [Bool.and_eq_true, Bool.and_eq_true, Bool.and_eq_true, List.all_eq_true, decide_eq_true_eq] at h
  exact ⟨h.1, h.2.1, fun b hb => of_decide_eq_true (h.2.2.1 b hb), h.2.2.2⟩
end Pg
namespace Rs
open PySem L2 Bs LamX Pg RZ
abbrev sSignBy : Stmt := top 39
theorem comb_cat : ∀ m ∈ [1, 2, 3, 4, 5, 6, 7], PySem.W.mcComb (2 * (m : Nat) - 2 : Int) ((m : Nat) - 1 : Int) / (m : Nat) = cat m := by decide +kernel
theorem fac_fact : ∀ m ∈ [0, 1, 2, 3, 4, 5, 6], ((Builtin.Math.factorialNat m : Nat) : Int) = fact m := by decide +kernel
def rComb : List V → Hp → VK → Prop := fun vs H Q => ∃ a b : Int, vs = [.int a, .int b] ∧ 0 ≤ a ∧ 0 ≤ b ∧ a < 100 ∧ b < 100 ∧ Q (.int (PySem.W.mcComb a b)) H
def rFac : List V → Hp → VK → Prop := fun vs H Q => ∃ a : Int, vs = [.int a] ∧ 0 ≤ a ∧ a < 100 ∧ Q (.int ((Builtin.Math.factorialNat a.toNat : Nat) : Int)) H
section
variable {X : Cx}
theorem cr_comb : CallR X (.builtin "math.comb") rComb := by
  intro pins s σ H vs us Q I r h
  obtain ⟨a, b, rfl, h1, h2, h3, h4, q⟩ := h
  obtain ⟨t, u, rfl⟩ := Vals.int2 r
  exact PySem.W.mc_comb h1 h2 (by omega) (by omega) fun _ => ⟨.int _, H, I.tok _, ⟨_, rfl⟩, q⟩
theorem cr_fac : CallR X (.builtin "math.factorial") rFac := by
  intro pins s σ H vs us Q I r h
  obtain ⟨a, rfl, h1, h2, q⟩ := h
  obtain ⟨u, rfl, ru⟩ := vals1 r
  obtain ⟨t, rfl⟩ := ru
  exact PySem.W.mc_factorial h1 (by omega) fun _ => ⟨.int _, H, I.tok _, ⟨_, rfl⟩, q⟩
end
def spSigned : Sp := fun vs H Q _ => ∃ (x : Int) (m : Nat), vs = [.int x, .int (m : Nat)] ∧ Q (.int (sgn x m)) H
def spSignBy (K : PySem.W.Frag) : Sp := fun vs H Q _ => ∃ (k : Kd) (v : V) (p : Prt), vs = [.str (kdS k), v] ∧ Pt K H v p ∧ gdB p = true ∧ ∀ H', Same H H' → Q (.int (signB k p)) H'
abbrev NSb : List Str := ["kind", "parting", "whole", "block", "many"]
end Rs


set_option Elab.async false
set_option linter.all false
set_option maxRecDepth 100000
set_option maxHeartbeats 1000000
namespace Pg
theorem cat_small (m : Nat) : (cat m).natAbs ≤ 132 ∧ ∀ x, (sgn x m).natAbs = x.natAbs := by
  refine ⟨?_, fun x => ?_⟩
  · unfold cat
    split <;> decide
  · unfold sgn
    split
    · rfl
    · exact Int.natAbs_neg x
def foldS (w : Int) (b : Blk) : Int := w * sgn (cat b.length) b.length
theorem fold_small : ∀ (p : Prt) (w : Int), (p.foldl foldS w).natAbs ≤ w.natAbs * 132 ^ p.length
  | [], w => by simp
  | b :: p, w => by
    have h := fold_small p (foldS w b)
    have h2 : (foldS w b).natAbs ≤ w.natAbs * 132 := by
      unfold foldS
      rw [Int.natAbs_mul, (cat_small b.length).2]
      exact Nat.mul_le_mul_left _ (cat_small b.length).1
    rw [List.foldl_cons, List.length_cons, Nat.pow_succ]
    calc _ ≤ (foldS w b).natAbs * 132 ^ p.length := h
      _ ≤ w.natAbs * 132 * 132 ^ p.length := Nat.mul_le_mul_right _ h2
      _ = w.natAbs * (132 ^ p.length * 132) := by rw [Nat.mul_assoc, Nat.mul_comm 132]
end Pg
namespace Rs
open PySem L2 Bs LamX Pg RZ
section
variable {P : Program} {w : World} {K : PySem.W.Frag} {mg : Str → Option Value} {base : Heap} {f : Addr} {fd : FuncData}
theorem scSignBy : FnScope NSb ["kind", "parting"] (defScope sSignBy) := ⟨rfl, rfl, rfl, by decide +kernel, rfl, by decide +kernel, by decide +kernel⟩
theorem ok_signBy (F : Fun K "sign_by" "sign_by" sSignBy f fd) (T : Blt mg) (TU : Cal P w K mg base 2 "turned" (spTurned K)) (SG : Cal P w K mg base 1 "signed" spSigned) : FnOk P w K mg base CX0 3 f fd ["kind", "parting"] (spSignBy K) := by
  refine F.ok scSignBy (fun vs H Q E h => ?_) (fun cdv A outer s H vs Q E hr h => ?_)
  · obtain ⟨k, v, p, rfl, _⟩ := h
    rfl
  · obtain ⟨k, v, p, rfl, pp, gd, kk⟩ := h
    obtain ⟨g1, g2, g3, g4⟩ := gd_at gd
    obtain ⟨t1, t2, t3⟩ := turnOk_at g2
    refine ⟨_, pss_cons (ps_if (pt_cmpR op_eq (pv 0) pe_str (nomark _)) (pss_cons (ps_set (i := 2) scSignBy.nd rfl (Or.inl rfl) pe_int)
        (pss_cons (ps_for PassesOwn.never rfl (pi_tup (pe_n TU hr (by decide) (by rfl) (pa_cons (pv 1) pa_nil))) (pg_name (i := 3) scSignBy.nd rfl (Or.inl rfl))
          (pss_cons (ps_set (i := 4) scSignBy.nd rfl (Or.inl rfl) (pe_callB call_len_seq (by rfl) T.len (by decide +kernel) (pa_cons (pv 3) pa_nil)))
          (pss_one (ps_aug (i := 2) scSignBy.nd rfl (Or.inl rfl) (pe_n SG hr (by decide) (by rfl) (pa_cons (pe_op op_fdiv (pe_callBfun cr_comb (by rfl) T.comb (pa_cons (pe_op op_sub (pe_op op_mul pe_int (pv 4)) pe_int) (pa_cons (pe_op op_sub (pv 4) pe_int) pa_nil))) (pv 4)) (pa_cons (pv 4) pa_nil))) ip_mul))))
        (pss_one (ps_ret (pv 2))))) pss_nil)
      (C8.pss_cut (ps_set (i := 4) scSignBy.nd rfl (Or.inl rfl) (pe_callB call_len_seq (by rfl) T.len (by decide +kernel) (pa_cons (pv 1) pa_nil)))
      (pss_cons (ps_if (pt_cmpR op_eq (pv 4) pe_int (nomark _)) (pss_one (ps_ret pe_int)) pss_nil)
      (pss_one (ps_ret (pe_n SG hr (by decide) (by rfl) (pa_cons (pe_ifExp (pt_cmpR op_eq (pv 0) pe_str (nomark _)) (pe_callBfun cr_fac (by rfl) T.fac (pa_cons (pe_op op_sub (pv 4) pe_int) pa_nil)) pe_int) (pa_cons (pv 4) pa_nil))))))), ?_⟩
    refine ⟨_, rfl, rfl, _, rfl, ?_⟩
    by_cases ek : k = .free
    · subst ek
      refine ite2 (fun _ => ?_) (fun c => absurd (decide_eq_true rfl) c)
      refine ⟨_, rfl, v, p, rfl, pp, g2, fun H1 L s1 pt => ?_⟩
      obtain ⟨L', ys, e, sl, al⟩ := id pt
      cases e
      have ll := al.len
      obtain ⟨z8, zb⟩ := size_blk (t3 (total p) (Nat.le_refl _))
      refine ⟨L, rfl, ⟨_, sl⟩, for_tup (K := K) (a := L) (xs := ys) (fun i σ H2 => Same H1 H2 ∧ ∃ v3 v4, σ = [some (.str (kdS .free)), some v, some (.int (((turnP p).take i).foldl foldS 1)), v3, v4]) ⟨fun _ _ z => z, none, none, rfl⟩ (fun i σ H2 _ q => Bs.Same.t q.1 sl) ?_ ?_⟩
      · rintro i x σ H2 hx ⟨s2, v3, v4, rfl⟩
        obtain ⟨b, hb, c, rfl, sc⟩ := al.get hx
        have mb := List.mem_of_getElem? hb
        have b7 := g3 b mb
        have b1 := (zb b mb).2
        have lb : (b.map V.int).length = b.length := List.length_map ..
        refine ⟨_, rfl, c, _, rfl, .inr (Bs.Same.t s2 sc), ?_⟩
        rw [lb]
        have hi : i < (turnP p).length := (List.getElem?_eq_some_iff.mp hb).1
        have z9 : (turnP p).length ≤ 8 := z8
        have fs := fold_small ((turnP p).take i) 1
        have p8 : 132 ^ ((turnP p).take i).length ≤ 132 ^ 8 := Nat.pow_le_pow_right (by decide) (by rw [List.length_take]; omega)
        have cc := comb_cat b.length (by simp; omega)
        have f1 : foldS (((turnP p).take i).foldl foldS 1) b = ((turnP p).take (i + 1)).foldl foldS 1 := by
          rw [take_one hb, List.foldl_append]
          rfl
        have sm := cat_small b.length
        have sm2 := sm.2 (cat b.length)
        refine ⟨_, rfl, _, rfl, _, _, rfl, rfl, (.inl (by constructor <;> decide)), _, _, rfl, rfl, _, rfl, _, _, rfl, rfl, _, _, rfl, by omega, by omega, by omega, by omega, _, rfl, _, _, rfl, rfl, ⟨by omega, by omega⟩, _, rfl, _, b.length, rfl, _, _, rfl, rfl, ?_, s2, some (.ref c), some (.int (b.length : Nat)), ?_⟩
        · rw [cc]
          refine wide_mul (a := 64) (b := 8) ?_ ?_ (by decide) (by decide) (by decide)
          · rw [show Int.natAbs 1 = 1 from rfl, Nat.one_mul] at fs
            exact Nat.lt_of_le_of_lt (Nat.le_trans fs p8) (by decide)
          · rw [sm2]
            exact Nat.lt_of_le_of_lt sm.1 (by decide)
        · rw [cc]
          show [_, _, some (V.int (foldS _ b)), _, _] = _
          rw [f1]
      · rintro σ H2 ⟨s2, v3, v4, rfl⟩
        rw [ll, List.take_length]
        exact ⟨_, rfl, kk H2 (s1.trans s2)⟩
    · refine ite2 (fun c => absurd c (by cases k <;> first | exact absurd rfl ek | decide +kernel)) (fun _ => ?_)
      obtain ⟨a, xs, rfl, sx, al⟩ := id pp
      have lx := al.len
      refine ⟨fun σ H1 => Same H H1 ∧ σ = [some (.str (kdS k)), some (.ref a), none, none, some (.int (p.length : Nat))], ?_, ?_⟩
      · refine ⟨_, rfl, a, _, rfl, .inr sx, fun _ _ z => z, ?_⟩
        rw [lx]
        rfl
      rintro σ H1 ⟨s1, rfl⟩
      have k1 := kk H1 s1
      refine ⟨_, rfl, rfl, _, rfl, ?_⟩
      refine ite2 (fun c => ?_) (fun c => ?_)
      · have e0 : p.length = 0 := by
          have := of_decide_eq_true c
          have := V.int.inj this
          omega
        have e1 : signB k p = 1 := by
          cases k with
          | free => exact absurd rfl ek
          | all => show (if p.length = 0 then (1 : Int) else _) = 1; rw [if_pos e0]
          | str => show (if p.length = 0 then (1 : Int) else _) = 1; rw [if_pos e0]
        rw [e1] at k1
        exact k1
      · have e0 : p.length ≠ 0 := fun z => c (by rw [z]; rfl)
        refine ⟨_, rfl, rfl, _, rfl, ?_⟩
        cases k with
        | free => exact absurd rfl ek
        | all =>
          refine ite2 (fun _ => ?_) (fun c => absurd (decide_eq_true rfl) c)
          refine ⟨_, rfl, _, _, rfl, rfl, _, rfl, by omega, by omega, _, rfl, _, p.length, rfl, ?_⟩
          have ee : ((p.length : Nat) - 1 : Int).toNat = p.length - 1 := by omega
          have ff := fac_fact (p.length - 1) (by simp; omega)
          have k1 : Q (.int (if p.length = 0 then 1 else sgn (fact (p.length - 1)) p.length)) H1 := k1
          rw [if_neg e0] at k1
          rw [ee, ff]
          exact k1
        | str =>
          refine ite2 (fun c => absurd c (by decide +kernel)) (fun _ => ?_)
          have k1 : Q (.int (if p.length = 0 then 1 else sgn 1 p.length)) H1 := k1
          rw [if_neg e0] at k1
          exact ⟨_, rfl, _, p.length, rfl, k1⟩
end
end Rs


set_option Elab.async false
set_option linter.all false
set_option maxRecDepth 100000
set_option maxHeartbeats 1000000
namespace Pg
def rowsOk (n : Nat) : Bool := (List.range (n + 1)).all fun m => decide ((lawRows m).length ≤ 500) && ((lawRows m).all sizeB && (decide (((lawRows m).flatMap fun p => withN p m).length ≤ 900) && (decide ((lawRows m).length ≤ 1) || (lawRows m).all fun p => !p.isEmpty)))
theorem all_rows : ∀ n ∈ [0, 1, 2, 3, 4, 5], rowsOk n = true := by decide +kernel
theorem rows_at {n m : Nat} (h : rowsOk n = true) (hm : m ≤ n) : (lawRows m).length ≤ 500 ∧ (∀ p ∈ lawRows m, sizeB p = true) ∧ ((lawRows m).flatMap fun p => withN p m).length ≤ 900 ∧ ((lawRows m).length ≤ 1 ∨ ∀ p ∈ lawRows m, p.isEmpty = false) := by
  unfold rowsOk at h
  have h2 := List.all_eq_true.mp h m (List.mem_range.mpr (by omega))
  rw [Bool.and_eq_true, Bool.and_eq_true, Bool.and_eq_true, Bool.or_eq_true, decide_eq_true_eq, decide_eq_true_eq, decide_eq_true_eq, List.all_eq_true, List.all_eq_true] at h2
  refine ⟨h2.1, h2.2.1, h2.2.2.1, h2.2.2.2.imp id fun z p hp => ?_⟩
  have := z p hp
  rw [Bool.not_eq_true'] at this
  exact this
end Pg
namespace Rs
open PySem L2 Bs LamX Pg RZ
def spLParts (K : PySem.W.Frag) : Sp := fun vs H Q _ => ∃ n : Nat, vs = [.int (n : Nat)] ∧ n ≤ 5 ∧ ∀ H' L ys, Same H H' → H L = none → H' L = some (.lst ys) → Al (Pt K H') ys (sortW (lawRows n)) → Q (.ref L) H'
end Rs


set_option Elab.async false
set_option linter.all false
set_option maxRecDepth 100000
set_option maxHeartbeats 1000000
namespace Pg
def homesOk (p : Prt) : Bool := decide (total p ≤ 7) && ((List.range (total p)).all fun n : Nat => !(homes p n).isEmpty)
theorem all_homes : ∀ n ∈ [0, 1, 2, 3, 4, 5], (lawRows n).all homesOk = true := by decide +kernel
end Pg
namespace Rs
open PySem L2 Bs LamX Pg RZ
end Rs


set_option Elab.async false
set_option linter.all false
set_option maxRecDepth 100000
set_option maxHeartbeats 1000000
namespace Rs
open PySem L2 Bs LamX Pg RZ
abbrev sLOfKind : Stmt := top 76
def spLKind (K : PySem.W.Frag) : Sp := fun vs H Q _ => ∃ (k : Kd) (v : V) (p : Prt), vs = [.str (kdS k), v] ∧ Pt K H v p ∧ sizeB p = true ∧ homesOk p = true ∧ ∀ H', Same H H' → Q (.bl (lawKind k p)) H'
def spLOfKind (K : PySem.W.Frag) : Sp := fun vs H Q _ => ∃ (k : Kd) (n : Nat), vs = [.str (kdS k), .int (n : Nat)] ∧ n ≤ 5 ∧ ∀ H' L ys, Same H H' → H' L = some (.lst ys) → Al (Pt K H') ys ((sortW (lawRows n)).filter (lawKind k)) → Q (.ref L) H'
theorem row_ok {n : Nat} (hn : n ≤ 5) {p : Prt} (h : p ∈ lawRows n) : sizeB p = true ∧ homesOk p = true ∧ gdB p = true ∧ oneB p = true := by
  have hm : n ∈ [0, 1, 2, 3, 4, 5] := by simp; omega
  exact ⟨(rows_at (all_rows n hm) (Nat.le_refl n)).2.1 p h, List.all_eq_true.mp (all_homes n hm) p h, List.all_eq_true.mp (all_gd n hm) p h, List.all_eq_true.mp (all_one n hm) p h⟩
section
variable {P : Program} {w : World} {K : PySem.W.Frag} {mg : Str → Option Value} {base : Heap} {f : Addr} {fd : FuncData}
theorem scLOfKind : FnScope ["kind", "many", "parting"] ["kind", "many"] (defScope sLOfKind) := ⟨rfl, rfl, rfl, by decide +kernel, rfl, by decide +kernel, by decide +kernel⟩
theorem ok_lofKind (F : Fun K "_law_of_kind" "_law_of_kind" sLOfKind f fd) (LP : Cal P w K mg base 1 "_law_partings" (spLParts K)) (LK : Cal P w K mg base 3 "_law_is_kind" (spLKind K)) : FnOk P w K mg base CX0 4 f fd ["kind", "many"] (spLOfKind K) := by
  refine F.ok scLOfKind (fun vs H Q E h => ?_) (fun cdv A outer s H vs Q E hr h => ?_)
  · obtain ⟨k, n, rfl, _⟩ := h
    rfl
  · obtain ⟨k, n, rfl, n5, kk⟩ := h
    refine ⟨_, pss_one (ps_ret (pe_lc (own := [("parting", 2)]) (g := gName 2) rfl scLOfKind.nd (pi_list (pe_n LP hr (by decide) (by rfl) (pa_cons (pv 1) pa_nil))) (blkOk_by (N := ["kind", "many", "parting"]) (sc := defScope sLOfKind) (by decide +kernel))
          (fun _ _ _ _ _ => pg_name (i := 2) scLOfKind.nd rfl (Or.inl rfl))
          (fun _ _ _ _ _ => pts_one (pt_val (pe_n LK hr (by decide) (by rfl) (pa_cons (pv 0) (pa_cons (pv 2) pa_nil)))))
          (fun _ _ _ _ _ => pv 2))), ?_⟩
    refine ⟨_, rfl, n, rfl, n5, fun H1 L xs s1 nL gL al => ?_⟩
    have lx := al.len
    rw [(sortW_perm _).length_eq] at lx
    have rw5 := (rows_at (all_rows n (by simp; omega)) (Nat.le_refl n)).1
    refine ⟨L, rfl, ⟨_, SqL.of gL⟩, fun D hD => lc_list (K := K) (a := L) (xs := xs) (fun j H3 => Same H1 H3 ∧ ∃ cc, H3 D = some (.lst cc) ∧ Al (Pt K H3) cc (((sortW (lawRows n)).take j).filter (lawKind k))) ⟨same_new hD, [], upd_same, .nil⟩ (fun j H3 _ q => SqL.of (q.1 _ _ gL)) ?_ ?_⟩
    · rintro j x H3 hx ⟨s3, cc, hD3, gc⟩
      obtain ⟨q, hq, iq⟩ := al.get hx
      have mq : q ∈ lawRows n := (sortW_perm _).mem_iff.mp (List.mem_of_getElem? hq)
      obtain ⟨r1, r2, r3, r4⟩ := row_ok n5 mq
      have lc := gc.len
      have lf := List.length_filter_le (lawKind k) ((sortW (lawRows n)).take j)
      have lt := List.length_take_le' j (sortW (lawRows n))
      rw [(sortW_perm _).length_eq] at lt
      refine ⟨rfl, ?_⟩
      refine ⟨_, rfl, _, rfl, k, x, q, rfl, iq.mono s3, r1, r2, fun H4 s4 => ?_⟩
      refine ⟨_, rfl, ?_⟩
      have e := take_one hq
      refine ite2 (fun c => ?_) (fun c => ?_)
      · refine ⟨_, rfl, cc, s4 _ _ hD3, small1000 (by omega), fun c o e => (upd_ne (ne_of_none e hD)).trans (s4 c o (s3 c o e)), cc ++ [x], upd_same, ?_⟩
        rw [e, List.filter_append, List.filter_cons_of_pos c]
        exact (alP_off (alP_mono gc s4) (s4 _ _ hD3)).snoc ((iq.mono (s3.trans s4)).off (s4 _ _ hD3))
      · refine ⟨s3.trans s4, cc, s4 _ _ hD3, ?_⟩
        rw [e, List.filter_append, List.filter_cons_of_neg c]
        show Al _ _ (_ ++ [])
        rw [List.append_nil]
        exact alP_mono gc s4
    · rintro H3 ⟨s3, cc, hD3, gc⟩
      rw [al.len, List.take_length] at gc
      exact kk H3 D cc (s1.trans s3) hD3 gc
end
end Rs


set_option Elab.async false
set_option linter.all false
set_option maxRecDepth 100000
set_option maxHeartbeats 1000000
namespace Pg
def lturnOk (p : Prt) : Bool := decide (total p ≤ 8) && (sizeB p && (List.range (total p + 1)).all fun m => sizeB (lawTurnTo p m))
theorem all_lturn : ∀ n ∈ [0, 1, 2, 3, 4, 5], (lawRows n).all lturnOk = true := by decide +kernel
end Pg
namespace Rs
open PySem L2 Bs LamX Pg RZ
end Rs


set_option Elab.async false
set_option linter.all false
set_option maxRecDepth 100000
set_option maxHeartbeats 1000000
namespace Rs
open PySem L2 Bs LamX Pg RZ
theorem eqv_dWr (ws : Prt) : PyData.eqv (dW ws) (dW ws) = true := by
  show PyData.eqvAll (ws.map dI) (ws.map dI) = true
  induction ws with
  | nil => rfl
  | cons q qs ih =>
    show (PyData.eqv (dI q) (dI q) && PyData.eqvAll (qs.map dI) (qs.map dI)) = true
    rw [eqv_dI, ih, decide_eq_true rfl]
    rfl
def ftB (k n : Nat) (d : PyData) : Bool := d.showable && (!d.hasDict && (decide (d.depth ≤ k) && (d.leavesShort 500 && decide (d.weight ≤ n))))
theorem ft_ok {k n : Nat} {d : PyData} (h : ftB k n d = true) (hk : k ≤ 60) (hn : n ≤ 33000) : Sh.Ok d := by
  unfold ftB at h
  simp only [Bool.and_eq_true, decide_eq_true_eq, Bool.not_eq_true'] at h
  obtain ⟨h1, h2, h3, h4, h5⟩ := h
  refine ⟨h1, h2, Nat.le_trans h3 hk, ?_⟩
  have := PyData.shown_le 500 (by decide) d h4
  have e : sizeLine = 16777216 := sizeLine_eq
  have : (500 + 2) * d.weight ≤ 502 * 33000 := Nat.mul_le_mul (Nat.le_refl _) (Nat.le_trans h5 hn)
  omega
theorem ft_all {k n : Nat} : ∀ {ds : List PyData}, (∀ d ∈ ds, ftB k n d = true) → PyData.showableAll ds = true ∧ PyData.hasDictAll ds = false ∧ PyData.depthAll ds ≤ k ∧ PyData.leavesShortAll 500 ds = true ∧ PyData.weightAll ds ≤ (n + 1) * ds.length
  | [], _ => ⟨rfl, rfl, Nat.zero_le _, rfl, Nat.zero_le _⟩
  | d :: ds, h => by
    have a := h d List.mem_cons_self
    obtain ⟨b1, b2, b3, b4, b5⟩ := ft_all (ds := ds) fun e he => h e (List.mem_cons_of_mem _ he)
    unfold ftB at a
    simp only [Bool.and_eq_true, decide_eq_true_eq, Bool.not_eq_true'] at a
    obtain ⟨h1, h2, h3, h4, h5⟩ := a
    refine ⟨?_, ?_, ?_, ?_, ?_⟩
    · simp only [PyData.showableAll, h1, b1, Bool.and_self]
    · simp only [PyData.hasDictAll, h2, b2, Bool.or_self]
    · simp only [PyData.depthAll]
      omega
    · simp only [PyData.leavesShortAll, h4, b4, Bool.and_self]
    · simp only [PyData.weightAll, List.length_cons, Nat.mul_succ]
      omega
theorem ft_tup {k n m : Nat} {ds : List PyData} (h : ∀ d ∈ ds, ftB k n d = true) (e : (n + 1) * ds.length ≤ m) : ftB (k + 1) m (.tuple ds) = true := by
  obtain ⟨b1, b2, b3, b4, b5⟩ := ft_all h
  unfold ftB
  simp only [Bool.and_eq_true, decide_eq_true_eq, Bool.not_eq_true']
  refine ⟨b1, b2, ?_, b4, Nat.le_trans b5 e⟩
  simp only [PyData.depth]
  omega
theorem ft_list {k n m : Nat} {ds : List PyData} (h : ∀ d ∈ ds, ftB k n d = true) (e : (n + 1) * ds.length ≤ m) : ftB (k + 1) m (.list ds) = true := by
  obtain ⟨b1, b2, b3, b4, b5⟩ := ft_all h
  unfold ftB
  simp only [Bool.and_eq_true, decide_eq_true_eq, Bool.not_eq_true']
  refine ⟨b1, b2, ?_, b4, Nat.le_trans b5 e⟩
  simp only [PyData.depth]
  omega
def shOne (p : Prt) : Bool := ftB 2 100 (dW p) && (ftB 2 100 (dW (lawTurn p)) && (kds.all (fun k => ftB 0 20 (.int (lawSign k p))) && (sizeB (lawTurn p) && homesOk (lawTurn p))))
theorem all_sh : ∀ n ∈ [0, 1, 2, 3, 4, 5], (lawRows n).all shOne = true := by decide +kernel
end Rs


set_option Elab.async false
set_option linter.all false
set_option maxRecDepth 100000
set_option maxHeartbeats 1000000
namespace Rs
open PySem L2 Bs LamX Pg RZ
theorem sh_at {p : Prt} (h : shOne p = true) : ftB 2 100 (dW p) = true ∧ ftB 2 100 (dW (lawTurn p)) = true ∧ (∀ k, ftB 0 20 (.int (lawSign k p)) = true) ∧ sizeB (lawTurn p) = true ∧ homesOk (lawTurn p) = true := by
  unfold shOne at h
  simp only [Bool.and_eq_true, List.all_eq_true] at h
  exact ⟨h.1, h.2.1, fun k => h.2.2.1 k (by cases k <;> decide), h.2.2.2.1, h.2.2.2.2⟩
def allGood (p : Prt) : Prop := sizeB p = true ∧ homesOk p = true ∧ gdB p = true ∧ oneB p = true ∧ lturnOk p = true ∧ shOne p = true
theorem good_row {n : Nat} (hn : n ≤ 5) {p : Prt} (h : p ∈ lawRows n) : allGood p := by
  have hm : n ∈ [0, 1, 2, 3, 4, 5] := by simp; omega
  obtain ⟨a, b, c, d⟩ := row_ok hn h
  exact ⟨a, b, c, d, List.all_eq_true.mp (all_lturn n hm) p h, List.all_eq_true.mp (all_sh n hm) p h⟩
end Rs


set_option Elab.async false
set_option linter.all false
set_option maxRecDepth 100000
set_option maxHeartbeats 400000
namespace Dd
open PySem L2 Bs
def tD (K : PySem.W.Frag) (d : PyData) : TE := fun _ H Q => ∀ v H', Same H H' → Dp K H' v d → Q v H'
def tDs (K : PySem.W.Frag) (ds : List PyData) : TA := fun _ H Q => ∀ vs H', Same H H' → DpAll K H' vs ds → Q vs H'
mutual
theorem dp_same {K : PySem.W.Frag} {H H' : Hp} (e : Same H H') : ∀ (d : PyData) (v : V), Dp K H v d → Dp K H' v d
  | .none, _, .non => .non
  | .bool _, _, .bl b => .bl b
  | .int _, _, .int i => .int i
  | .str _, _, .str x => .str x
  | .list ds, _, .lst s a => .lst (e.seq s) (dps_same e ds _ a)
  | .tuple ds, _, .tup s a => .tup (Bs.Same.t e s) (dps_same e ds _ a)
theorem dps_same {K : PySem.W.Frag} {H H' : Hp} (e : Same H H') : ∀ (ds : List PyData) (vs : List V), DpAll K H vs ds → DpAll K H' vs ds
  | [], _, .nil => .nil
  | d :: ds, _, .cons a b => .cons (dp_same e d _ a) (dps_same e ds _ b)
end
theorem dps_len {K : PySem.W.Frag} {H : Hp} : ∀ {ds : List PyData} {vs : List V}, DpAll K H vs ds → vs.length = ds.length
  | [], _, .nil => rfl
  | _ :: _, _, .cons _ b => congrArg (· + 1) (dps_len b)
section
variable {X : Cx} {e : Expr} {es : List Expr} {d : PyData} {ds : List PyData} {pos : Pos}
theorem pe_to {t t' : TE} (he : PE X e t) (h : ∀ σ H Q, t' σ H Q → t σ H Q) : PE X e t' := ⟨fun pins s σ H Q I q => he.run pins s σ H Q I (h _ _ _ q)⟩
theorem pa_to {t t' : TA} (he : PA X es t) (h : ∀ σ H Q, t' σ H Q → t σ H Q) : PA X es t' := ⟨fun pos pins s σ H Q I q => he.run pos pins s σ H Q I (h _ _ _ q)⟩
theorem pd_int {i j} : PE X (.Constant (.int i) j pos) (tD X.K (.int i)) := pe_to pe_int fun _ H _ h => h _ H (fun _ _ z => z) (.int i)
theorem pd_neg {i j p} : PE X (.UnaryOp .USub (.Constant (.int i) j pos) p) (tD X.K (.int (-i))) := pe_to (pe_un un_neg pe_int) fun _ H _ h => ⟨i, rfl, h _ H (fun _ _ z => z) (.int (-i))⟩
theorem pd_bl {b j} : PE X (.Constant (.bool b) j pos) (tD X.K (.bool b)) := pe_to pe_bl fun _ H _ h => h _ H (fun _ _ z => z) (.bl b)
theorem pd_non {j} : PE X (.Constant .none j pos) (tD X.K .none) := pe_to pe_non fun _ H _ h => h _ H (fun _ _ z => z) .non
theorem pd_str {x j} : PE X (.Constant (.str x) j pos) (tD X.K (.str x)) := pe_to pe_str fun _ H _ h => h _ H (fun _ _ z => z) (.str x)
theorem pd_nil : PA X [] (tDs X.K []) := pa_to pa_nil fun _ H _ h => h _ H (fun _ _ z => z) .nil
theorem pd_cons (he : PE X e (tD X.K d)) (hr : PA X es (tDs X.K ds)) (hs : starEach (e :: es) X.env = (false, eval e X.env) :: starEach es X.env := by rfl) : PA X (e :: es) (tDs X.K (d :: ds)) :=
  pa_to (pa_cons he hr hs) fun _ _ _ h => fun x _ s1 dx => fun xs H2 s2 dxs => h (x :: xs) H2 (s1.trans s2) (.cons (dp_same s2 d x dx) dxs)
theorem pd_tup {x1} (ha : PA X es (tDs X.K ds)) (hl : ds.length ≤ 1000 := by decide) : PE X (.Tuple es x1 pos) (tD X.K (.tuple ds)) :=
  pe_to (pe_tup ha) fun _ _ _ h => fun xs H1 s1 dxs => ⟨by rw [dps_len dxs]; have e : sizeLine = 16777216 := sizeLine_eq; omega, fun p hp => h (.ref p) _ (s1.trans (same_new hp)) (.tup (SqT.of upd_same) (dps_same (same_new hp) ds xs dxs))⟩
theorem pd_lst (ha : PA X es (tDs X.K ds)) (hl : ds.length ≤ 1000 := by decide) : PE X (.List es pos) (tD X.K (.list ds)) :=
  pe_to (pe_lst ha) fun _ _ _ h => fun xs H1 s1 dxs => ⟨by rw [dps_len dxs]; have e : sizeLine = 16777216 := sizeLine_eq; omega, fun p hp => h (.ref p) _ (s1.trans (same_new hp)) (.lst (SqL.of upd_same) (dps_same (same_new hp) ds xs dxs))⟩
end
mutual
def noL : PyData → Bool
  | .none => true
  | .bool _ => true
  | .int _ => true
  | .str _ => true
  | .tuple ds => noLs ds
  | .list _ => false
  | .dict _ => false
def noLs : List PyData → Bool
  | [] => true
  | d :: ds => noL d && noLs ds
end
theorem sqT_upd {K : PySem.W.Frag} {H : Hp} {a D : Addr} {xs acc : List V} {o : HO} (hD : H D = some (.lst acc)) (s : SqT K H a xs) : SqT K (upd H D o) a xs := by
  rcases s with (s | ⟨o', s⟩) | s
  · exact .inl (.inl ((upd_ne (ne_of s hD (by intro z; cases z))).trans s))
  · exact .inl (.inr ⟨o', (upd_ne (ne_of s hD (by intro z; cases z))).trans s⟩)
  · exact .inr s
mutual
theorem dp_upd {K : PySem.W.Frag} {H : Hp} {L : Addr} {acc : List V} {o : HO} (hL : H L = some (.lst acc)) : ∀ (d : PyData) (v : V), noL d = true → Dp K H v d → Dp K (upd H L o) v d
  | .none, _, _, .non => .non
  | .bool _, _, _, .bl b => .bl b
  | .int _, _, _, .int i => .int i
  | .str _, _, _, .str x => .str x
  | .list ds, _, z, _ => by cases z
  | .tuple ds, _, z, .tup s a => .tup (sqT_upd hL s) (dps_upd hL ds _ (by rw [noL] at z; exact z) a)
theorem dps_upd {K : PySem.W.Frag} {H : Hp} {L : Addr} {acc : List V} {o : HO} (hL : H L = some (.lst acc)) : ∀ (ds : List PyData) (vs : List V), noLs ds = true → DpAll K H vs ds → DpAll K (upd H L o) vs ds
  | [], _, _, .nil => .nil
  | d :: ds, _, z, .cons a b => by
    rw [noLs, Bool.and_eq_true] at z
    exact .cons (dp_upd hL d _ z.1 a) (dps_upd hL ds _ z.2 b)
end
theorem dps_app {K : PySem.W.Frag} {H : Hp} : ∀ {vs us : List V} {ds es : List PyData}, DpAll K H vs ds → DpAll K H us es → DpAll K H (vs ++ us) (ds ++ es)
  | _, _, _, _, .nil, h => h
  | _, _, _, _, .cons a b, h => .cons a (dps_app b h)
mutual
theorem dp_t {K : PySem.W.Frag} {H H' : Hp} (f : ∀ a xs, SqT K H a xs → SqT K H' a xs) : ∀ (d : PyData) (v : V), noL d = true → Dp K H v d → Dp K H' v d
  | .none, _, _, .non => .non
  | .bool _, _, _, .bl b => .bl b
  | .int _, _, _, .int i => .int i
  | .str _, _, _, .str x => .str x
  | .list ds, _, z, _ => by cases z
  | .tuple ds, _, z, .tup s a => .tup (f _ _ s) (dps_t f ds _ (by rw [noL] at z; exact z) a)
theorem dps_t {K : PySem.W.Frag} {H H' : Hp} (f : ∀ a xs, SqT K H a xs → SqT K H' a xs) : ∀ (ds : List PyData) (vs : List V), noLs ds = true → DpAll K H vs ds → DpAll K H' vs ds
  | [], _, _, .nil => .nil
  | d :: ds, _, z, .cons a b => by
    rw [noLs, Bool.and_eq_true] at z
    exact .cons (dp_t f d _ z.1 a) (dps_t f ds _ z.2 b)
end
/-- a list that is being told, new since B -/
def Tl (K : PySem.W.Frag) (B H : Hp) (L : Addr) (ds : List PyData) : Prop := B L = none ∧ Same B H ∧ ∃ xs, H L = some (.lst xs) ∧ DpAll K H xs ds
section
variable {K : PySem.W.Frag} {B H H' : Hp} {L M q : Addr} {ds es : List PyData} {xs zs : List V}
theorem Tl.new (s : Same B H) (hq : H q = none) (d : DpAll K H zs es) : Tl K B (upd H q (.lst zs)) q es := ⟨s.free hq, s.trans (same_new hq), zs, upd_same, dps_same (same_new hq) es zs d⟩
theorem Tl.mono (h : Tl K B H L ds) (s : Same H H') : Tl K B H' L ds := by
  obtain ⟨a, b, xs, g, d⟩ := h
  exact ⟨a, b.trans s, xs, s _ _ g, dps_same s ds xs d⟩
theorem Tl.dp (h : Tl K B H L ds) : Dp K H (.ref L) (.list ds) := by
  obtain ⟨a, b, xs, g, d⟩ := h
  exact .lst (SqL.of g) d
theorem small_line {n : Nat} (h : n ≤ 1000) : n < sizeLine := by
  have e : sizeLine = 16777216 := sizeLine_eq
  omega
theorem Tl.cat {Q : VK} (h : Tl K B H L ds) (g : Tl K B H M es) (hl : ds.length + es.length ≤ 1000) (k : ∀ L2 H2, Same H H2 → Tl K B H2 L2 (ds ++ es) → Q (.ref L2) H2) : rCat (.ref L) (.ref M) H Q := by
  obtain ⟨a, b, xs, gx, d⟩ := h
  obtain ⟨_, _, zs, gz, e⟩ := g
  refine ⟨L, M, xs, zs, rfl, rfl, gx, gz, Nat.le_of_lt (small_line (by rw [dps_len d, dps_len e]; exact hl)), fun q hq => k q _ (same_new hq) (Tl.new b hq (dps_app d e))⟩
theorem Tl.push {v : V} {d : PyData} (h : Tl K B H L ds) (n1 : noLs ds = true) (n2 : noL d = true) (dv : Dp K H v d) (hl : ds.length ≤ 1000) : ∃ xs, H L = some (.lst xs) ∧ xs.length < sizeLine ∧ Tl K B (upd H L (.lst (xs ++ [v]))) L (ds ++ [d]) := by
  obtain ⟨a, b, xs, g, e⟩ := h
  refine ⟨xs, g, small_line (by rw [dps_len e]; exact hl), a, fun c o z => (upd_ne (ne_of_none z a)).trans (b c o z), xs ++ [v], upd_same, dps_app (dps_upd g ds xs n1 e) (.cons (dp_upd g d v n2 dv) .nil)⟩
theorem Tl.get (h : Tl K B H L ds) : ∃ xs, H L = some (.lst xs) ∧ DpAll K H xs ds := h.2.2
end
end Dd


set_option Elab.async false
set_option linter.all false
set_option maxRecDepth 100000
set_option maxHeartbeats 1000000
namespace Rs
open PySem L2 Bs LamX Pg RZ Dd
theorem Pt.kp {K : PySem.W.Frag} {H H' : Hp} {p c l : Addr} {n : Nat} {t : Int} {v : V} {q : Prt} (k : Kp p l H H') (S : Sta H p c l n t) (h : Pt K H v q) : Pt K H' v q := by
  obtain ⟨a, vs, rfl, s, al⟩ := h
  exact ⟨a, vs, rfl, sqT_kp k S s, al.imp fun _ _ ⟨b, e, z⟩ => ⟨b, e, sqT_kp k S z⟩⟩
theorem rows_len : ∀ n ∈ [0, 1, 2, 3, 4, 5], decide ((lawRows n).length ≤ 60) = true ∧ decide (1 ≤ (lawRows n).length) = true := by decide +kernel
theorem sh_rows {k : Kd} {n : Nat} (h : n ≤ 5) : Sh.Ok (.tuple (((sortW (lawRows n)).filter (lawKind k)).map dW)) := by
  have h6 : n ∈ [0, 1, 2, 3, 4, 5] := by simp; omega
  have l := of_decide_eq_true (rows_len n h6).1
  refine ft_ok (ft_tup (k := 2) (n := 100) (m := 6060) (fun d hd => ?_) ?_) (by decide) (by decide)
  · obtain ⟨p, hp, rfl⟩ := List.mem_map.mp hd
    have mp : p ∈ lawRows n := (sortW_perm _).mem_iff.mp (List.mem_filter.mp hp).1
    exact (sh_at (good_row h mp).2.2.2.2.2).1
  · have := List.length_filter_le (lawKind k) (sortW (lawRows n))
    rw [(sortW_perm _).length_eq] at this
    rw [List.length_map]
    omega
end Rs


set_option Elab.async false
set_option linter.all false
set_option maxRecDepth 100000
namespace Cu
open Fq Pg
def pw (m : Nat → Rat) : Nat → Nat → Rat
  | 0, j => if j = 0 then 1 else 0
  | s + 1, j => sm (fun i => pw m s i * m (j - i)) (j + 1)
def chs : Nat → Nat → Int
  | _, 0 => 1
  | 0, _ + 1 => 0
  | n + 1, k + 1 => chs n k + chs n (k + 1)
def bes (k : Kd) (m : Nat → Rat) (n s : Nat) : Rat := match k with
  | .free => pw m s (n - s)
  | .all => (chs (n - 1) (s - 1) : Rat) * m (n - s)
  | .str => m (n - s)
def mf (k : Kd) (m c : Nat → Rat) (n j : Nat) : Rat := sm (fun i => c (i + 1) * bes k m n (i + 1)) j
def pT (c : Nat → Rat) : List Nat → Rat
  | [] => 1
  | l :: t => pT c t * c l
def sumT (c : Nat → Rat) : List (List Nat) → Rat
  | [] => 0
  | t :: ts => sumT c ts + pT c t
def sumS (c : Nat → Rat) : List (Int × List Nat) → Rat
  | [] => 0
  | t :: ts => sumS c ts + (t.1 : Rat) * pT c t.2
def lns (p : Prt) : List Nat := p.map List.length
def Pk (k : Kd) (c : Nat → Rat) (n : Nat) : Rat := sumT c ((partsOf k n).map lns)
def Sk (k : Kd) (m : Nat → Rat) (n : Nat) : Rat := sumS m ((partsOf k n).map fun p => (signB k p, lns p))
set_option maxHeartbeats 4000000
theorem ty_all0 : (partsOf Kd.all 0).map lns = [[]] := by decide +kernel
theorem sg_all0 : ((partsOf Kd.all 0).map fun p => (signB Kd.all p, lns p)) = [(1, [])] := by decide +kernel
theorem P_all0 (c : Nat → Rat) : Pk Kd.all c 0 = 1 := by
  unfold Pk
  rw [ty_all0]
  simp only [sumT, pT]
  grind
theorem S_all0 (m : Nat → Rat) : Sk Kd.all m 0 = 1 := by
  unfold Sk
  rw [sg_all0]
  simp only [sumS, pT]
  grind
theorem ty_all1 : (partsOf Kd.all 1).map lns = [[1]] := by decide +kernel
theorem sg_all1 : ((partsOf Kd.all 1).map fun p => (signB Kd.all p, lns p)) = [(1, [1])] := by decide +kernel
theorem P_all1 (c : Nat → Rat) : Pk Kd.all c 1 = c 1 := by
  unfold Pk
  rw [ty_all1]
  simp only [sumT, pT]
  grind
theorem S_all1 (m : Nat → Rat) : Sk Kd.all m 1 = m 1 := by
  unfold Sk
  rw [sg_all1]
  simp only [sumS, pT]
  grind
theorem ty_all2 : (partsOf Kd.all 2).map lns = [[1, 1], [2]] := by decide +kernel
theorem sg_all2 : ((partsOf Kd.all 2).map fun p => (signB Kd.all p, lns p)) = [(-1, [1, 1]), (1, [2])] := by decide +kernel
theorem P_all2 (c : Nat → Rat) : Pk Kd.all c 2 = c 2 + c 1 * c 1 := by
  unfold Pk
  rw [ty_all2]
  simp only [sumT, pT]
  grind
theorem S_all2 (m : Nat → Rat) : Sk Kd.all m 2 = m 2 + (-1 : Rat) * m 1 * m 1 := by
  unfold Sk
  rw [sg_all2]
  simp only [sumS, pT]
  grind
theorem ty_all3 : (partsOf Kd.all 3).map lns = [[1, 1, 1], [2, 1], [1, 2], [2, 1], [3]] := by decide +kernel
theorem sg_all3 : ((partsOf Kd.all 3).map fun p => (signB Kd.all p, lns p)) = [(2, [1, 1, 1]), (-1, [2, 1]), (-1, [1, 2]), (-1, [2, 1]), (1, [3])] := by decide +kernel
theorem P_all3 (c : Nat → Rat) : Pk Kd.all c 3 = c 3 + (3 : Rat) * c 2 * c 1 + c 1 * c 1 * c 1 := by
  unfold Pk
  rw [ty_all3]
  simp only [sumT, pT]
  grind
theorem S_all3 (m : Nat → Rat) : Sk Kd.all m 3 = m 3 + (-3 : Rat) * m 2 * m 1 + (2 : Rat) * m 1 * m 1 * m 1 := by
  unfold Sk
  rw [sg_all3]
  simp only [sumS, pT]
  grind
theorem ty_all4 : (partsOf Kd.all 4).map lns = [[1, 1, 1, 1], [2, 1, 1], [1, 2, 1], [1, 1, 2], [2, 1, 1], [3, 1], [2, 2], [1, 2, 1], [2, 2], [1, 3], [2, 1, 1], [3, 1], [2, 2], [3, 1], [4]] := by decide +kernel
theorem sg_all4 : ((partsOf Kd.all 4).map fun p => (signB Kd.all p, lns p)) = [(-6, [1, 1, 1, 1]), (2, [2, 1, 1]), (2, [1, 2, 1]), (2, [1, 1, 2]), (2, [2, 1, 1]), (-1, [3, 1]), (-1, [2, 2]), (2, [1, 2, 1]), (-1, [2, 2]), (-1, [1, 3]), (2, [2, 1, 1]), (-1, [3, 1]), (-1, [2, 2]), (-1, [3, 1]), (1, [4])] := by decide +kernel
theorem P_all4 (c : Nat → Rat) : Pk Kd.all c 4 = c 4 + (4 : Rat) * c 3 * c 1 + (3 : Rat) * c 2 * c 2 + (6 : Rat) * c 2 * c 1 * c 1 + c 1 * c 1 * c 1 * c 1 := by
  unfold Pk
  rw [ty_all4]
  simp only [sumT, pT]
  grind
theorem S_all4 (m : Nat → Rat) : Sk Kd.all m 4 = m 4 + (-4 : Rat) * m 3 * m 1 + (-3 : Rat) * m 2 * m 2 + (12 : Rat) * m 2 * m 1 * m 1 + (-6 : Rat) * m 1 * m 1 * m 1 * m 1 := by
  unfold Sk
  rw [sg_all4]
  simp only [sumS, pT]
  grind
theorem ty_all5 : (partsOf Kd.all 5).map lns = [[1, 1, 1, 1, 1], [2, 1, 1, 1], [1, 2, 1, 1], [1, 1, 2, 1], [1, 1, 1, 2], [2, 1, 1, 1], [3, 1, 1], [2, 2, 1], [2, 1, 2], [1, 2, 1, 1], [2, 2, 1], [1, 3, 1], [1, 2, 2], [1, 1, 2, 1], [2, 1, 2], [1, 2, 2], [1, 1, 3], [2, 1, 1, 1], [3, 1, 1], [2, 2, 1], [2, 1, 2], [3, 1, 1], [4, 1], [3, 2], [2, 2, 1], [3, 2], [2, 3], [1, 2, 1, 1], [2, 2, 1], [1, 3, 1], [1, 2, 2], [2, 2, 1], [3, 2], [2, 3], [1, 3, 1], [2, 3], [1, 4], [2, 1, 1, 1], [3, 1, 1], [2, 2, 1], [2, 1, 2], [3, 1, 1], [4, 1], [3, 2], [2, 2, 1], [3, 2], [2, 3], [3, 1, 1], [4, 1], [3, 2], [4, 1], [5]] := by decide +kernel
theorem sg_all5 : ((partsOf Kd.all 5).map fun p => (signB Kd.all p, lns p)) = [(24, [1, 1, 1, 1, 1]), (-6, [2, 1, 1, 1]), (-6, [1, 2, 1, 1]), (-6, [1, 1, 2, 1]), (-6, [1, 1, 1, 2]), (-6, [2, 1, 1, 1]), (2, [3, 1, 1]), (2, [2, 2, 1]), (2, [2, 1, 2]), (-6, [1, 2, 1, 1]), (2, [2, 2, 1]), (2, [1, 3, 1]), (2, [1, 2, 2]), (-6, [1, 1, 2, 1]), (2, [2, 1, 2]), (2, [1, 2, 2]), (2, [1, 1, 3]), (-6, [2, 1, 1, 1]), (2, [3, 1, 1]), (2, [2, 2, 1]), (2, [2, 1, 2]), (2, [3, 1, 1]), (-1, [4, 1]), (-1, [3, 2]), (2, [2, 2, 1]), (-1, [3, 2]), (-1, [2, 3]), (-6, [1, 2, 1, 1]), (2, [2, 2, 1]), (2, [1, 3, 1]), (2, [1, 2, 2]), (2, [2, 2, 1]), (-1, [3, 2]), (-1, [2, 3]), (2, [1, 3, 1]), (-1, [2, 3]), (-1, [1, 4]), (-6, [2, 1, 1, 1]), (2, [3, 1, 1]), (2, [2, 2, 1]), (2, [2, 1, 2]), (2, [3, 1, 1]), (-1, [4, 1]), (-1, [3, 2]), (2, [2, 2, 1]), (-1, [3, 2]), (-1, [2, 3]), (2, [3, 1, 1]), (-1, [4, 1]), (-1, [3, 2]), (-1, [4, 1]), (1, [5])] := by decide +kernel
theorem P_all5 (c : Nat → Rat) : Pk Kd.all c 5 = c 5 + (5 : Rat) * c 4 * c 1 + (10 : Rat) * c 3 * c 2 + (10 : Rat) * c 3 * c 1 * c 1 + (15 : Rat) * c 2 * c 2 * c 1 + (10 : Rat) * c 2 * c 1 * c 1 * c 1 + c 1 * c 1 * c 1 * c 1 * c 1 := by
  unfold Pk
  rw [ty_all5]
  simp only [sumT, pT]
  grind
theorem S_all5 (m : Nat → Rat) : Sk Kd.all m 5 = m 5 + (-5 : Rat) * m 4 * m 1 + (-10 : Rat) * m 3 * m 2 + (20 : Rat) * m 3 * m 1 * m 1 + (30 : Rat) * m 2 * m 2 * m 1 + (-60 : Rat) * m 2 * m 1 * m 1 * m 1 + (24 : Rat) * m 1 * m 1 * m 1 * m 1 * m 1 := by
  unfold Sk
  rw [sg_all5]
  simp only [sumS, pT]
  grind
theorem ty_free0 : (partsOf Kd.free 0).map lns = [[]] := by decide +kernel
theorem sg_free0 : ((partsOf Kd.free 0).map fun p => (signB Kd.free p, lns p)) = [(1, [])] := by decide +kernel
theorem P_free0 (c : Nat → Rat) : Pk Kd.free c 0 = 1 := by
  unfold Pk
  rw [ty_free0]
  simp only [sumT, pT]
  grind
theorem S_free0 (m : Nat → Rat) : Sk Kd.free m 0 = 1 := by
  unfold Sk
  rw [sg_free0]
  simp only [sumS, pT]
  grind
theorem ty_free1 : (partsOf Kd.free 1).map lns = [[1]] := by decide +kernel
theorem sg_free1 : ((partsOf Kd.free 1).map fun p => (signB Kd.free p, lns p)) = [(1, [1])] := by decide +kernel
theorem P_free1 (c : Nat → Rat) : Pk Kd.free c 1 = c 1 := by
  unfold Pk
  rw [ty_free1]
  simp only [sumT, pT]
  grind
theorem S_free1 (m : Nat → Rat) : Sk Kd.free m 1 = m 1 := by
  unfold Sk
  rw [sg_free1]
  simp only [sumS, pT]
  grind
theorem ty_free2 : (partsOf Kd.free 2).map lns = [[1, 1], [2]] := by decide +kernel
theorem sg_free2 : ((partsOf Kd.free 2).map fun p => (signB Kd.free p, lns p)) = [(-1, [1, 1]), (1, [2])] := by decide +kernel
theorem P_free2 (c : Nat → Rat) : Pk Kd.free c 2 = c 2 + c 1 * c 1 := by
  unfold Pk
  rw [ty_free2]
  simp only [sumT, pT]
  grind
theorem S_free2 (m : Nat → Rat) : Sk Kd.free m 2 = m 2 + (-1 : Rat) * m 1 * m 1 := by
  unfold Sk
  rw [sg_free2]
  simp only [sumS, pT]
  grind
theorem ty_free3 : (partsOf Kd.free 3).map lns = [[1, 1, 1], [2, 1], [1, 2], [2, 1], [3]] := by decide +kernel
theorem sg_free3 : ((partsOf Kd.free 3).map fun p => (signB Kd.free p, lns p)) = [(2, [1, 1, 1]), (-1, [2, 1]), (-1, [1, 2]), (-1, [2, 1]), (1, [3])] := by decide +kernel
theorem P_free3 (c : Nat → Rat) : Pk Kd.free c 3 = c 3 + (3 : Rat) * c 2 * c 1 + c 1 * c 1 * c 1 := by
  unfold Pk
  rw [ty_free3]
  simp only [sumT, pT]
  grind
theorem S_free3 (m : Nat → Rat) : Sk Kd.free m 3 = m 3 + (-3 : Rat) * m 2 * m 1 + (2 : Rat) * m 1 * m 1 * m 1 := by
  unfold Sk
  rw [sg_free3]
  simp only [sumS, pT]
  grind
theorem ty_free4 : (partsOf Kd.free 4).map lns = [[1, 1, 1, 1], [2, 1, 1], [1, 2, 1], [1, 1, 2], [2, 1, 1], [3, 1], [1, 2, 1], [2, 2], [1, 3], [2, 1, 1], [3, 1], [2, 2], [3, 1], [4]] := by decide +kernel
theorem sg_free4 : ((partsOf Kd.free 4).map fun p => (signB Kd.free p, lns p)) = [(-5, [1, 1, 1, 1]), (2, [2, 1, 1]), (1, [1, 2, 1]), (2, [1, 1, 2]), (1, [2, 1, 1]), (-1, [3, 1]), (2, [1, 2, 1]), (-1, [2, 2]), (-1, [1, 3]), (2, [2, 1, 1]), (-1, [3, 1]), (-1, [2, 2]), (-1, [3, 1]), (1, [4])] := by decide +kernel
theorem P_free4 (c : Nat → Rat) : Pk Kd.free c 4 = c 4 + (4 : Rat) * c 3 * c 1 + (2 : Rat) * c 2 * c 2 + (6 : Rat) * c 2 * c 1 * c 1 + c 1 * c 1 * c 1 * c 1 := by
  unfold Pk
  rw [ty_free4]
  simp only [sumT, pT]
  grind
theorem S_free4 (m : Nat → Rat) : Sk Kd.free m 4 = m 4 + (-4 : Rat) * m 3 * m 1 + (-2 : Rat) * m 2 * m 2 + (10 : Rat) * m 2 * m 1 * m 1 + (-5 : Rat) * m 1 * m 1 * m 1 * m 1 := by
  unfold Sk
  rw [sg_free4]
  simp only [sumS, pT]
  grind
theorem ty_free5 : (partsOf Kd.free 5).map lns = [[1, 1, 1, 1, 1], [2, 1, 1, 1], [1, 2, 1, 1], [1, 1, 2, 1], [1, 1, 1, 2], [2, 1, 1, 1], [3, 1, 1], [1, 2, 1, 1], [2, 2, 1], [1, 3, 1], [1, 1, 2, 1], [2, 1, 2], [1, 2, 2], [1, 1, 3], [2, 1, 1, 1], [3, 1, 1], [2, 1, 2], [3, 1, 1], [4, 1], [1, 2, 1, 1], [2, 2, 1], [1, 3, 1], [1, 2, 2], [2, 2, 1], [3, 2], [1, 3, 1], [2, 3], [1, 4], [2, 1, 1, 1], [3, 1, 1], [2, 2, 1], [2, 1, 2], [3, 1, 1], [4, 1], [2, 2, 1], [3, 2], [2, 3], [3, 1, 1], [4, 1], [3, 2], [4, 1], [5]] := by decide +kernel
theorem sg_free5 : ((partsOf Kd.free 5).map fun p => (signB Kd.free p, lns p)) = [(14, [1, 1, 1, 1, 1]), (-5, [2, 1, 1, 1]), (-2, [1, 2, 1, 1]), (-2, [1, 1, 2, 1]), (-5, [1, 1, 1, 2]), (-2, [2, 1, 1, 1]), (2, [3, 1, 1]), (-2, [1, 2, 1, 1]), (1, [2, 2, 1]), (1, [1, 3, 1]), (-5, [1, 1, 2, 1]), (2, [2, 1, 2]), (1, [1, 2, 2]), (2, [1, 1, 3]), (-2, [2, 1, 1, 1]), (1, [3, 1, 1]), (1, [2, 1, 2]), (1, [3, 1, 1]), (-1, [4, 1]), (-5, [1, 2, 1, 1]), (2, [2, 2, 1]), (1, [1, 3, 1]), (2, [1, 2, 2]), (1, [2, 2, 1]), (-1, [3, 2]), (2, [1, 3, 1]), (-1, [2, 3]), (-1, [1, 4]), (-5, [2, 1, 1, 1]), (2, [3, 1, 1]), (1, [2, 2, 1]), (2, [2, 1, 2]), (1, [3, 1, 1]), (-1, [4, 1]), (2, [2, 2, 1]), (-1, [3, 2]), (-1, [2, 3]), (2, [3, 1, 1]), (-1, [4, 1]), (-1, [3, 2]), (-1, [4, 1]), (1, [5])] := by decide +kernel
theorem P_free5 (c : Nat → Rat) : Pk Kd.free c 5 = c 5 + (5 : Rat) * c 4 * c 1 + (5 : Rat) * c 3 * c 2 + (10 : Rat) * c 3 * c 1 * c 1 + (10 : Rat) * c 2 * c 2 * c 1 + (10 : Rat) * c 2 * c 1 * c 1 * c 1 + c 1 * c 1 * c 1 * c 1 * c 1 := by
  unfold Pk
  rw [ty_free5]
  simp only [sumT, pT]
  grind
theorem S_free5 (m : Nat → Rat) : Sk Kd.free m 5 = m 5 + (-5 : Rat) * m 4 * m 1 + (-5 : Rat) * m 3 * m 2 + (15 : Rat) * m 3 * m 1 * m 1 + (15 : Rat) * m 2 * m 2 * m 1 + (-35 : Rat) * m 2 * m 1 * m 1 * m 1 + (14 : Rat) * m 1 * m 1 * m 1 * m 1 * m 1 := by
  unfold Sk
  rw [sg_free5]
  simp only [sumS, pT]
  grind
theorem ty_str0 : (partsOf Kd.str 0).map lns = [[]] := by decide +kernel
theorem sg_str0 : ((partsOf Kd.str 0).map fun p => (signB Kd.str p, lns p)) = [(1, [])] := by decide +kernel
theorem P_str0 (c : Nat → Rat) : Pk Kd.str c 0 = 1 := by
  unfold Pk
  rw [ty_str0]
  simp only [sumT, pT]
  grind
theorem S_str0 (m : Nat → Rat) : Sk Kd.str m 0 = 1 := by
  unfold Sk
  rw [sg_str0]
  simp only [sumS, pT]
  grind
theorem ty_str1 : (partsOf Kd.str 1).map lns = [[1]] := by decide +kernel
theorem sg_str1 : ((partsOf Kd.str 1).map fun p => (signB Kd.str p, lns p)) = [(1, [1])] := by decide +kernel
theorem P_str1 (c : Nat → Rat) : Pk Kd.str c 1 = c 1 := by
  unfold Pk
  rw [ty_str1]
  simp only [sumT, pT]
  grind
theorem S_str1 (m : Nat → Rat) : Sk Kd.str m 1 = m 1 := by
  unfold Sk
  rw [sg_str1]
  simp only [sumS, pT]
  grind
theorem ty_str2 : (partsOf Kd.str 2).map lns = [[1, 1], [2]] := by decide +kernel
theorem sg_str2 : ((partsOf Kd.str 2).map fun p => (signB Kd.str p, lns p)) = [(-1, [1, 1]), (1, [2])] := by decide +kernel
theorem P_str2 (c : Nat → Rat) : Pk Kd.str c 2 = c 2 + c 1 * c 1 := by
  unfold Pk
  rw [ty_str2]
  simp only [sumT, pT]
  grind
theorem S_str2 (m : Nat → Rat) : Sk Kd.str m 2 = m 2 + (-1 : Rat) * m 1 * m 1 := by
  unfold Sk
  rw [sg_str2]
  simp only [sumS, pT]
  grind
theorem ty_str3 : (partsOf Kd.str 3).map lns = [[1, 1, 1], [1, 2], [2, 1], [3]] := by decide +kernel
theorem sg_str3 : ((partsOf Kd.str 3).map fun p => (signB Kd.str p, lns p)) = [(1, [1, 1, 1]), (-1, [1, 2]), (-1, [2, 1]), (1, [3])] := by decide +kernel
theorem P_str3 (c : Nat → Rat) : Pk Kd.str c 3 = c 3 + (2 : Rat) * c 2 * c 1 + c 1 * c 1 * c 1 := by
  unfold Pk
  rw [ty_str3]
  simp only [sumT, pT]
  grind
theorem S_str3 (m : Nat → Rat) : Sk Kd.str m 3 = m 3 + (-2 : Rat) * m 2 * m 1 + m 1 * m 1 * m 1 := by
  unfold Sk
  rw [sg_str3]
  simp only [sumS, pT]
  grind
theorem ty_str4 : (partsOf Kd.str 4).map lns = [[1, 1, 1, 1], [1, 1, 2], [1, 2, 1], [1, 3], [2, 1, 1], [2, 2], [3, 1], [4]] := by decide +kernel
theorem sg_str4 : ((partsOf Kd.str 4).map fun p => (signB Kd.str p, lns p)) = [(-1, [1, 1, 1, 1]), (1, [1, 1, 2]), (1, [1, 2, 1]), (-1, [1, 3]), (1, [2, 1, 1]), (-1, [2, 2]), (-1, [3, 1]), (1, [4])] := by decide +kernel
theorem P_str4 (c : Nat → Rat) : Pk Kd.str c 4 = c 4 + (2 : Rat) * c 3 * c 1 + c 2 * c 2 + (3 : Rat) * c 2 * c 1 * c 1 + c 1 * c 1 * c 1 * c 1 := by
  unfold Pk
  rw [ty_str4]
  simp only [sumT, pT]
  grind
theorem S_str4 (m : Nat → Rat) : Sk Kd.str m 4 = m 4 + (-2 : Rat) * m 3 * m 1 + (-1 : Rat) * m 2 * m 2 + (3 : Rat) * m 2 * m 1 * m 1 + (-1 : Rat) * m 1 * m 1 * m 1 * m 1 := by
  unfold Sk
  rw [sg_str4]
  simp only [sumS, pT]
  grind
theorem ty_str5 : (partsOf Kd.str 5).map lns = [[1, 1, 1, 1, 1], [1, 1, 1, 2], [1, 1, 2, 1], [1, 1, 3], [1, 2, 1, 1], [1, 2, 2], [1, 3, 1], [1, 4], [2, 1, 1, 1], [2, 1, 2], [2, 2, 1], [2, 3], [3, 1, 1], [3, 2], [4, 1], [5]] := by decide +kernel
theorem sg_str5 : ((partsOf Kd.str 5).map fun p => (signB Kd.str p, lns p)) = [(1, [1, 1, 1, 1, 1]), (-1, [1, 1, 1, 2]), (-1, [1, 1, 2, 1]), (1, [1, 1, 3]), (-1, [1, 2, 1, 1]), (1, [1, 2, 2]), (1, [1, 3, 1]), (-1, [1, 4]), (-1, [2, 1, 1, 1]), (1, [2, 1, 2]), (1, [2, 2, 1]), (-1, [2, 3]), (1, [3, 1, 1]), (-1, [3, 2]), (-1, [4, 1]), (1, [5])] := by decide +kernel
theorem P_str5 (c : Nat → Rat) : Pk Kd.str c 5 = c 5 + (2 : Rat) * c 4 * c 1 + (2 : Rat) * c 3 * c 2 + (3 : Rat) * c 3 * c 1 * c 1 + (3 : Rat) * c 2 * c 2 * c 1 + (4 : Rat) * c 2 * c 1 * c 1 * c 1 + c 1 * c 1 * c 1 * c 1 * c 1 := by
  unfold Pk
  rw [ty_str5]
  simp only [sumT, pT]
  grind
theorem S_str5 (m : Nat → Rat) : Sk Kd.str m 5 = m 5 + (-2 : Rat) * m 4 * m 1 + (-2 : Rat) * m 3 * m 2 + (3 : Rat) * m 3 * m 1 * m 1 + (3 : Rat) * m 2 * m 2 * m 1 + (-4 : Rat) * m 2 * m 1 * m 1 * m 1 + m 1 * m 1 * m 1 * m 1 * m 1 := by
  unfold Sk
  rw [sg_str5]
  simp only [sumS, pT]
  grind
end Cu


set_option Elab.async false
set_option linter.all false
set_option maxRecDepth 100000
set_option maxHeartbeats 4000000
namespace Cu
open Fq Pg
section
variable (k : Kd) (m c : Nat → Rat)
theorem P_zero : Pk k c 0 = 1 := by cases k <;> first | exact P_all0 c | exact P_free0 c | exact P_str0 c
theorem S_zero : Sk k m 0 = 1 := by cases k <;> first | exact S_all0 m | exact S_free0 m | exact S_str0 m
theorem P_S {n : Nat} (h1 : 1 ≤ n) (h5 : n ≤ 5) : Pk k (Sk k m) n = m n := by
  rcases (by omega : n = 1 ∨ n = 2 ∨ n = 3 ∨ n = 4 ∨ n = 5) with rfl | rfl | rfl | rfl | rfl <;> cases k
  all_goals simp only [P_all1, P_all2, P_all3, P_all4, P_all5, P_free1, P_free2, P_free3, P_free4, P_free5, P_str1, P_str2, P_str3, P_str4, P_str5, S_all1, S_all2, S_all3, S_all4, S_all5, S_free1, S_free2, S_free3, S_free4, S_free5, S_str1, S_str2, S_str3, S_str4, S_str5]
  all_goals grind
theorem S_P {n : Nat} (h1 : 1 ≤ n) (h5 : n ≤ 5) : Sk k (Pk k c) n = c n := by
  rcases (by omega : n = 1 ∨ n = 2 ∨ n = 3 ∨ n = 4 ∨ n = 5) with rfl | rfl | rfl | rfl | rfl <;> cases k
  all_goals simp only [P_all1, P_all2, P_all3, P_all4, P_all5, P_free1, P_free2, P_free3, P_free4, P_free5, P_str1, P_str2, P_str3, P_str4, P_str5, S_all1, S_all2, S_all3, S_all4, S_all5, S_free1, S_free2, S_free3, S_free4, S_free5, S_str1, S_str2, S_str3, S_str4, S_str5]
  all_goals grind
theorem mf_S (h0 : m 0 = 1) {n : Nat} (h1 : 1 ≤ n) (h5 : n ≤ 5) : mf k m (Sk k m) n n = m n := by
  rcases (by omega : n = 1 ∨ n = 2 ∨ n = 3 ∨ n = 4 ∨ n = 5) with rfl | rfl | rfl | rfl | rfl <;> cases k
  all_goals simp only [mf, sm, bes, Nat.reduceAdd, Nat.zero_add]
  all_goals simp only [S_all1, S_all2, S_all3, S_all4, S_all5, S_free1, S_free2, S_free3, S_free4, S_free5, S_str1, S_str2, S_str3, S_str4, S_str5]
  all_goals simp [pw, sm, chs, h0]
  all_goals grind
theorem mf_congr {m m' c c' : Nat → Rat} {n j : Nat} (hm : ∀ i, i < n → m i = m' i) (hc : ∀ i, 1 ≤ i → i ≤ j → c i = c' i) (hj : j ≤ n) : mf k m c n j = mf k m' c' n j := by
  have hp : ∀ s p, p < n → pw m s p = pw m' s p := by
    intro s
    induction s with
    | zero => intro p _; rfl
    | succ s ih =>
      intro p hp
      show sm _ _ = sm _ _
      refine sm_congr fun i hi => ?_
      show pw m s i * m (p - i) = pw m' s i * m' (p - i)
      rw [ih i (by omega), hm (p - i) (by omega)]
  unfold mf
  refine sm_congr fun i hi => ?_
  show c (i + 1) * bes k m n (i + 1) = c' (i + 1) * bes k m' n (i + 1)
  rw [hc (i + 1) (by omega) (by omega)]
  have e : bes k m n (i + 1) = bes k m' n (i + 1) := by
    cases k with
    | free => exact hp _ _ (by omega)
    | all =>
      show (_ : Rat) * m _ = _ * m' _
      rw [hm _ (by omega)]
    | str => exact hm _ (by omega)
  rw [e]
theorem mf_P {n : Nat} (h1 : 1 ≤ n) (h5 : n ≤ 5) : mf k (Pk k c) c n n = Pk k c n := by
  have h := mf_S k (Pk k c) (P_zero k c) h1 h5
  rw [← h]
  exact mf_congr k (fun _ _ => rfl) (fun i a b => (S_P k c a (by omega)).symm) (Nat.le_refl _)
end
end Cu


set_option Elab.async false
set_option linter.all false
set_option maxRecDepth 100000
set_option maxHeartbeats 1000000
namespace Cu
open Fq
/-- the fractions of a row of rationals -/
def rl (f : Nat → Rat) (L : Nat) : List F := (List.range L).map fun i => rf (f i)
theorem rf_eq {q : F} {x : Rat} (o : Ok q) (h : val q = x) : q = rf x := rf_is o h
section
variable {f g : Nat → Rat} {L i n : Nat} {D : Int}
theorem rl_len : (rl f L).length = L := by rw [rl, List.length_map, List.length_range]
theorem rl_get (h : i < L) : (rl f L)[i]? = some (rf (f i)) := by rw [rl, List.getElem?_map, List.getElem?_range h]; rfl
theorem rl_co (h : i < L) : Rs.co (rl f L) i = rf (f i) := Rs.co_get (rl_get h)
theorem rl_succ : rl f (L + 1) = rl f L ++ [rf (f L)] := by rw [rl, List.range_succ, List.map_append]; rfl
theorem rl_take : (rl f L).take n = rl f (min n L) := by rw [rl, ← List.map_take, List.take_range]; rfl
theorem rl_congr (h : ∀ i, i < L → f i = g i) : rl f L = rl g L := by
  unfold rl
  exact List.map_congr_left fun i hi => by rw [h i (List.mem_range.mp hi)]
structure Sz (D : Int) (m : Nat → Rat) : Prop where
  p : 0 < D
  l : D.natAbs ≤ 2 ^ 150
  o : ∀ i, Ov D 170 (m i)
theorem Sz.ca (h : Sz D f) (L : Nat) : Ca D 170 (rl f L) := fun q hq => by
  obtain ⟨i, _, rfl⟩ := List.mem_map.mp hq
  exact rf_cb (h.o i)
theorem Sz.pw (h : Sz D f) (s : Nat) : 0 < D ^ s ∧ (D ^ s).natAbs ≤ 2 ^ (150 * s) := by
  refine ⟨Int.pow_pos h.p, ?_⟩
  rw [Int.natAbs_pow, Nat.pow_mul]
  exact Nat.pow_le_pow_left h.l s
theorem Sz.bd (h : Sz D f) {s n : Nat} (hs : s ≤ 29) (hn : n ≤ 4390) : Rs.Bd (D ^ s) n := by
  obtain ⟨a, b⟩ := h.pw s
  exact Rs.Bd.of a b (by omega) hn
end
end Cu
namespace Rs
open PySem PySem.Spec PyProof.Rows L2 Bs Fq LamX RZ Cu
/-- a list of fractions -/
def PoL (K : PySem.W.Frag) (H : Hp) (v : V) (qs : List F) : Prop := ∃ a xs, v = .ref a ∧ H a = some (.lst xs) ∧ FrAll K H xs qs
theorem PoL.mono {K : PySem.W.Frag} {H H' : Hp} {v : V} {qs : List F} (h : PoL K H v qs) (e : Same H H') : PoL K H' v qs := by
  obtain ⟨a, xs, rfl, g, f⟩ := h
  exact ⟨a, xs, rfl, e _ _ g, f.mono e⟩
def spPTimedL (K : PySem.W.Frag) : Sp := fun vs H Q _ => ∃ (x y : V) (qs rs : List F) (D1 D2 : Int) (n m : Nat), vs = [x, y] ∧ Po K H x qs ∧ PoL K H y rs ∧ Ca D1 n qs ∧ Ca D2 m rs ∧ Bd D1 n ∧ Bd D2 m ∧ Bd (D1 * D2) (n + m + 170) ∧ qs.length ≤ 12 ∧ rs.length ≤ 12 ∧
  ∀ H' p, Same H H' → Po K H' (.ref p) (trim (prodN (qs.length + rs.length) qs rs)) → Q (.ref p) H'
section
variable {P : Program} {w : World} {K : PySem.W.Frag} {mg : Str → Option Value} {base : Heap} {f : Addr} {fd : FuncData}
theorem ok_ptimedL (F : Fun K "poly_timed" "poly_timed" sPTimed f fd) (T : Blt mg) (en : mg "enumerate" = none) (Z : Nou K mg) (Ad : Cal P w K mg base 2 "added" (spOp K add dom2)) (Ti : Cal P w K mg base 2 "timed" (spOp K mul dom2)) (Tr : Cal P w K mg base 1 "trimmed" (spTrim K)) :
    FnOk P w K mg base CX0 3 f fd ["one", "other"] (spPTimedL K) := by
  refine F.ok scPTimed (fun vs H Q E h => ?_) (fun cdv A outer s H vs Q E hr h => ?_)
  · obtain ⟨x, y, qs, rs, _, _, _, _, rfl, _⟩ := h
    rfl
  · obtain ⟨x, y, qs, rs, D1, D2, za, zb, rfl, ⟨a, xs, rfl, sx, fx⟩, ⟨b, ys, rfl, sy, fy⟩, hq, hrs, bd1, bd2, hab, lq, lr, kk⟩ := h
    obtain ⟨z, mz, sz⟩ := Z.ex
    refine ⟨_, pss_cons (ps_set (i := 2) scPTimed.nd rfl (Or.inl rfl) (pe_op op_rep (pe_lst (pa_cons (pe_glob (v := .ref z) (by rfl) mz rfl) pa_nil)) (pe_op op_add (pe_callB call_len_seq (by rfl) T.len (by decide +kernel) (pa_cons (pv 0) pa_nil)) (pe_callB call_len_seq (by rfl) T.len (by decide +kernel) (pa_cons (pv 1) pa_nil)))))
      (pss_cons (ps_for PassesOwn.never rfl (EnT.pi_enumT (by rfl) en (pa_cons (pv 0) pa_nil)) (pg_tup rfl (pgs_cons (pg_name (i := 3) scPTimed.nd rfl (.inl rfl)) (pgs_cons (pg_name (i := 4) scPTimed.nd rfl (.inl rfl)) pgs_nil)))
        (pss_one (ps_for PassesOwn.never rfl (pi_enum (by rfl) en (pa_cons (pv 1) pa_nil)) (pg_tup rfl (pgs_cons (pg_name (i := 5) scPTimed.nd rfl (.inl rfl)) (pgs_cons (pg_name (i := 6) scPTimed.nd rfl (.inl rfl)) pgs_nil)))
          (pss_one (ps_asg (pe_n Ad hr (by decide) (by rfl) (pa_cons (pe_ix ix_list (pv 2) (pe_op op_add (pv 3) (pv 5)) (fun _ _ => rfl)) (pa_cons (pe_n Ti hr (by decide) (by rfl) (pa_cons (pv 4) (pa_cons (pv 6) pa_nil))) pa_nil))) (pg_sub (pv 2) (pe_op op_add (pv 3) (pv 5)) set_list))))))
      (pss_one (ps_ret (pe_n Tr hr (by decide) (by rfl) (pa_cons (pv 2) pa_nil))))), ?_⟩
    have lx := fx.len
    have ly := fy.len
    refine ⟨(by show 1 ≤ sizeLine; decide), fun p0 hp0 => ?_⟩
    have s0 : Same H (upd H p0 (.lst [V.ref z])) := same_new hp0
    refine ⟨_, rfl, a, xs, rfl, Or.inr (Bs.Same.t s0 sx), _, rfl, b, ys, rfl, Or.inl (SqL.of (s0 _ _ sy)), _, _, rfl, rfl, ?_⟩
    have hn : ((([V.ref z] : List V).length) * ((xs.length : Int) + (ys.length : Int)).toNat) ≤ sizeLine := by
      rw [List.length_singleton, Nat.one_mul]
      exact Nat.le_of_lt (small1000 (by omega))
    refine ⟨p0, _, _, rfl, rfl, upd_same, by omega, by omega, hn, fun W hW => ?_⟩
    have eW : (List.replicate ((xs.length : Int) + (ys.length : Int)).toNat [V.ref z]).flatten = List.replicate (qs.length + rs.length) (V.ref z) := by
      rw [List.flatten_replicate_singleton]
      congr 1
      omega
    rw [eW]
    have s1 : Same H (upd (upd H p0 (.lst [V.ref z])) W (.lst (List.replicate (qs.length + rs.length) (V.ref z)))) := s0.trans (same_new hW)
    have wn : H W = none := s0.free hW
    generalize eH : upd (upd H p0 (.lst [V.ref z])) W (.lst (List.replicate (qs.length + rs.length) (V.ref z))) = H1 at s1
    have hW1 : H1 W = some (.lst (List.replicate (qs.length + rs.length) (V.ref z))) := by rw [← eH]; exact upd_same
    clear hn hW eW eH
    -- what holds of the list
    let St : List Fq.F → Hp → Prop := fun ws H2 => Same H H2 ∧ ∃ vs, H2 W = some (.lst vs) ∧ FrAll K H2 vs ws
    refine ⟨_, rfl, a, xs, rfl, Bs.Same.t s1 sx, ?_⟩
    refine for_it walk_enumT (fun i σ H2 => St (stepI (List.replicate (qs.length + rs.length) (0, 1)) qs rs i) H2 ∧ ∃ v3 v4 v5 v6, σ = [some (V.ref a), some (V.ref b), some (V.ref W), v3, v4, v5, v6])
      ⟨⟨s1, _, hW1, FrAll.rep ⟨z, rfl, sz _⟩ _⟩, none, none, none, none, rfl⟩ (fun i σ H2 _ p => Bs.Same.t p.1.1 sx) ?_ ?_
    · rintro i x σ H2 H3 hi ⟨⟨s2, vs, hv, fv⟩, v3, v4, v5, v6, rfl⟩ ⟨T, x', y', rfl, hT, rfl, h1, h2⟩
      cases h1
      have s3 := same_new (o := .tup [.int (i : Nat), y']) hT
      obtain ⟨y'', q, g1, g2, g3⟩ := fx.get (i := i) (by omega)
      have h2' : xs[i]? = some y' := h2
      rw [g1] at h2'
      cases h2'
      have eq_ : co qs i = q := co_get g2
      refine ⟨T, _, rfl, SqT.of upd_same, rfl, _, _, rfl, _, _, rfl, rfl, ?_⟩
      refine ⟨_, rfl, b, ys, rfl, SqL.of ((s2.trans s3) _ _ sy), ?_⟩
      refine for_it walk_enum (fun j σ H2 => St (stepJ (stepI (List.replicate (qs.length + rs.length) (0, 1)) qs rs i) i (co qs i) rs j) H2 ∧ ∃ v5 v6, σ = [some (V.ref a), some (V.ref b), some (V.ref W), some (V.int i), some y', v5, v6])
        ⟨⟨s2.trans s3, vs, s3 _ _ hv, fv.mono s3⟩, v5, v6, rfl⟩ (fun i σ H2 _ p => SqL.of (p.1.1 _ _ sy)) ?_ ?_
      · rintro j x σ H4 H5 hj ⟨⟨s4, us, hu, fu⟩, v5, v6, rfl⟩ ⟨T2, x2, y2, rfl, hT2, rfl, h3, h4⟩
        cases h3
        have s5 := same_new (o := .tup [.int (j : Nat), y2]) hT2
        obtain ⟨y3, r, g4, g5, g6⟩ := fy.get (i := j) (by omega)
        have h4' : ys[j]? = some y2 := h4
        rw [g4] at h4'
        cases h4'
        have er_ : co rs j = r := co_get g5
        refine ⟨T2, _, rfl, SqT.of upd_same, rfl, _, _, rfl, _, _, rfl, rfl, ?_⟩
        have lw : (stepJ (stepI (List.replicate (qs.length + rs.length) (0, 1)) qs rs i) i (co qs i) rs j).length = qs.length + rs.length := by
          rw [stepJ_len, stepI_len, List.length_replicate]
        have zr : Ca (D1 * D2) (za + zb) (List.replicate (qs.length + rs.length) ((0, 1) : Fq.F)) := fun q hq => by
          rw [(List.mem_replicate.mp hq).2]
          exact Cb.zero
        have pb := (stepJ_wtC (i := i) (stepI_wtC zr hq hrs (Nat.le_refl _) (fun _ => 0) i (by rw [List.length_replicate]; omega)).1 (hq.co i) hrs (by omega) (fun _ => 0) j (by rw [stepI_len, List.length_replicate]; omega)).1
        have hk : za + zb + i * rs.length + j ≤ za + zb + 170 := by
          have : i * rs.length ≤ 11 * 12 := Nat.mul_le_mul (by omega) lr
          omega
        have ss := s4.trans s5
        have eij : (i : Int) + (j : Int) = ((i + j : Nat) : Int) := by omega
        obtain ⟨u, p, k1, k2, k3⟩ := fu.get (i := i + j) (by rw [lw]; omega)
        have eu := co_get k2
        have pm : Cb (D1 * D2) (za + zb + i * rs.length + j) p := pb p (List.mem_of_getElem? k2)
        have hus : us.length = qs.length + rs.length := by rw [fu.len, lw]
        have ha : atI us ((i : Int) + (j : Int)) = some u := by
          rw [eij]
          exact atI_nat k1
        have hix : ixN us.length ((i : Int) + (j : Int)) = some (i + j) := by
          rw [eij]
          unfold ixN
          rw [if_pos (by omega), if_pos (by omega), Int.toNat_natCast]
        have sq : Cb D1 za q := by rw [← eq_]; exact hq.co i
        have sr : Cb D2 zb r := by rw [← er_]; exact hrs.co j
        refine ⟨_, rfl, _, rfl, _, rfl, _, _, rfl, rfl, W, us, _, u, rfl, rfl, SqL.of (s5 _ _ hu), ha, _, rfl, _, rfl, y', y2, q, r, rfl, g3.mono ss, g6.mono ss, ⟨cb_dm sq bd1, cb_dm sr bd2⟩, fun c1 hc1 => ?_⟩
        have s6 := same_new (o := fr (mul q r)) hc1
        refine ⟨u, .ref c1, p, mul q r, rfl, (k3.mono s5).mono s6, Fr.of upd_same, ⟨cb_dm (pm.mono hk) hab, cb_dm (sq.mul sr) (hab.mono (by omega))⟩, fun c2 hc2 => ?_⟩
        have s7 := same_new (o := fr (add p (mul q r))) hc2
        have hu7 := s7 _ _ (s6 _ _ (s5 _ _ hu))
        refine ⟨_, rfl, _, rfl, _, rfl, _, _, rfl, rfl, W, us, _, i + j, rfl, rfl, hu7, hix, ?_⟩
        refine ⟨⟨fun c o e => (upd_ne (ne_of_none e wn)).trans (s7 c o (s6 c o (s5 c o (s4 c o e)))), _, upd_same, ?_⟩, _, _, rfl⟩
        show FrAll K _ _ (List.set _ _ _)
        rw [eu, er_, eq_]
        rw [eq_] at fu
        exact FrAll.set _ (FrAll.off hu7 (((fu.mono s5).mono s6).mono s7)) ((Fr.of upd_same).off hu7)
      · rintro σ H4 ⟨w4, v5, v6, rfl⟩
        rw [ly] at w4
        exact ⟨w4, _, _, _, _, rfl⟩
    · rintro σ H2 ⟨⟨s2, vs, hv, fv⟩, v3, v4, v5, v6, rfl⟩
      have l : vs.length ≤ 1000 := by
        rw [fv.len, stepI_len, List.length_replicate]
        omega
      refine ⟨_, rfl, W, vs, _, rfl, Or.inl (SqL.of hv), fv, l, fun H' p zs s3 st ft => kk H' p (s2.trans s3) ⟨p, zs, rfl, st, ?_⟩⟩
      rw [lx] at ft
      exact ft
end
end Rs


set_option Elab.async false
set_option linter.all false
set_option maxRecDepth 100000
set_option maxHeartbeats 1000000
namespace Cu
open Fq
theorem sm_one (g : Nat → Rat) (k : Nat) : ∀ n, sm (fun l => g l * (if l = k then 1 else 0)) n = if k < n then g k else 0
  | 0 => by simp [sm]
  | n + 1 => by
    have ih := sm_one g k n
    show sm _ n + g n * (if n = k then 1 else 0) = _
    rw [ih]
    by_cases e : n = k
    · subst e
      simp
      grind
    · by_cases h : k < n
      · simp [h, e, show k < n + 1 by omega]
        grind
      · simp [h, e, show ¬ k < n + 1 by omega]
        grind
theorem sm_any {f : Nat → Rat} {a b : Nat} (h : ∀ i, a ≤ i → f i = 0) (g : ∀ i, b ≤ i → f i = 0) : sm f a = sm f b := by
  rcases Nat.le_total a b with e | e
  · obtain ⟨d, rfl⟩ := Nat.le.dest e
    exact (sm_more h d).symm
  · obtain ⟨d, rfl⟩ := Nat.le.dest e
    exact sm_more g d
theorem val_hi {w : List F} {j : Nat} (h : w.length ≤ j) : val (Rs.co w j) = 0 := by rw [Rs.co_ge h, val_zero]
/-- a product, power by power -/
theorem prod_co {D1 D2 : Int} {a b : Nat} {w ms : List F} (hw : Ca D1 a w) (hr : Ca D2 b ms) (j : Nat) :
    val (Rs.co (Rs.trim (Rs.prodN (w.length + ms.length) w ms)) j) = sm (fun i => val (Rs.co w i) * val (Rs.co ms (j - i))) (j + 1) := by
  rw [trim_co]
  obtain ⟨x, y⟩ := prodN_wtC hw hr (Nat.le_succ (w.length + ms.length)) (fun m => if m = j then 1 else 0)
  have e1 : wt (fun m => if m = j then (1 : Rat) else 0) (Rs.prodN (w.length + ms.length) w ms) = val (Rs.co (Rs.prodN (w.length + ms.length) w ms) j) := by
    unfold wt
    rw [sm_one (fun m => val (Rs.co (Rs.prodN (w.length + ms.length) w ms) m)) j]
    split
    · rfl
    · rename_i h
      exact (val_hi (by omega)).symm
  rw [← e1, y]
  have e2 : ∀ i, sm (fun l => val (Rs.co ms l) * (if i + l = j then 1 else 0)) ms.length = if i ≤ j then val (Rs.co ms (j - i)) else 0 := fun i => by
    by_cases h : i ≤ j
    · rw [if_pos h, sm_congr (g := fun l => val (Rs.co ms l) * (if l = j - i then 1 else 0)) (fun l _ => by
        by_cases e : i + l = j
        · rw [if_pos e, if_pos (by omega)]
        · rw [if_neg e, if_neg (by omega)]), sm_one]
      split
      · rfl
      · exact (val_hi (by omega)).symm
    · rw [if_neg h]
      refine sm_zero fun l _ => ?_
      rw [if_neg (by omega)]
      grind
  rw [sm_congr (g := fun i => val (Rs.co w i) * (if i ≤ j then val (Rs.co ms (j - i)) else 0)) (fun i _ => by rw [e2 i])]
  rw [sm_any (a := w.length) (b := j + 1) (fun i hi => by rw [val_hi hi]; grind) (fun i hi => by rw [if_neg (by omega)]; grind)]
  refine sm_congr fun i hi => ?_
  show val _ * (if i ≤ j then _ else 0) = _
  rw [if_pos (by omega)]
/-- the i-th power, to power p -/
structure PW (D : Int) (m : Nat → Rat) (p i : Nat) (w : List F) : Prop where
  l : w.length ≤ p + 1
  c : Ca (D ^ i) (251 * i) w
  v : ∀ j, j ≤ p → val (Rs.co w j) = pw m i j
theorem PW.start (D : Int) (m : Nat → Rat) (p : Nat) : PW D m p 0 [(1, 1)] := by
  refine ⟨by simp, fun q hq => ?_, fun j _ => ?_⟩
  · rw [List.mem_singleton.mp hq]
    exact ⟨⟨by decide, by decide⟩, by rw [val_one, Int.pow_zero]; exact Ov.one⟩
  · cases j with
    | zero => exact val_one
    | succ j => exact val_zero
theorem PW.step {D : Int} {m : Nat → Rat} {p i : Nat} {w : List F} (h : PW D m p i w) (z : Sz D m) (hp : p ≤ 8) : PW D m p (i + 1) ((Rs.trim (Rs.prodN (w.length + (rl m (p + 1)).length) w (rl m (p + 1)))).take (p + 1)) := by
  refine ⟨by rw [List.length_take]; omega, fun q hq => ?_, fun j hj => ?_⟩
  · have := (prodN_wtC h.c (z.ca (p + 1)) (Nat.le_succ (w.length + (rl m (p + 1)).length)) (fun _ => 0)).1 q (Rs.trim_mem (List.mem_of_mem_take hq))
    rw [Int.pow_succ]
    refine this.mono ?_
    rw [rl_len]
    have := Nat.mul_le_mul h.l (Nat.le_refl (p + 1))
    have : (p + 1) * (p + 1) ≤ 9 * 9 := Nat.mul_le_mul (by omega) (by omega)
    omega
  · have e : ∀ T : List F, Rs.co (T.take (p + 1)) j = Rs.co T j := fun T => by
      unfold Rs.co
      rw [List.getD_eq_getElem?_getD, List.getD_eq_getElem?_getD, List.getElem?_take, if_pos (by omega)]
    rw [e, prod_co h.c (z.ca (p + 1)) j]
    show _ = sm _ (j + 1)
    refine sm_congr fun i' hi => ?_
    show val _ * val _ = pw m i i' * m (j - i')
    rw [h.v i' (by omega), rl_co (by omega), rf_val]
end Cu
namespace Rs
open PySem PySem.Spec PyProof.Rows L2 Bs Fq LamX RZ Cu
theorem cut_to' {xs : List V} {k : Nat} : cutV xs none (some (k : Int)) = xs.take k := by
  unfold cutV
  have e : HT.sIx xs.length xs.length (some (k : Int)) = min k xs.length := by
    rw [HT.sIx_nat]
  rw [e]
  show (xs.drop 0).take (min k xs.length - 0) = _
  rw [List.drop_zero, Nat.sub_zero]
  by_cases h : k ≤ xs.length
  · rw [Nat.min_eq_left h]
  · rw [Nat.min_eq_right (by omega), List.take_length, List.take_of_length_le (by omega)]
structure OneG (K : PySem.W.Frag) (mg : Str → Option Value) : Prop where
  ex : ∃ a : Addr, mg "ONE" = some (.ref a) ∧ ∀ H : Hp, SqT K H a [.int 1, .int 1]
abbrev sPP : Stmt := top 47
abbrev NPP : List Str := ["moments", "number", "place", "whole", "_"]
def spPP (K : PySem.W.Frag) : Sp := fun vs H Q _ => ∃ (v : V) (D : Int) (m : Nat → Rat) (L s p : Nat), vs = [v, .int (s : Nat), .int (p : Nat)] ∧ PoL K H v (rl m L) ∧ Sz D m ∧ p < L ∧ L ≤ 9 ∧ s ≤ 8 ∧ ∀ H' u, Same H H' → Fr K H' u (rf (pw m s p)) → Q u H'
section
variable {P : Program} {w : World} {K : PySem.W.Frag} {mg : Str → Option Value} {base : Heap} {f : Addr} {fd : FuncData}
theorem scPP : FnScope NPP ["moments", "number", "place"] (defScope sPP) := ⟨rfl, rfl, rfl, by decide +kernel, rfl, by decide +kernel, by decide +kernel⟩
theorem ok_pp (F : Fun K "power_part" "power_part" sPP f fd) (T : Blt mg) (O : OneG K mg) (PT : Cal P w K mg base 3 "poly_timed" (spPTimedL K)) (AT : Cal P w K mg base 1 "at_power" (spAt K)) : FnOk P w K mg base CX0 4 f fd ["moments", "number", "place"] (spPP K) := by
  refine F.ok scPP (fun vs H Q E h => ?_) (fun cdv A outer s H vs Q E hr h => ?_)
  · obtain ⟨v, D, m, L, s, p, rfl, _⟩ := h
    rfl
  · obtain ⟨v, D, m, L, s, p, rfl, ⟨a, xs, rfl, ga, fa⟩, z, pL, L9, s8, kk⟩ := h
    obtain ⟨og, mog, sog⟩ := O.ex
    refine ⟨_, C8.pss_cut (ps_set (i := 0) scPP.nd rfl (Or.inl rfl) (pe_slice sl_list (pv 0) po_none (po_some (pe_op op_add (pv 2) pe_int))))
      (C8.pss_cut (ps_set (i := 3) scPP.nd rfl (Or.inl rfl) (pe_tup (pa_cons (pe_glob (v := .ref og) (by rfl) mog rfl) pa_nil)))
      (C8.pss_cut (ps_for PassesOwn.never rfl (pi_range1 rfl T.range (pa_cons (pv 1) pa_nil)) (pg_name (i := 4) scPP.nd rfl (Or.inl rfl))
      (pss_one (ps_set (i := 3) scPP.nd rfl (Or.inl rfl) (pe_slice sl_tupA (pe_n PT hr (by decide) (by rfl) (pa_cons (pv 3) (pa_cons (pv 0) pa_nil))) po_none (po_some (pe_op op_add (pv 2) pe_int))))))
      (pss_one (ps_ret (pe_n AT hr (by decide) (by rfl) (pa_cons (pv 3) (pa_cons (pv 2) pa_nil))))))), ?_⟩
    refine ⟨fun σ H1 => ∃ M, Same H H1 ∧ PoL K H1 (.ref M) (rl m (p + 1)) ∧ σ = [some (.ref M), some (.int (s : Nat)), some (.int (p : Nat)), none, none], ?_, ?_⟩
    · refine ⟨_, rfl, _, rfl, _, _, rfl, rfl, _, rfl, a, xs, rfl, SqL.of ga, fun q hq => ?_⟩
      have s1 := same_new (o := .lst (cutV xs none (some ((p : Int) + 1)))) hq
      refine ⟨q, s1, ⟨q, _, rfl, upd_same, ?_⟩, rfl⟩
      rw [show (p : Int) + 1 = ((p + 1 : Nat) : Int) by omega, cut_to']
      have := FrAll.take (p + 1) (fa.mono s1)
      rw [rl_take, Nat.min_eq_left (by omega)] at this
      rw [show (p : Int) + 1 = ((p + 1 : Nat) : Int) by omega, cut_to'] at this
      exact this
    rintro σ H1 ⟨M, s1, pM, rfl⟩
    refine ⟨fun σ H2 => ∃ wv, Same H1 H2 ∧ Po K H2 wv [(1, 1)] ∧ σ = [some (.ref M), some (.int (s : Nat)), some (.int (p : Nat)), some wv, none], ?_, ?_⟩
    · refine ⟨(by show 1 ≤ sizeLine; decide), fun q hq => ⟨_, same_new hq, ⟨q, _, rfl, SqT.of upd_same, .cons ⟨og, rfl, sog _⟩ .nil⟩, rfl⟩⟩
    rintro σ H2 ⟨wv, s2, pw0, rfl⟩
    refine ⟨fun σ H3 => ∃ wv w v4, Same H1 H3 ∧ Po K H3 wv w ∧ PW D m p s w ∧ σ = [some (.ref M), some (.int (s : Nat)), some (.int (p : Nat)), some wv, v4], ?_, ?_⟩
    · refine ⟨_, rfl, _, rfl, by omega, by omega, for_range (n := ((s : Nat) : Int).toNat) (fun i σ H3 => ∃ wv w v4, Same H1 H3 ∧ Po K H3 wv w ∧ PW D m p i w ∧ σ = [some (.ref M), some (.int (s : Nat)), some (.int (p : Nat)), some wv, v4])
        ⟨wv, _, none, s2, pw0, PW.start D m p, rfl⟩ ?_ (fun σ H3 q => q)⟩
      rintro i σ H3 hi ⟨wv, w, v4, s3, po, pi, rfl⟩
      have i7 : i ≤ 7 := by omega
      have hl := pi.l
      refine ⟨_, rfl, _, rfl, wv, _, w, rl m (p + 1), D ^ i, D, 251 * i, 170, rfl, po, pM.mono s3, pi.c, z.ca _, z.bd (by omega) (by omega), (by have := z.bd (s := 1) (n := 170) (by decide) (by decide); rwa [Int.pow_one] at this), (by rw [← Int.pow_succ]; exact z.bd (by omega) (by omega)), by omega, by rw [rl_len]; omega, fun H4 c s4 pc => ?_⟩
      obtain ⟨c', ys, ec, sc, fc⟩ := pc
      cases ec
      refine ⟨_, rfl, _, _, rfl, rfl, _, rfl, ?_⟩
      refine sl_cut (ys := ys.take (p + 1)) sc (by rw [show (p : Int) + 1 = ((p + 1 : Nat) : Int) by omega, cut_to']) fun c2 H5 s5 sc2 => ?_
      exact ⟨_, _, _, s3.trans (s4.trans s5), ⟨c2, _, rfl, sc2, FrAll.take (p + 1) (fc.mono s5)⟩, pi.step z (by omega), rfl⟩
    rintro σ H3 ⟨wv, w, v4, s3, po, pi, rfl⟩
    refine ⟨_, rfl, _, rfl, wv, w, p, rfl, po, fun u fu => kk H3 u (s1.trans s3) ?_⟩
    have e : co w p = rf (pw m s p) := rf_eq (pi.c.co p).ok (pi.v p (Nat.le_refl _))
    rw [← e]
    exact fu
end
end Rs


set_option Elab.async false
set_option linter.all false
set_option maxRecDepth 100000
set_option maxHeartbeats 1000000
namespace Cu
open Fq Pg
theorem pw_has {D : Int} {m : Nat → Rat} (z : Sz D m) {p : Nat} (hp : p ≤ 8) : ∀ s, ∃ w, PW D m p s w
  | 0 => ⟨_, PW.start D m p⟩
  | s + 1 => by
    obtain ⟨w, h⟩ := pw_has z hp s
    exact ⟨_, h.step z hp⟩
theorem pw_ov {D : Int} {m : Nat → Rat} (z : Sz D m) {s p : Nat} (hp : p ≤ 8) : Ov (D ^ s) (251 * s) (pw m s p) := by
  obtain ⟨w, h⟩ := pw_has z hp s
  have := (h.c.co p).v
  rwa [h.v p (Nat.le_refl _)] at this
theorem ov_up {D : Int} {m : Nat → Rat} (z : Sz D m) {s t n : Nat} {x : Rat} (h : Ov (D ^ s) n x) (e : s ≤ t) : Ov (D ^ t) (n + 150 * (t - s)) x := by
  have := h.scale (z.pw (t - s)).2
  rw [← Int.pow_add, Nat.add_sub_cancel' e] at this
  exact this
theorem chs_small : ∀ n ∈ [0, 1, 2, 3, 4, 5, 6, 7], ∀ k ∈ [0, 1, 2, 3, 4, 5, 6, 7], PySem.W.mcComb (n : Nat) (k : Nat) = chs n k ∧ (chs n k).natAbs ≤ 2 ^ 7 := by decide +kernel
theorem chs_cb {n k : Nat} (hn : n ≤ 7) (hk : k ≤ 7) : Cb 1 7 (chs n k, 1) ∧ val (chs n k, 1) = (chs n k : Rat) := by
  have h := chs_small n (by simp; omega) k (by simp; omega)
  have e : val (chs n k, 1) = (chs n k : Rat) := by
    show (chs n k : Rat) / ((1 : Int) : Rat) = _
    rw [show ((1 : Int) : Rat) = 1 from rfl, Rat.div_def]
    grind
  refine ⟨⟨⟨by show (0 : Int) < 1; decide, by show Nat.gcd (chs n k).natAbs 1 = 1; exact Nat.gcd_one_right _⟩, chs n k, ?_, h.2⟩, e⟩
  rw [e]
  show _ * ((1 : Int) : Rat) = _
  rw [show ((1 : Int) : Rat) = 1 from rfl]
  grind
theorem bes_ov (k : Kd) {D : Int} {m : Nat → Rat} (z : Sz D m) {n s : Nat} (s1 : 1 ≤ s) (hs : s ≤ n) (n8 : n ≤ 8) : Ov (D ^ 8) 2008 (bes k m n s) := by
  cases k with
  | free => exact (ov_up z (pw_ov z (p := n - s) (by omega)) (by omega : s ≤ 8)).mono (by omega)
  | all =>
    have h := (chs_cb (n := n - 1) (k := s - 1) (by omega) (by omega)).1.v.mul (z.o (n - s))
    rw [(chs_cb (n := n - 1) (k := s - 1) (by omega) (by omega)).2, Int.one_mul] at h
    have h1 : Ov (D ^ 1) (7 + 170) (bes .all m n s) := by rw [Int.pow_one]; exact h
    exact (ov_up z h1 (by omega : 1 ≤ 8)).mono (by omega)
  | str =>
    have h1 : Ov (D ^ 1) 170 (bes .str m n s) := by rw [Int.pow_one]; exact z.o _
    exact (ov_up z h1 (by omega : 1 ≤ 8)).mono (by omega)
theorem ov_smb {D : Int} {n : Nat} {f : Nat → Rat} : ∀ j, (∀ i, i < j → Ov D n (f i)) → Ov D (n + j) (sm f j)
  | 0, _ => Ov.zero
  | j + 1, h => (ov_smb j fun i hi => h i (by omega)).add ((h j (by omega)).mono (by omega))
theorem mf_ov (k : Kd) {D : Int} {m c : Nat → Rat} (z : Sz D m) (zc : Sz D c) {n j : Nat} (hj : j ≤ n) (n1 : j ≤ 8) (n8 : n ≤ 8) : Ov (D * D ^ 8) (2178 + j) (mf k m c n j) :=
  ov_smb j fun i hi => (zc.o (i + 1)).mul (bes_ov k z (by omega) (by omega) n8)
theorem bd9 {D : Int} {m : Nat → Rat} (z : Sz D m) {n : Nat} (hn : n ≤ 4390) : Rs.Bd (D * D ^ 8) n := by
  have := z.bd (s := 9) (n := n) (by decide) hn
  rwa [show D ^ 9 = D * D ^ 8 by
    show D ^ (8 + 1) = _
    rw [Int.pow_succ, Int.mul_comm]] at this
end Cu
namespace Rs
open PySem PySem.Spec PyProof.Rows L2 Bs Fq LamX RZ Cu Pg
abbrev sBE : Stmt := top 48
abbrev NBE : List Str := ["kind", "moments", "number", "size", "left"]
def spBE (K : PySem.W.Frag) : Sp := fun vs H Q _ => ∃ (k : Kd) (v : V) (D : Int) (m : Nat → Rat) (L n s : Nat), vs = [.str (kdS k), v, .int (n : Nat), .int (s : Nat)] ∧ PoL K H v (rl m L) ∧ Sz D m ∧ 1 ≤ s ∧ s ≤ n ∧ n - s < L ∧ L ≤ 9 ∧ n ≤ 8 ∧ ∀ H' u, Same H H' → Fr K H' u (rf (bes k m n s)) → Q u H'
abbrev sMF : Stmt := top 49
abbrev NMF : List Str := ["kind", "moments", "cumulants", "number", "whole", "k", "cumulant"]
def spMFL (K : PySem.W.Frag) : Sp := fun vs H Q _ => ∃ (k : Kd) (v u : V) (D : Int) (m c : Nat → Rat) (L J n : Nat), vs = [.str (kdS k), v, u, .int (n : Nat)] ∧ PoL K H v (rl m L) ∧ PoL K H u (rl (fun i => c (i + 1)) J) ∧ Sz D m ∧ Sz D c ∧ 1 ≤ n ∧ n ≤ 8 ∧ n ≤ L ∧ L ≤ 9 ∧ J ≤ 8 ∧ ∀ H' u, Same H H' → Fr K H' u (rf (mf k m c n (min n J))) → Q u H'
def spMFT (K : PySem.W.Frag) : Sp := fun vs H Q _ => ∃ (k : Kd) (v u : V) (D : Int) (m c : Nat → Rat) (L J n : Nat), vs = [.str (kdS k), v, u, .int (n : Nat)] ∧ PoL K H v (rl m L) ∧ Po K H u (rl (fun i => c (i + 1)) J) ∧ Sz D m ∧ Sz D c ∧ 1 ≤ n ∧ n ≤ 8 ∧ n ≤ L ∧ L ≤ 9 ∧ J ≤ 8 ∧ ∀ H' u, Same H H' → Fr K H' u (rf (mf k m c n (min n J))) → Q u H'
section
variable {P : Program} {w : World} {K : PySem.W.Frag} {mg : Str → Option Value} {base : Heap} {f : Addr} {fd : FuncData}
theorem scBE : FnScope NBE ["kind", "moments", "number", "size"] (defScope sBE) := ⟨rfl, rfl, rfl, by decide +kernel, rfl, by decide +kernel, by decide +kernel⟩
theorem ok_be (F : Fun K "beside" "beside" sBE f fd) (T : Blt mg) (PP : Cal P w K mg base 4 "power_part" (spPP K)) (TI : Cal P w K mg base 2 "timed" (spOp K mul dom2)) : FnOk P w K mg base CX0 5 f fd ["kind", "moments", "number", "size"] (spBE K) := by
  refine F.ok scBE (fun vs H Q E h => ?_) (fun cdv A outer s H vs Q E hr h => ?_)
  · obtain ⟨k, v, D, m, L, n, s, rfl, _⟩ := h
    rfl
  · obtain ⟨k, v, D, m, L, n, s, rfl, pm, z, s1, sn, nL, L9, n8, kk⟩ := h
    refine ⟨_, C8.pss_cut (ps_set (i := 4) scBE.nd rfl (Or.inl rfl) (pe_op op_sub (pv 2) (pv 3)))
      (pss_cons (ps_if (pt_cmpR op_eq (pv 0) pe_str (nomark _)) (pss_one (ps_ret (pe_n PP hr (by decide) (by rfl) (pa_cons (pv 1) (pa_cons (pv 3) (pa_cons (pv 4) pa_nil)))))) pss_nil)
      (pss_cons (ps_if (pt_cmpR op_eq (pv 0) pe_str (nomark _)) (pss_one (ps_ret (pe_n TI hr (by decide) (by rfl) (pa_cons (pe_tup (pa_cons (pe_callBfun cr_comb (by rfl) T.comb (pa_cons (pe_op op_sub (pv 2) pe_int) (pa_cons (pe_op op_sub (pv 3) pe_int) pa_nil))) (pa_cons pe_int pa_nil))) (pa_cons (pe_ix ix_list (pv 1) (pv 4) (fun _ _ => rfl)) pa_nil))))) pss_nil)
      (pss_one (ps_ret (pe_ix ix_list (pv 1) (pv 4) (fun _ _ => rfl)))))), ?_⟩
    obtain ⟨va, xs, rfl, ga, fa⟩ := id pm
    have el : (n : Int) - (s : Int) = ((n - s : Nat) : Int) := by omega
    refine ⟨fun σ H1 => H1 = H ∧ σ = [some (.str (kdS k)), some (.ref va), some (.int (n : Nat)), some (.int (s : Nat)), some (.int ((n - s : Nat) : Int))], ?_, ?_⟩
    · exact ⟨_, rfl, _, rfl, _, _, rfl, rfl, rfl, by rw [← el]; rfl⟩
    rintro σ H1 ⟨rfl, rfl⟩
    obtain ⟨y, q, g1, g2, g3⟩ := fa.get (i := n - s) (by rw [rl_len]; exact nL)
    rw [rl_get nL] at g2
    cases g2
    refine ⟨_, rfl, rfl, _, rfl, ?_⟩
    cases k with
    | free =>
      refine ite2 (fun _ => ?_) (fun c => absurd (decide_eq_true rfl) c)
      exact ⟨_, rfl, _, rfl, _, rfl, _, D, m, L, s, n - s, rfl, pm, z, nL, L9, by omega, kk⟩
    | all =>
      refine ite2 (fun c => absurd c (by decide +kernel)) (fun _ => ?_)
      refine ⟨_, rfl, rfl, _, rfl, ?_⟩
      refine ite2 (fun _ => ?_) (fun c => absurd (decide_eq_true rfl) c)
      have h1 := chs_small (n - 1) (by simp; omega) (s - 1) (by simp; omega)
      have h2 := chs_cb (n := n - 1) (k := s - 1) (by omega) (by omega)
      refine ⟨_, rfl, _, _, rfl, rfl, _, rfl, _, _, rfl, rfl, _, _, rfl, by omega, by omega, by omega, by omega, ?_⟩
      rw [show (n : Int) - 1 = ((n - 1 : Nat) : Int) by omega, show (s : Int) - 1 = ((s - 1 : Nat) : Int) by omega, h1.1]
      refine ⟨(by show 2 ≤ sizeLine; decide), fun p hp => ?_⟩
      have s1 := same_new (o := .tup [.int (chs (n - 1) (s - 1)), .int 1]) hp
      refine ⟨_, rfl, _, rfl, va, xs, _, y, rfl, rfl, SqL.of (s1 _ _ ga), atI_nat g1, _, _, (chs (n - 1) (s - 1), 1), rf (m (n - s)), rfl, ⟨p, rfl, SqT.of upd_same⟩, g3.mono s1, ⟨cb_dm h2.1 (Bd.of (by decide) (by decide) (by decide) (by decide) (N := 1)), cb_dm (rf_cb (z.o _)) (by have := z.bd (s := 1) (n := 170) (by decide) (by decide); rwa [Int.pow_one] at this)⟩, fun c1 hc1 => ?_⟩
      have s2 := same_new (o := fr (mul (chs (n - 1) (s - 1), 1) (rf (m (n - s))))) hc1
      refine kk _ _ (s1.trans s2) ?_
      have e : mul (chs (n - 1) (s - 1), 1) (rf (m (n - s))) = rf (bes .all m n s) := rf_eq (ok_mul' (by show (0 : Int) < 1; decide) (rf_ok _).1) (by
        rw [val_mul (by show (0 : Int) < 1; decide) (rf_ok _).1, h2.2, rf_val]
        rfl)
      rw [← e]
      exact Fr.of upd_same
    | str =>
      refine ite2 (fun c => absurd c (by decide +kernel)) (fun _ => ?_)
      refine ⟨_, rfl, rfl, _, rfl, ?_⟩
      refine ite2 (fun c => absurd c (by decide +kernel)) (fun _ => ?_)
      exact ⟨_, rfl, _, rfl, va, xs, _, y, rfl, rfl, SqL.of ga, atI_nat g1, kk H1 y (fun _ _ z => z) g3⟩
theorem scMF : FnScope NMF ["kind", "moments", "cumulants", "number"] (defScope sMF) := ⟨rfl, rfl, rfl, by decide +kernel, rfl, by decide +kernel, by decide +kernel⟩
theorem ok_mfL (F : Fun K "moment_from" "moment_from" sMF f fd) (T : Blt mg) (Z : Nou K mg) (en : mg "enumerate" = none) (AD : Cal P w K mg base 2 "added" (spOp K add dom2)) (TI : Cal P w K mg base 2 "timed" (spOp K mul dom2)) (BE : Cal P w K mg base 5 "beside" (spBE K)) : FnOk P w K mg base CX0 6 f fd ["kind", "moments", "cumulants", "number"] (spMFL K) := by
  refine F.ok scMF (fun vs H Q E h => ?_) (fun cdv A outer s H vs Q E hr h => ?_)
  · obtain ⟨k, v, u, D, m, c, L, J, n, rfl, _⟩ := h
    rfl
  · obtain ⟨k, v, u, D, m, c, L, J, n, rfl, pm, ⟨a, xs, rfl, ga, fa⟩, zm, zc, n1, n8, nL, L9, J8, kk⟩ := h
    obtain ⟨z, mz, sz⟩ := Z.ex
    obtain ⟨va, rfl, -⟩ : ∃ a, v = V.ref a ∧ True := by
      obtain ⟨a, _, rfl, _⟩ := pm
      exact ⟨a, rfl, trivial⟩
    refine ⟨_, C8.pss_cut (ps_set (i := 4) scMF.nd rfl (Or.inl rfl) (pe_glob (v := .ref z) (by rfl) mz rfl))
      (C8.pss_cut (ps_for PassesOwn.never rfl (pi_enum (by rfl) en (pa_cons (pe_slice sl_list (pv 2) po_none (po_some (pv 3))) pa_nil)) (pg_tup rfl (pgs_cons (pg_name (i := 5) scMF.nd rfl (Or.inl rfl)) (pgs_cons (pg_name (i := 6) scMF.nd rfl (Or.inl rfl)) pgs_nil)))
      (pss_one (ps_set (i := 4) scMF.nd rfl (Or.inl rfl) (pe_n AD hr (by decide) (by rfl) (pa_cons (pv 4) (pa_cons (pe_n TI hr (by decide) (by rfl) (pa_cons (pv 6) (pa_cons (pe_n BE hr (by decide) (by rfl) (pa_cons (pv 0) (pa_cons (pv 1) (pa_cons (pv 3) (pa_cons (pe_op op_add (pv 5) pe_int) pa_nil))))) pa_nil))) pa_nil))))))
      (pss_one (ps_ret (pv 4)))), ?_⟩
    refine ⟨fun σ H1 => ∃ w, H1 = H ∧ Fr K H w (rf (mf k m c n 0)) ∧ σ = [some (.str (kdS k)), some (.ref va), some (.ref a), some (.int (n : Nat)), some w, none, none], ?_, ?_⟩
    · exact ⟨.ref z, rfl, ⟨z, rfl, sz _⟩, rfl⟩
    rintro σ H1 ⟨w0, rfl, fw0, rfl⟩
    refine ⟨fun σ H2 => ∃ w v5 v6, Same H1 H2 ∧ Fr K H2 w (rf (mf k m c n (min n J))) ∧ σ = [some (.str (kdS k)), some (.ref va), some (.ref a), some (.int (n : Nat)), some w, v5, v6], ?_, ?_⟩
    · refine ⟨_, rfl, _, rfl, _, rfl, a, xs, rfl, SqL.of ga, fun q hq => ?_⟩
      obtain ⟨H2, ys, s2, gq, fy, eH⟩ : ∃ H2 ys, Same H1 H2 ∧ H2 q = some (.lst ys) ∧ FrAll K H2 ys (rl (fun i => c (i + 1)) (min n J)) ∧ upd H1 q (.lst (cutV xs none (some (n : Int)))) = H2 := by
        refine ⟨_, _, same_new hq, upd_same, ?_, rfl⟩
        rw [cut_to']
        have := FrAll.take n (fa.mono (same_new (o := .lst (xs.take n)) hq))
        rw [rl_take] at this
        exact this
      rw [eH]
      have lc : ys.length = min n J := by rw [fy.len, rl_len]
      refine ⟨_, _, rfl, SqL.of gq, ?_⟩
      refine for_it (walk_enum (xs := ys)) (fun i σ H3 => ∃ w v5 v6, Same H2 H3 ∧ Fr K H3 w (rf (mf k m c n i)) ∧ σ = [some (.str (kdS k)), some (.ref va), some (.ref a), some (.int (n : Nat)), some w, v5, v6])
        ⟨w0, none, none, fun _ _ z => z, fw0.mono s2, rfl⟩ (fun i σ H3 _ q => by
          obtain ⟨_, _, _, s3, _⟩ := q
          exact SqL.of (s3 _ _ gq)) ?_ ?_
      · rintro i x σ H3 H4 hi ⟨w, v5, v6, s3, fw, rfl⟩ ⟨T', x', y', rfl, hT, rfl, h1, h2⟩
        cases h1
        have h2' : ys[i]? = some y' := h2
        have il : i < min n J := by omega
        obtain ⟨y2, q, g1, g2, g3⟩ := fy.get (i := i) (by rw [rl_len]; exact il)
        have ey : y2 = y' := by
          rw [g1] at h2'
          exact Option.some.inj h2'
        subst ey
        rw [rl_get il] at g2
        cases g2
        have s4 := same_new (o := .tup [.int (i : Nat), y2]) hT
        have s24 := s3.trans s4
        have b1 := bes_ov k zm (n := n) (s := i + 1) (by omega) (by omega) n8
        refine ⟨T', _, rfl, SqT.of upd_same, rfl, _, _, rfl, _, _, rfl, rfl, ?_⟩
        generalize upd H3 T' (.tup [.int (i : Nat), y2]) = H4 at *
        refine ⟨_, rfl, _, rfl, _, rfl, _, rfl, _, rfl, _, rfl, _, _, rfl, rfl, k, _, D, m, L, n, i + 1, rfl, pm.mono (s2.trans s24), zm, by omega, by omega, by omega, L9, n8, fun H5 u s5 fu => ?_⟩
        refine ⟨y2, u, _, _, rfl, g3.mono (s24.trans s5), fu, ⟨cb_dm (rf_cb (zc.o (i + 1))) (by have := zc.bd (s := 1) (n := 170) (by decide) (by decide); rwa [Int.pow_one] at this), cb_dm (rf_cb b1) (zm.bd (by decide) (by decide))⟩, fun c1 hc1 => ?_⟩
        have s6 := same_new (o := fr (mul (rf (c (i + 1))) (rf (bes k m n (i + 1))))) hc1
        have e1 : mul (rf (c (i + 1))) (rf (bes k m n (i + 1))) = rf (c (i + 1) * bes k m n (i + 1)) := rf_eq (ok_mul' (rf_ok _).1 (rf_ok _).1) (by rw [val_mul (rf_ok _).1 (rf_ok _).1, rf_val, rf_val])
        have b2 := mf_ov k zm zc (n := n) (j := i) (by omega) (by omega) n8
        refine ⟨w, .ref c1, _, _, rfl, (fw.mono (s4.trans s5)).mono s6, Fr.of upd_same, ⟨cb_dm (rf_cb b2) (bd9 zm (by omega)), cb_dm (by rw [e1]; exact rf_cb ((zc.o (i + 1)).mul b1)) (bd9 zm (by omega))⟩, fun c2 hc2 => ?_⟩
        have s7 := same_new (o := fr (add (rf (mf k m c n i)) (mul (rf (c (i + 1))) (rf (bes k m n (i + 1)))))) hc2
        refine ⟨.ref c2, some (.int (i : Nat)), some y2, ((s24.trans s5).trans s6).trans s7, ?_, rfl⟩
        have e2 : add (rf (mf k m c n i)) (mul (rf (c (i + 1))) (rf (bes k m n (i + 1)))) = rf (mf k m c n (i + 1)) := by
          rw [e1]
          exact rf_eq (ok_add' (rf_ok _).1 (rf_ok _).1) (by
            rw [val_add (rf_ok _).1 (rf_ok _).1, rf_val, rf_val]
            rfl)
        rw [← e2]
        exact Fr.of upd_same
      · rintro σ H3 ⟨w, v5, v6, s3, fw, rfl⟩
        rw [lc] at fw
        exact ⟨w, v5, v6, s2.trans s3, fw, rfl⟩
    rintro σ H2 ⟨w, v5, v6, s2, fw, rfl⟩
    exact ⟨_, rfl, kk H2 w s2 fw⟩
theorem ok_mfT (F : Fun K "moment_from" "moment_from" sMF f fd) (T : Blt mg) (Z : Nou K mg) (en : mg "enumerate" = none) (AD : Cal P w K mg base 2 "added" (spOp K add dom2)) (TI : Cal P w K mg base 2 "timed" (spOp K mul dom2)) (BE : Cal P w K mg base 5 "beside" (spBE K)) : FnOk P w K mg base CX0 6 f fd ["kind", "moments", "cumulants", "number"] (spMFT K) := by
  refine F.ok scMF (fun vs H Q E h => ?_) (fun cdv A outer s H vs Q E hr h => ?_)
  · obtain ⟨k, v, u, D, m, c, L, J, n, rfl, _⟩ := h
    rfl
  · obtain ⟨k, v, u, D, m, c, L, J, n, rfl, pm, ⟨a, xs, rfl, ga, fa⟩, zm, zc, n1, n8, nL, L9, J8, kk⟩ := h
    obtain ⟨z, mz, sz⟩ := Z.ex
    obtain ⟨va, rfl, -⟩ : ∃ a, v = V.ref a ∧ True := by
      obtain ⟨a, _, rfl, _⟩ := pm
      exact ⟨a, rfl, trivial⟩
    refine ⟨_, C8.pss_cut (ps_set (i := 4) scMF.nd rfl (Or.inl rfl) (pe_glob (v := .ref z) (by rfl) mz rfl))
      (C8.pss_cut (ps_for PassesOwn.never rfl (EnT.pi_enumT (by rfl) en (pa_cons (pe_slice sl_tupA (pv 2) po_none (po_some (pv 3))) pa_nil)) (pg_tup rfl (pgs_cons (pg_name (i := 5) scMF.nd rfl (Or.inl rfl)) (pgs_cons (pg_name (i := 6) scMF.nd rfl (Or.inl rfl)) pgs_nil)))
      (pss_one (ps_set (i := 4) scMF.nd rfl (Or.inl rfl) (pe_n AD hr (by decide) (by rfl) (pa_cons (pv 4) (pa_cons (pe_n TI hr (by decide) (by rfl) (pa_cons (pv 6) (pa_cons (pe_n BE hr (by decide) (by rfl) (pa_cons (pv 0) (pa_cons (pv 1) (pa_cons (pv 3) (pa_cons (pe_op op_add (pv 5) pe_int) pa_nil))))) pa_nil))) pa_nil))))))
      (pss_one (ps_ret (pv 4)))), ?_⟩
    refine ⟨fun σ H1 => ∃ w, H1 = H ∧ Fr K H w (rf (mf k m c n 0)) ∧ σ = [some (.str (kdS k)), some (.ref va), some (.ref a), some (.int (n : Nat)), some w, none, none], ?_, ?_⟩
    · exact ⟨.ref z, rfl, ⟨z, rfl, sz _⟩, rfl⟩
    rintro σ H1 ⟨w0, rfl, fw0, rfl⟩
    refine ⟨fun σ H2 => ∃ w v5 v6, Same H1 H2 ∧ Fr K H2 w (rf (mf k m c n (min n J))) ∧ σ = [some (.str (kdS k)), some (.ref va), some (.ref a), some (.int (n : Nat)), some w, v5, v6], ?_, ?_⟩
    · refine ⟨_, rfl, _, rfl, _, rfl, ?_⟩
      refine sl_cut (ys := xs.take n) ga cut_to' fun q H2 s2 gq => ?_
      have fy : FrAll K H2 (xs.take n) (rl (fun i => c (i + 1)) (min n J)) := by
        have := FrAll.take n (fa.mono s2)
        rwa [rl_take] at this
      generalize xs.take n = ys at fy gq
      have lc : ys.length = min n J := by rw [fy.len, rl_len]
      refine ⟨_, _, rfl, gq, ?_⟩
      refine for_it (walk_enumT (xs := ys)) (fun i σ H3 => ∃ w v5 v6, Same H2 H3 ∧ Fr K H3 w (rf (mf k m c n i)) ∧ σ = [some (.str (kdS k)), some (.ref va), some (.ref a), some (.int (n : Nat)), some w, v5, v6])
        ⟨w0, none, none, fun _ _ z => z, fw0.mono s2, rfl⟩ (fun i σ H3 _ q => by
          obtain ⟨_, _, _, s3, _⟩ := q
          exact Bs.Same.t s3 gq) ?_ ?_
      · rintro i x σ H3 H4 hi ⟨w, v5, v6, s3, fw, rfl⟩ ⟨T', x', y', rfl, hT, rfl, h1, h2⟩
        cases h1
        have h2' : ys[i]? = some y' := h2
        have il : i < min n J := by omega
        obtain ⟨y2, q, g1, g2, g3⟩ := fy.get (i := i) (by rw [rl_len]; exact il)
        have ey : y2 = y' := by
          rw [g1] at h2'
          exact Option.some.inj h2'
        subst ey
        rw [rl_get il] at g2
        cases g2
        have s4 := same_new (o := .tup [.int (i : Nat), y2]) hT
        have s24 := s3.trans s4
        have b1 := bes_ov k zm (n := n) (s := i + 1) (by omega) (by omega) n8
        refine ⟨T', _, rfl, SqT.of upd_same, rfl, _, _, rfl, _, _, rfl, rfl, ?_⟩
        generalize upd H3 T' (.tup [.int (i : Nat), y2]) = H4 at *
        refine ⟨_, rfl, _, rfl, _, rfl, _, rfl, _, rfl, _, rfl, _, _, rfl, rfl, k, _, D, m, L, n, i + 1, rfl, pm.mono (s2.trans s24), zm, by omega, by omega, by omega, L9, n8, fun H5 u s5 fu => ?_⟩
        refine ⟨y2, u, _, _, rfl, g3.mono (s24.trans s5), fu, ⟨cb_dm (rf_cb (zc.o (i + 1))) (by have := zc.bd (s := 1) (n := 170) (by decide) (by decide); rwa [Int.pow_one] at this), cb_dm (rf_cb b1) (zm.bd (by decide) (by decide))⟩, fun c1 hc1 => ?_⟩
        have s6 := same_new (o := fr (mul (rf (c (i + 1))) (rf (bes k m n (i + 1))))) hc1
        have e1 : mul (rf (c (i + 1))) (rf (bes k m n (i + 1))) = rf (c (i + 1) * bes k m n (i + 1)) := rf_eq (ok_mul' (rf_ok _).1 (rf_ok _).1) (by rw [val_mul (rf_ok _).1 (rf_ok _).1, rf_val, rf_val])
        have b2 := mf_ov k zm zc (n := n) (j := i) (by omega) (by omega) n8
        refine ⟨w, .ref c1, _, _, rfl, (fw.mono (s4.trans s5)).mono s6, Fr.of upd_same, ⟨cb_dm (rf_cb b2) (bd9 zm (by omega)), cb_dm (by rw [e1]; exact rf_cb ((zc.o (i + 1)).mul b1)) (bd9 zm (by omega))⟩, fun c2 hc2 => ?_⟩
        have s7 := same_new (o := fr (add (rf (mf k m c n i)) (mul (rf (c (i + 1))) (rf (bes k m n (i + 1)))))) hc2
        refine ⟨.ref c2, some (.int (i : Nat)), some y2, ((s24.trans s5).trans s6).trans s7, ?_, rfl⟩
        have e2 : add (rf (mf k m c n i)) (mul (rf (c (i + 1))) (rf (bes k m n (i + 1)))) = rf (mf k m c n (i + 1)) := by
          rw [e1]
          exact rf_eq (ok_add' (rf_ok _).1 (rf_ok _).1) (by
            rw [val_add (rf_ok _).1 (rf_ok _).1, rf_val, rf_val]
            rfl)
        rw [← e2]
        exact Fr.of upd_same
      · rintro σ H3 ⟨w, v5, v6, s3, fw, rfl⟩
        rw [lc] at fw
        exact ⟨w, v5, v6, s2.trans s3, fw, rfl⟩
    rintro σ H2 ⟨w, v5, v6, s2, fw, rfl⟩
    exact ⟨_, rfl, kk H2 w s2 fw⟩
end
end Rs


set_option Elab.async false
set_option linter.all false
set_option maxRecDepth 100000
set_option maxHeartbeats 1000000
namespace Cu
open Fq Pg
theorem val_divL {q r : F} (oq : Ok q) (o : Ok r) (h : 0 < r.1) : Ok (Rs.divL q r) ∧ val (Rs.divL q r) = val q / val r := by
  have hp : 0 < q.2 * r.1 := Int.mul_pos oq.1 h
  refine ⟨red_ok hp, ?_⟩
  show val (red _ _) = _
  rw [val_red hp]
  unfold val
  have h1 := ne0 oq.1
  have h2 := ne0 o.1
  have h3 := ne0 h
  rw [Rat.intCast_mul, Rat.intCast_mul]
  grind
/-- a row -/
structure Rwc (ρ : Nat → Rat) (L : Nat) (D : Int) : Prop where
  z : Sz D ρ
  p : 0 < ρ 0
  l1 : 1 ≤ L
  l9 : L ≤ 9
def um (ρ : Nat → Rat) : Nat → Rat := fun i => ρ i / ρ 0
theorem rf_pos {x : Rat} (h : 0 < x) : 0 < (rf x).1 := (val_pos (rf_ok x)).mp (by rw [rf_val]; exact h)
theorem Sz.b1 {D : Int} {m : Nat → Rat} (z : Sz D m) : Rs.Bd D 170 := by
  have := z.bd (s := 1) (n := 170) (by decide) (by decide)
  rwa [Int.pow_one] at this
theorem Sz.dm {D : Int} {m : Nat → Rat} (z : Sz D m) (i : Nat) : Rs.Dm (rf (m i)) := Rs.cb_dm (rf_cb (z.o i)) z.b1
theorem um_eq {ρ : Nat → Rat} (h : 0 < ρ 0) (i : Nat) : Rs.divL (rf (ρ i)) (rf (ρ 0)) = rf (um ρ i) := by
  obtain ⟨a, b⟩ := val_divL (rf_ok (ρ i)) (rf_ok (ρ 0)) (rf_pos h)
  exact rf_eq a (by rw [b, rf_val, rf_val]; rfl)
theorem um_zero {ρ : Nat → Rat} (h : 0 < ρ 0) : um ρ 0 = 1 := by
  unfold um
  have : ρ 0 ≠ 0 := fun z => by
    rw [z] at h
    exact absurd h (by decide)
  grind
theorem chs_diag : ∀ n ∈ [0, 1, 2, 3, 4, 5, 6, 7], chs n n = 1 := by decide
theorem pw_one {m : Nat → Rat} (h : m 0 = 1) : ∀ s, pw m s 0 = 1
  | 0 => rfl
  | s + 1 => by
    show (0 : Rat) + pw m s 0 * m 0 = 1
    rw [pw_one h s, h]
    grind
theorem bes_diag (k : Kd) {m : Nat → Rat} (h : m 0 = 1) {n : Nat} (n1 : 1 ≤ n) (n8 : n ≤ 8) : bes k m n n = 1 := by
  cases k with
  | free =>
    show pw m n (n - n) = 1
    rw [Nat.sub_self]
    exact pw_one h n
  | all =>
    show (chs (n - 1) (n - 1) : Rat) * m (n - n) = 1
    rw [Nat.sub_self, h, chs_diag (n - 1) (by simp; omega)]
    grind
  | str =>
    show m (n - n) = 1
    rw [Nat.sub_self, h]
theorem mf_last (k : Kd) {m c : Nat → Rat} (h : m 0 = 1) {i : Nat} (n8 : i + 1 ≤ 8) : mf k m c (i + 1) (i + 1) = mf k m c (i + 1) i + c (i + 1) := by
  show mf k m c (i + 1) i + c (i + 1) * bes k m (i + 1) (i + 1) = _
  rw [bes_diag k h (by omega) n8]
  grind
end Cu
namespace Rs
open PySem PySem.Spec PyProof.Rows L2 Bs Fq LamX RZ Cu Pg
theorem rowD_rl {ρ : Nat → Rat} {L : Nat} (p : 0 < ρ 0) (l1 : 1 ≤ L) (l9 : L ≤ 9) : rowD (dP (rl ρ L)) = true := by
  have e : fracsD 9 (dP (rl ρ L)) = true := by
    show (decide ((((rl ρ L).map dF).length : Int) ≤ 9) && ((rl ρ L).map dF).all fracD) = true
    rw [all_frac_of (fun q hq => by
      obtain ⟨i, _, rfl⟩ := List.mem_map.mp hq
      exact rf_ok _), List.length_map, rl_len, decide_eq_true (by omega)]
    rfl
  rw [rowD, e, Bool.true_and]
  obtain ⟨L, rfl⟩ : ∃ J, L = J + 1 := ⟨L - 1, by omega⟩
  unfold rl
  rw [List.range_succ_eq_map, List.map_cons]
  exact decide_eq_true (rf_pos p)
theorem fracs_rl {c : Nat → Rat} {L : Nat} (l8 : L ≤ 8) : fracsD 8 (dP (rl c L)) = true := by
  show (decide ((((rl c L).map dF).length : Int) ≤ 8) && ((rl c L).map dF).all fracD) = true
  rw [all_frac_of (fun q hq => by
    obtain ⟨i, _, rfl⟩ := List.mem_map.mp hq
    exact rf_ok _), List.length_map, rl_len, decide_eq_true (by omega)]
  rfl
structure MostC (mg : Str → Option Value) : Prop where
  ex : ∃ t, mg "MOST" = some (.int 8 t)
abbrev sUM : Stmt := top 50
abbrev sCB : Stmt := top 51
abbrev sCO : Stmt := top 52
abbrev sRB : Stmt := top 53
abbrev sRO : Stmt := top 54
abbrev sNP : Stmt := top 25
abbrev sNC : Stmt := top 46
abbrev NCB : List Str := ["row", "kind", "moments", "cumulants", "number"]
abbrev NRB : List Str := ["total", "cumulants", "kind", "moments", "number", "moment"]
def spUM (K : PySem.W.Frag) : Sp := fun vs H Q _ => ∃ (v : V) (ρ : Nat → Rat) (L : Nat) (D : Int), vs = [v] ∧ Po K H v (rl ρ L) ∧ Rwc ρ L D ∧ ∀ H' a, Same H H' → PoL K H' (.ref a) (rl (um ρ) L) → Q (.ref a) H'
/-- of what there are cumulants, by what kind -/
def CuHyp (k : Kd) (ρ c : Nat → Rat) (L : Nat) (D E : Int) : Prop := Rwc ρ L D ∧ Sz E (um ρ) ∧ Sz E c ∧ ∀ n, 1 ≤ n → n < L → mf k (um ρ) c n n = um ρ n
def spCB (K : PySem.W.Frag) : Sp := fun vs H Q _ => ∃ (v : V) (k : Kd) (ρ c : Nat → Rat) (L : Nat) (D E : Int), vs = [v, .str (kdS k)] ∧ Po K H v (rl ρ L) ∧ CuHyp k ρ c L D E ∧ ∀ H' a, Same H H' → Po K H' (.ref a) (rl (fun i => c (i + 1)) (L - 1)) → Q (.ref a) H'
def RbHyp (k : Kd) (t : Rat) (m c : Nat → Rat) (L : Nat) (E : Int) : Prop := Sz E m ∧ Sz E c ∧ m 0 = 1 ∧ 0 < t ∧ Dm (rf t) ∧ L ≤ 8 ∧ ∀ n, 1 ≤ n → n ≤ L → mf k m c n n = m n
def spRB (K : PySem.W.Frag) : Sp := fun vs H Q _ => ∃ (u v : V) (k : Kd) (t : Rat) (m c : Nat → Rat) (L : Nat) (E : Int), vs = [u, v, .str (kdS k)] ∧ Fr K H u (rf t) ∧ Po K H v (rl (fun i => c (i + 1)) L) ∧ RbHyp k t m c L E ∧ ∀ H' a, Same H H' → Po K H' (.ref a) (rl (fun i => t * m i) (L + 1)) → Q (.ref a) H'
def spNR0 (K : PySem.W.Frag) : Sp := fun vs H Q _ => ∃ (v : V) (d : PyData), vs = [v] ∧ Dp K H v d ∧ rowD d = true ∧ ∀ H', Same H H' → Q v H'
def spNP0 (K : PySem.W.Frag) : Sp := fun vs H Q _ => ∃ (v : V) (d : PyData), vs = [v] ∧ Dp K H v d ∧ posD d = true ∧ Q v H
def spNC0 (K : PySem.W.Frag) : Sp := fun vs H Q _ => ∃ (v : V) (d : PyData), vs = [v] ∧ Dp K H v d ∧ fracsD 8 d = true ∧ ∀ H', Same H H' → Q .non H'
section
variable {P : Program} {w : World} {K : PySem.W.Frag} {mg : Str → Option Value} {base : Heap} {f : Addr} {fd : FuncData}
theorem ok_needRow0 (F : Fun K "need_row" "need_row" sNeedRow f fd) (IR : Cal P w K mg base 4 "is_row" (spIsRow K)) : FnOk P w K mg base CX0 5 f fd ["thing"] (spNR0 K) := by
  refine F.ok scNeedRow (fun vs H Q E h => ?_) (fun cdv A outer s H vs Q E hr h => ?_)
  · obtain ⟨v, d, rfl, _⟩ := h
    rfl
  · obtain ⟨v, d, rfl, hd, e, kk⟩ := h
    refine ⟨_, pss_cons (ps_if (pt_not (pt_val (pe_n IR hr (by decide) (by rfl) (pa_cons (pv 0) pa_nil)))) (pss_one ps_never) pss_nil)
      (pss_one (ps_ret (pv 0))), ?_⟩
    refine ⟨_, rfl, v, d, rfl, hd, fun H1 s1 => ⟨_, rfl, ?_⟩⟩
    rw [e]
    exact iteF ⟨_, rfl, kk H1 s1⟩
theorem scNP : FnScope ["thing"] ["thing"] (defScope sNP) := ⟨rfl, rfl, rfl, by decide +kernel, rfl, by decide +kernel, by decide +kernel⟩
theorem ok_needPos0 (F : Fun K "need_positive" "need_positive" sNP f fd) (IP : Cal P w K mg base 3 "is_positive" (spPosi K)) : FnOk P w K mg base CX0 4 f fd ["thing"] (spNP0 K) := by
  refine F.ok scNP (fun vs H Q E h => ?_) (fun cdv A outer s H vs Q E hr h => ?_)
  · obtain ⟨v, d, rfl, _⟩ := h
    rfl
  · obtain ⟨v, d, rfl, hd, e, kk⟩ := h
    refine ⟨_, pss_cons (ps_if (pt_not (pt_val (pe_n IP hr (by decide) (by rfl) (pa_cons (pv 0) pa_nil)))) (pss_one ps_never) pss_nil)
      (pss_one (ps_ret (pv 0))), ?_⟩
    refine ⟨_, rfl, v, d, rfl, hd, _, rfl, ?_⟩
    rw [e]
    exact iteF ⟨_, rfl, kk⟩
theorem scNC : FnScope ["thing"] ["thing"] (defScope sNC) := ⟨rfl, rfl, rfl, by decide +kernel, rfl, by decide +kernel, by decide +kernel⟩
theorem ok_needCum0 (F : Fun K "need_cumulants" "need_cumulants" sNC f fd) (M : MostC mg) (AF : Cal P w K mg base 3 "are_fractions" (spAreF K)) : FnOk P w K mg base CX0 4 f fd ["thing"] (spNC0 K) := by
  refine F.ok scNC (fun vs H Q E h => ?_) (fun cdv A outer s H vs Q E hr h => ?_)
  · obtain ⟨v, d, rfl, _⟩ := h
    rfl
  · obtain ⟨v, d, rfl, hd, e, kk⟩ := h
    obtain ⟨tmo, mmo⟩ := M.ex
    refine ⟨_, pss_one (ps_if (pt_not (pt_val (pe_n AF hr (by decide) (by rfl) (pa_cons (pv 0) (pa_cons (pe_glob (v := .int 8) (by rfl) mmo ⟨tmo, rfl⟩) pa_nil))))) (pss_one ps_never) pss_nil), ?_⟩
    refine ⟨_, rfl, v, d, 8, rfl, hd, by decide, fun H1 s1 => ⟨_, rfl, ?_⟩⟩
    rw [e]
    exact iteF (kk H1 s1)
theorem scUM : FnScope ["row", "moment"] ["row"] (defScope sUM) := ⟨rfl, rfl, rfl, by decide +kernel, rfl, by decide +kernel, by decide +kernel⟩
theorem ok_um (F : Fun K "unit_moments" "unit_moments" sUM f fd) (DI : Cal P w K mg base 2 "divided" (spOp K divL domP)) : FnOk P w K mg base CX0 3 f fd ["row"] (spUM K) := by
  refine F.ok scUM (fun vs H Q E h => ?_) (fun cdv A outer s H vs Q E hr h => ?_)
  · obtain ⟨v, ρ, L, D, rfl, _⟩ := h
    rfl
  · obtain ⟨v, ρ, L, D, rfl, ⟨a, xs, rfl, sx, fx⟩, R, kk⟩ := h
    have lx := fx.len
    rw [rl_len] at lx
    have l1 := R.l1
    have l9 := R.l9
    obtain ⟨y0, q0, g0, g1, f0⟩ := fx.get (i := 0) (by rw [rl_len]; exact l1)
    rw [rl_get l1] at g1
    cases g1
    refine ⟨_, pss_one (ps_ret (pe_lc (own := [("moment", 1)]) (g := gName 1) (tt := tYes) rfl scUM.nd (pi_tup (pv 0)) (blkOk_by (N := ["row", "moment"]) (sc := defScope sUM) (by decide +kernel))
          (fun _ _ _ _ _ => pg_name (i := 1) scUM.nd rfl (Or.inl rfl)) (fun _ _ _ _ _ => pts_nil)
          (fun _ _ _ _ _ => (pe_n DI hr (by decide) (by rfl) (pa_cons (pv 1) (pa_cons (pe_ix (r := rIxT K) ix_tup (pv 0) pe_int (fun _ _ => rfl)) pa_nil)))))), ?_⟩
    refine ⟨_, rfl, a, rfl, ⟨_, sx⟩, fun D hD => lc_tup (K := K) (a := a) (xs := xs) (fun i H2 => Same H H2 ∧ ∃ vs, H2 D = some (.lst vs) ∧ FrAll K H2 vs (rl (um ρ) i)) ⟨same_new hD, [], upd_same, .nil⟩ (fun i H2 _ z => Bs.Same.t z.1 sx) ?_ ?_⟩
    · rintro i x H2 hx ⟨s2, vs, hD2, fv⟩
      have hi : i < xs.length := (List.getElem?_eq_some_iff.mp hx).1
      obtain ⟨y, q, g2, g3, g4⟩ := fx.get (i := i) (by rw [rl_len]; omega)
      rw [hx] at g2
      cases g2
      rw [rl_get (by omega)] at g3
      cases g3
      have lv := fv.len
      rw [rl_len] at lv
      refine ⟨rfl, ?_⟩
      refine iteT (B := Same H H2 ∧ ∃ vs, H2 D = some (.lst vs) ∧ FrAll K H2 vs (rl (um ρ) (i + 1))) ?_
      refine ⟨_, rfl, _, rfl, a, xs, _, y0, rfl, rfl, Bs.Same.t s2 sx, atI_nat (j := 0) g0, x, y0, _, _, rfl, g4.mono s2, f0.mono s2, ⟨R.z.dm i, R.z.dm 0, rf_pos R.p⟩, fun p hp => ?_⟩
      have s3 := same_new (o := fr (divL (rf (ρ i)) (rf (ρ 0)))) hp
      have g5 := s3 _ _ hD2
      refine ⟨vs, g5, small1000 (by omega), fun c o e => (upd_ne (ne_of_none e hD)).trans (s3 c o (s2 c o e)), _, upd_same, ?_⟩
      rw [rl_succ, ← um_eq R.p i]
      exact (FrAll.off g5 (fv.mono s3)).snoc ((Fr.of upd_same).off g5)
    · rintro H2 ⟨s2, vs, hD2, fv⟩
      rw [lx] at fv
      exact kk H2 D s2 ⟨D, vs, rfl, hD2, fv⟩
theorem scCB : FnScope NCB ["row", "kind"] (defScope sCB) := ⟨rfl, rfl, rfl, by decide +kernel, rfl, by decide +kernel, by decide +kernel⟩
theorem ok_cb (F : Fun K "cumulants_by" "cumulants_by" sCB f fd) (T : Blt mg) (UM : Cal P w K mg base 3 "unit_moments" (spUM K)) (MF : Cal P w K mg base 6 "moment_from" (spMFL K)) (LE : Cal P w K mg base 2 "lessened" (spOp K sub dom2)) : FnOk P w K mg base CX0 7 f fd ["row", "kind"] (spCB K) := by
  refine F.ok scCB (fun vs H Q E h => ?_) (fun cdv A outer s H vs Q E hr h => ?_)
  · obtain ⟨v, k, ρ, c, L, D, E, rfl, _⟩ := h
    rfl
  · obtain ⟨v, k, ρ, c, L, D, E, rfl, ⟨a, xs, rfl, sx, fx⟩, ⟨R, zm, zc, hm⟩, kk⟩ := h
    have lx := fx.len
    rw [rl_len] at lx
    have l1 := R.l1
    have l9 := R.l9
    have m0 := um_zero R.p
    refine ⟨_, C8.pss_cut (ps_set (i := 2) scCB.nd rfl (Or.inl rfl) (pe_n UM hr (by decide) (by rfl) (pa_cons (pv 0) pa_nil)))
      (C8.pss_cut (ps_set (i := 3) scCB.nd rfl (Or.inl rfl) (pe_lst pa_nil))
      (C8.pss_cut (ps_for PassesOwn.never rfl (pi_range2 rfl T.range (pa_cons pe_int (pa_cons (pe_callB call_len_seq (by rfl) T.len (by decide +kernel) (pa_cons (pv 0) pa_nil)) pa_nil))) (pg_name (i := 4) scCB.nd rfl (Or.inl rfl))
      (pss_one (ps_expr (pe_bm PySem.F.plainAttrs_list PySem.F.slot_list_append PySem.F.type_list_append mt_append (pv 3) (pa_cons (pe_n LE hr (by decide) (by rfl) (pa_cons (pe_ix ix_list (pv 2) (pv 4) (fun _ _ => rfl)) (pa_cons (pe_n MF hr (by decide) (by rfl) (pa_cons (pv 1) (pa_cons (pv 2) (pa_cons (pv 3) (pa_cons (pv 4) pa_nil))))) pa_nil))) pa_nil)))))
      (pss_one (ps_ret (pe_callTy call_tuple_of (by rfl) T.tuple (by decide +kernel) (pa_cons (pv 3) pa_nil)))))), ?_⟩
    refine ⟨fun σ H1 => ∃ M, Same H H1 ∧ PoL K H1 (.ref M) (rl (um ρ) L) ∧ σ = [some (.ref a), some (.str (kdS k)), some (.ref M), none, none], ?_, ?_⟩
    · exact ⟨_, rfl, _, ρ, L, D, rfl, ⟨a, xs, rfl, sx, fx⟩, R, fun H1 M s1 pM => ⟨M, s1, pM, rfl⟩⟩
    rintro σ H1 ⟨M, s1, pM, rfl⟩
    refine ⟨fun σ H2 => ∃ C, Same H1 H2 ∧ H1 C = none ∧ H2 C = some (.lst []) ∧ σ = [some (.ref a), some (.str (kdS k)), some (.ref M), some (.ref C), none], ?_, ?_⟩
    · exact ⟨(by show 0 ≤ sizeLine; decide), fun C hC => ⟨C, same_new hC, hC, upd_same, rfl⟩⟩
    rintro σ H2 ⟨C, s2, nC, gC, rfl⟩
    refine ⟨fun σ H3 => ∃ vs v4, Same H1 H3 ∧ H3 C = some (.lst vs) ∧ FrAll K H3 vs (rl (fun i => c (i + 1)) (L - 1)) ∧ σ = [some (.ref a), some (.str (kdS k)), some (.ref M), some (.ref C), v4], ?_, ?_⟩
    · refine ⟨_, rfl, a, xs, rfl, .inr (Bs.Same.t (s1.trans s2) sx), _, _, rfl, ⟨by omega, by omega, by omega, by omega⟩, for_range (lo := 1) (n := ((xs.length : Int) - 1).toNat) (fun i σ H3 => ∃ vs v4, Same H1 H3 ∧ H3 C = some (.lst vs) ∧ FrAll K H3 vs (rl (fun i => c (i + 1)) i) ∧ σ = [some (.ref a), some (.str (kdS k)), some (.ref M), some (.ref C), v4])
        ⟨[], none, s2, gC, .nil, rfl⟩ ?_ ?_⟩
      · rintro i σ H3 hi ⟨vs, v4, s3, gC3, fv, rfl⟩
        have es : (1 : Int) + (i : Nat) = ((i + 1 : Nat) : Int) := by omega
        rw [es]
        have il : i + 1 < L := by omega
        have lv := fv.len
        rw [rl_len] at lv
        obtain ⟨Ma, ms, eM, gM, fM⟩ := pM.mono s3
        cases eM
        obtain ⟨y, q, g2, g3, g4⟩ := fM.get (i := i + 1) (by rw [rl_len]; exact il)
        rw [rl_get il] at g3
        cases g3
        refine ⟨_, rfl, .inl ⟨rfl, _, SqL.of gC3⟩, _, rfl, _, rfl, M, ms, _, y, rfl, rfl, SqL.of gM, atI_nat g2, _, rfl, _, rfl, _, rfl, _, rfl, k, _, _, E, um ρ, c, L, i, i + 1, rfl, pM.mono s3, ⟨C, vs, rfl, gC3, fv⟩, zm, zc, by omega, by omega, by omega, l9, by omega, fun H4 u s4 fu => ?_⟩
        rw [Nat.min_eq_right (by omega)] at fu
        refine ⟨y, u, _, _, rfl, g4.mono s4, fu, ⟨zm.dm _, cb_dm (rf_cb (mf_ov k zm zc (by omega) (by omega) (by omega))) (bd9 zm (by omega))⟩, fun p hp => ?_⟩
        have s5 := same_new (o := fr (sub (rf (um ρ (i + 1))) (rf (mf k (um ρ) c (i + 1) i)))) hp
        have e1 : sub (rf (um ρ (i + 1))) (rf (mf k (um ρ) c (i + 1) i)) = rf (c (i + 1)) := rf_eq (ok_sub' (rf_ok _).1 (rf_ok _).1) (by
          rw [val_sub (rf_ok _).1 (rf_ok _).1, rf_val, rf_val, ← hm (i + 1) (by omega) il, mf_last k m0 (by omega)]
          grind)
        have g6 := s5 _ _ (s4 _ _ gC3)
        refine ⟨C, vs, _, rfl, rfl, g6, small1000 (by omega), _, _, fun b o e => (upd_ne (ne_of_none e nC)).trans (s5 b o (s4 b o (s3 b o e))), upd_same, ?_, rfl⟩
        rw [rl_succ, ← e1]
        exact (FrAll.off g6 ((fv.mono s4).mono s5)).snoc ((Fr.of upd_same).off g6)
      · rintro σ H3 ⟨vs, v4, s3, gC3, fv, rfl⟩
        rw [show ((xs.length : Int) - 1).toNat = L - 1 by omega] at fv
        exact ⟨vs, v4, s3, gC3, fv, rfl⟩
    rintro σ H3 ⟨vs, v4, s3, gC3, fv, rfl⟩
    refine ⟨_, rfl, C, vs, rfl, .inl ⟨SqL.of gC3, fun p hp => ?_⟩⟩
    have s4 := same_new (o := .tup vs) hp
    exact kk _ p ((s1.trans s3).trans s4) ⟨p, vs, rfl, SqT.of upd_same, fv.mono s4⟩
theorem scCO : FnScope ["row", "kind"] ["row", "kind"] (defScope sCO) := ⟨rfl, rfl, rfl, by decide +kernel, rfl, by decide +kernel, by decide +kernel⟩
theorem ok_co (F : Fun K "cumulants_of" "cumulants_of" sCO f fd) (NR : Cal P w K mg base 5 "need_row" (spNR0 K)) (CB : Cal P w K mg base 7 "cumulants_by" (spCB K)) (NK : Cal P w K mg base 1 "need_kind" spNeedKind) : FnOk P w K mg base CX0 8 f fd ["row", "kind"] (spCB K) := by
  refine F.ok scCO (fun vs H Q E h => ?_) (fun cdv A outer s H vs Q E hr h => ?_)
  · obtain ⟨v, k, ρ, c, L, D, E, rfl, _⟩ := h
    rfl
  · obtain ⟨v, k, ρ, c, L, D, E, rfl, po, hy, kk⟩ := h
    refine ⟨_, pss_cons (ps_expr (pe_n NR hr (by decide) (by rfl) (pa_cons (pv 0) pa_nil)))
      (pss_one (ps_ret (pe_n CB hr (by decide) (by rfl) (pa_cons (pv 0) (pa_cons (pe_n NK hr (by decide) (by rfl) (pa_cons (pv 1) pa_nil)) pa_nil))))), ?_⟩
    exact ⟨_, rfl, v, _, rfl, po.dp, rowD_rl hy.1.p hy.1.l1 hy.1.l9, fun H1 s1 => ⟨_, rfl, _, rfl, k, rfl, v, k, ρ, c, L, D, E, rfl, Po.mono s1 po, hy, fun H2 a s2 q => kk H2 a (s1.trans s2) q⟩⟩
theorem scRB : FnScope NRB ["total", "cumulants", "kind"] (defScope sRB) := ⟨rfl, rfl, rfl, by decide +kernel, rfl, by decide +kernel, by decide +kernel⟩
theorem ok_rb (F : Fun K "row_by_cumulants" "row_by_cumulants" sRB f fd) (T : Blt mg) (O : OneG K mg) (MF : Cal P w K mg base 6 "moment_from" (spMFT K)) (TI : Cal P w K mg base 2 "timed" (spOp K mul dom2)) : FnOk P w K mg base CX0 7 f fd ["total", "cumulants", "kind"] (spRB K) := by
  refine F.ok scRB (fun vs H Q E h => ?_) (fun cdv A outer s H vs Q E hr h => ?_)
  · obtain ⟨u, v, k, t, m, c, L, E, rfl, _⟩ := h
    rfl
  · obtain ⟨u, v, k, t, m, c, L, E, rfl, ft, pc, ⟨zm, zc, m0, t0, ot, l8, hm⟩, kk⟩ := h
    obtain ⟨og, mog, sog⟩ := O.ex
    obtain ⟨a, xs, rfl, sx, fx⟩ := id pc
    have lx := fx.len
    rw [rl_len] at lx
    refine ⟨_, C8.pss_cut (ps_set (i := 3) scRB.nd rfl (Or.inl rfl) (pe_lst (pa_cons (pe_glob (v := .ref og) (by rfl) mog rfl) pa_nil)))
      (C8.pss_cut (ps_for PassesOwn.never rfl (pi_range2 rfl T.range (pa_cons pe_int (pa_cons (pe_op op_add (pe_callB call_len_seq (by rfl) T.len (by decide +kernel) (pa_cons (pv 1) pa_nil)) pe_int) pa_nil))) (pg_name (i := 4) scRB.nd rfl (Or.inl rfl))
      (pss_one (ps_expr (pe_bm PySem.F.plainAttrs_list PySem.F.slot_list_append PySem.F.type_list_append mt_append (pv 3) (pa_cons (pe_n MF hr (by decide) (by rfl) (pa_cons (pv 2) (pa_cons (pv 3) (pa_cons (pv 1) (pa_cons (pv 4) pa_nil))))) pa_nil)))))
      (pss_one (ps_ret (pe_callTy call_tuple_of (by rfl) T.tuple (by decide +kernel) (pa_cons (pe_lc (own := [("moment", 5)]) (g := gName 5) (tt := tYes) rfl scRB.nd (pi_list (pv 3)) (blkOk_by (N := NRB) (sc := defScope sRB) (by decide +kernel))
          (fun _ _ _ _ _ => pg_name (i := 5) scRB.nd rfl (Or.inl rfl)) (fun _ _ _ _ _ => pts_nil)
          (fun _ _ _ _ _ => (pe_n TI hr (by decide) (by rfl) (pa_cons (pv 0) (pa_cons (pv 5) pa_nil))))) pa_nil))))), ?_⟩
    refine ⟨fun σ H1 => ∃ M, Same H H1 ∧ H M = none ∧ PoL K H1 (.ref M) (rl m 1) ∧ σ = [some u, some (.ref a), some (.str (kdS k)), some (.ref M), none, none], ?_, ?_⟩
    · refine ⟨(by show 1 ≤ sizeLine; decide), fun M hM => ⟨M, same_new hM, hM, ⟨M, _, rfl, upd_same, ?_⟩, rfl⟩⟩
      rw [show rl m 1 = [(1, 1)] by unfold rl; rw [show List.range 1 = [0] from rfl, List.map_singleton, m0]; rfl]
      exact .cons ⟨og, rfl, sog _⟩ .nil
    rintro σ H1 ⟨M, s1, nM, pM, rfl⟩
    refine ⟨fun σ H3 => ∃ v4, Same H H3 ∧ PoL K H3 (.ref M) (rl m (L + 1)) ∧ σ = [some u, some (.ref a), some (.str (kdS k)), some (.ref M), v4, none], ?_, ?_⟩
    · refine ⟨_, rfl, a, xs, rfl, .inr (Bs.Same.t s1 sx), _, _, rfl, rfl, _, _, rfl, ⟨by omega, by omega, by omega, by omega⟩, for_range (lo := 1) (n := ((xs.length : Int) + 1 - 1).toNat) (fun i σ H3 => ∃ v4, Same H H3 ∧ PoL K H3 (.ref M) (rl m (i + 1)) ∧ σ = [some u, some (.ref a), some (.str (kdS k)), some (.ref M), v4, none])
        ⟨none, s1, pM, rfl⟩ ?_ ?_⟩
      · rintro i σ H3 hi ⟨v4, s3, pM3, rfl⟩
        have es : (1 : Int) + (i : Nat) = ((i + 1 : Nat) : Int) := by omega
        rw [es]
        have il : i + 1 ≤ L := by omega
        obtain ⟨Ma, ms, eM, gM, fM⟩ := id pM3
        cases eM
        have lm := fM.len
        rw [rl_len] at lm
        refine ⟨_, rfl, .inl ⟨rfl, _, SqL.of gM⟩, _, rfl, _, rfl, _, rfl, _, rfl, k, _, _, E, m, c, i + 1, L, i + 1, rfl, pM3, Po.mono s3 pc, zm, zc, by omega, by omega, Nat.le_refl _, by omega, l8, fun H4 u s4 fu => ?_⟩
        rw [Nat.min_eq_left il, hm (i + 1) (by omega) il] at fu
        have g6 := s4 _ _ gM
        refine ⟨M, ms, _, rfl, rfl, g6, small1000 (by omega), _, fun b o e => (upd_ne (ne_of_none e nM)).trans (s4 b o (s3 b o e)), ⟨M, _, rfl, upd_same, ?_⟩, rfl⟩
        rw [rl_succ]
        exact (FrAll.off g6 (fM.mono s4)).snoc (fu.off g6)
      · rintro σ H3 ⟨v4, s3, pM3, rfl⟩
        rw [show ((xs.length : Int) + 1 - 1).toNat = L by omega] at pM3
        exact ⟨v4, s3, pM3, rfl⟩
    rintro σ H3 ⟨v4, s3, ⟨Ma, ms, eM, gM, fM⟩, rfl⟩
    cases eM
    have lm := fM.len
    rw [rl_len] at lm
    refine ⟨_, rfl, M, rfl, ⟨_, SqL.of gM⟩, fun D hD => lc_list (K := K) (a := M) (xs := ms) (fun i H4 => Same H3 H4 ∧ ∃ vs, H4 D = some (.lst vs) ∧ FrAll K H4 vs (rl (fun i => t * m i) i)) ⟨same_new hD, [], upd_same, .nil⟩ (fun i H4 _ z => SqL.of (z.1 _ _ gM)) ?_ ?_⟩
    · rintro i x H4 hx ⟨s4, vs, hD4, fv⟩
      have hi : i < ms.length := (List.getElem?_eq_some_iff.mp hx).1
      obtain ⟨y, q, g2, g3, g4⟩ := fM.get (i := i) (by rw [rl_len]; omega)
      rw [hx] at g2
      cases g2
      rw [rl_get (by omega)] at g3
      cases g3
      have lv := fv.len
      rw [rl_len] at lv
      refine ⟨rfl, ?_⟩
      refine iteT (B := Same H3 H4 ∧ ∃ vs, H4 D = some (.lst vs) ∧ FrAll K H4 vs (rl (fun i => t * m i) (i + 1))) ?_
      refine ⟨_, rfl, _, rfl, u, x, _, _, rfl, ft.mono (s3.trans s4), g4.mono s4, ⟨ot, zm.dm i⟩, fun p hp => ?_⟩
      have s5 := same_new (o := fr (mul (rf t) (rf (m i)))) hp
      have g5 := s5 _ _ hD4
      refine ⟨vs, g5, small1000 (by omega), fun c o e => (upd_ne (ne_of_none e hD)).trans (s5 c o (s4 c o e)), _, upd_same, ?_⟩
      have e1 : mul (rf t) (rf (m i)) = rf (t * m i) := rf_eq (ok_mul' (rf_ok _).1 (rf_ok _).1) (by rw [val_mul (rf_ok _).1 (rf_ok _).1, rf_val, rf_val])
      rw [rl_succ, ← e1]
      exact (FrAll.off g5 (fv.mono s5)).snoc ((Fr.of upd_same).off g5)
    · rintro H4 ⟨s4, vs, hD4, fv⟩
      rw [lm] at fv
      refine ⟨D, vs, rfl, .inl ⟨SqL.of hD4, fun p hp => ?_⟩⟩
      have s5 := same_new (o := .tup vs) hp
      exact kk _ p ((s3.trans s4).trans s5) ⟨p, vs, rfl, SqT.of upd_same, fv.mono s5⟩
theorem scRO : FnScope ["total", "cumulants", "kind"] ["total", "cumulants", "kind"] (defScope sRO) := ⟨rfl, rfl, rfl, by decide +kernel, rfl, by decide +kernel, by decide +kernel⟩
theorem ok_ro (F : Fun K "row_of_cumulants" "row_of_cumulants" sRO f fd) (NP : Cal P w K mg base 4 "need_positive" (spNP0 K)) (NC : Cal P w K mg base 4 "need_cumulants" (spNC0 K)) (RB : Cal P w K mg base 7 "row_by_cumulants" (spRB K)) (NK : Cal P w K mg base 1 "need_kind" spNeedKind) : FnOk P w K mg base CX0 8 f fd ["total", "cumulants", "kind"] (spRB K) := by
  refine F.ok scRO (fun vs H Q E h => ?_) (fun cdv A outer s H vs Q E hr h => ?_)
  · obtain ⟨u, v, k, t, m, c, L, E, rfl, _⟩ := h
    rfl
  · obtain ⟨u, v, k, t, m, c, L, E, rfl, ft, pc, hy, kk⟩ := h
    have hy' := hy
    obtain ⟨zm, zc, m0, t0, ot, l8, hm⟩ := hy'
    refine ⟨_, pss_cons (ps_expr (pe_n NP hr (by decide) (by rfl) (pa_cons (pv 0) pa_nil)))
      (pss_cons (ps_expr (pe_n NC hr (by decide) (by rfl) (pa_cons (pv 1) pa_nil)))
      (pss_one (ps_ret (pe_n RB hr (by decide) (by rfl) (pa_cons (pv 0) (pa_cons (pv 1) (pa_cons (pe_n NK hr (by decide) (by rfl) (pa_cons (pv 2) pa_nil)) pa_nil))))))), ?_⟩
    refine ⟨_, rfl, u, _, rfl, ft.dp, ?_, _, rfl, v, _, rfl, pc.dp, fracs_rl l8, fun H1 s1 => ⟨_, rfl, _, rfl, _, rfl, k, rfl, u, v, k, t, m, c, L, E, rfl, ft.mono s1, Po.mono s1 pc, hy, fun H2 a s2 q => kk H2 a (s1.trans s2) q⟩⟩
    show (fracD (dF (rf t)) && decide (0 < (rf t).1)) = true
    rw [fracD_dF (rf_ok _), decide_eq_true (rf_pos t0)]
    rfl
end
end Rs


set_option Elab.async false
set_option linter.all false
set_option maxRecDepth 100000
set_option maxHeartbeats 1000000
namespace Cu
open Fq Pg Rs
theorem fold_pT (g : Nat → Rat) : ∀ (ls : List Nat) (w : Rat), ls.foldl (fun w l => w * g l) w = w * pT g ls
  | [], w => by show w = w * 1; grind
  | l :: ls, w => by
    show ls.foldl _ (w * g l) = w * (pT g ls * g l)
    rw [fold_pT g ls]
    grind
def pl (g : Nat → Rat) (p : Prt) (i : Nat) : Rat := ((lns p).take i).foldl (fun w l => w * g l) 1
theorem lns_get {p : Prt} {i : Nat} {b : Blk} (h : p[i]? = some b) : (lns p)[i]? = some b.length := by
  unfold lns
  rw [List.getElem?_map, h]
  rfl
theorem pl_succ {g : Nat → Rat} {p : Prt} {i : Nat} {b : Blk} (h : p[i]? = some b) : pl g p (i + 1) = pl g p i * g b.length := by
  unfold pl
  have h2 := lns_get h
  rw [List.take_succ, h2, List.foldl_append]
  rfl
theorem pl_all (g : Nat → Rat) (p : Prt) : pl g p p.length = pT g (lns p) := by
  unfold pl
  rw [List.take_of_length_le (by unfold lns; rw [List.length_map]; exact Nat.le_refl _), fold_pT]
  grind
theorem pl_ov {D : Int} {g : Nat → Rat} (z : Sz D g) (p : Prt) : ∀ i, i ≤ p.length → Ov (D ^ i) (170 * i) (pl g p i)
  | 0, _ => by rw [Int.pow_zero]; exact Ov.one
  | i + 1, h => by
    have hb : p[i]? = some p[i] := List.getElem?_eq_getElem (by omega)
    rw [pl_succ hb, Int.pow_succ]
    exact ((pl_ov z p i (by omega)).mul (z.o _)).mono (by omega)
theorem pT_ov {D : Int} {g : Nat → Rat} (z : Sz D g) {p : Prt} (h : p.length ≤ 8) : Ov (D ^ 8) 1360 (pT g (lns p)) := by
  rw [← pl_all]
  exact (ov_up z (pl_ov z p p.length (Nat.le_refl _)) h).mono (by omega)
theorem sumT_perm (c : Nat → Rat) {a b : List (List Nat)} (h : a.Perm b) : sumT c a = sumT c b := by
  induction h with
  | nil => rfl
  | cons x _ ih => show sumT c _ + _ = sumT c _ + _; rw [ih]
  | swap x y l => show sumT c l + _ + _ = sumT c l + _ + _; grind
  | trans _ _ h1 h2 => rw [h1, h2]
theorem sumS_perm (c : Nat → Rat) {a b : List (Int × List Nat)} (h : a.Perm b) : sumS c a = sumS c b := by
  induction h with
  | nil => rfl
  | cons x _ ih => show sumS c _ + _ = sumS c _ + _; rw [ih]
  | swap x y l => show sumS c l + _ + _ = sumS c l + _ + _; grind
  | trans _ _ h1 h2 => rw [h1, h2]
/-- what is summed so far -/
def su (f : Prt → Rat) (ps : List Prt) (i : Nat) : Rat := (ps.take i).foldl (fun w p => w + f p) 0
theorem su_succ {f : Prt → Rat} {ps : List Prt} {i : Nat} {p : Prt} (h : ps[i]? = some p) : su f ps (i + 1) = su f ps i + f p := by
  unfold su
  rw [List.take_succ, h, List.foldl_append]
  rfl
theorem su_ov {D : Int} {n : Nat} {f : Prt → Rat} {ps : List Prt} (h : ∀ p ∈ ps, Ov D n (f p)) : ∀ i, i ≤ ps.length → Ov D (n + i) (su f ps i)
  | 0, _ => Ov.zero
  | i + 1, hi => by
    have hb : ps[i]? = some ps[i] := List.getElem?_eq_getElem (by omega)
    rw [su_succ hb]
    exact (su_ov h i (by omega)).add ((h _ (List.getElem_mem _)).mono (by omega))
theorem foldl_T (c : Nat → Rat) : ∀ (ps : List Prt) (w : Rat), ps.foldl (fun w p => w + pT c (lns p)) w = w + sumT c (ps.map lns)
  | [], w => by show w = w + 0; grind
  | p :: ps, w => by
    show ps.foldl _ (w + _) = w + (sumT c _ + _)
    rw [foldl_T c ps]
    grind
theorem foldl_S (k : Kd) (c : Nat → Rat) : ∀ (ps : List Prt) (w : Rat), ps.foldl (fun w p => w + (signB k p : Rat) * pT c (lns p)) w = w + sumS c (ps.map fun p => (signB k p, lns p))
  | [], w => by show w = w + 0; grind
  | p :: ps, w => by
    show ps.foldl _ (w + _) = w + (sumS c _ + _)
    rw [foldl_S k c ps]
    grind
theorem su_T (k : Kd) (c : Nat → Rat) (n : Nat) : su (fun p => pT c (lns p)) (sortW (partsOf k n)) (sortW (partsOf k n)).length = Pk k c n := by
  unfold su Pk
  rw [List.take_length, foldl_T, sumT_perm c ((sortW_perm (partsOf k n)).map lns)]
  grind
theorem su_S (k : Kd) (c : Nat → Rat) (n : Nat) : su (fun p => (signB k p : Rat) * pT c (lns p)) (sortW (partsOf k n)) (sortW (partsOf k n)).length = Sk k c n := by
  unfold su Sk
  rw [List.take_length, foldl_S, sumS_perm c ((sortW_perm (partsOf k n)).map _)]
  grind
/-- blocks and their sizes -/
def blkOk (n : Nat) (p : Prt) : Bool := decide (p.length ≤ 8) && p.all fun b => decide (1 ≤ b.length) && decide (b.length ≤ n)
theorem blk_all : ∀ n ∈ [0, 1, 2, 3, 4, 5, 6], ∀ k ∈ kds, (partsOf k n).all (blkOk n) = true := by decide +kernel
theorem sgn_all : ∀ n ∈ [0, 1, 2, 3, 4, 5], ∀ k ∈ kds, (partsOf k n).all (fun p => gdB p && decide ((signB k p).natAbs ≤ 32)) = true := by decide +kernel
theorem kd_mem (k : Kd) : k ∈ kds := by cases k <;> decide
theorem blk_at {n : Nat} {k : Kd} (hn : n ≤ 6) {p : Prt} (h : p ∈ sortW (partsOf k n)) : p.length ≤ 8 ∧ ∀ b ∈ p, 1 ≤ b.length ∧ b.length ≤ n := by
  have h1 := List.all_eq_true.mp (blk_all n (by simp; omega) k (kd_mem k)) p ((sortW_perm _).mem_iff.mp h)
  unfold blkOk at h1
  rw [Bool.and_eq_true, decide_eq_true_eq, List.all_eq_true] at h1
  refine ⟨h1.1, fun b hb => ?_⟩
  have := h1.2 b hb
  rwa [Bool.and_eq_true, decide_eq_true_eq, decide_eq_true_eq] at this
theorem sgn_at {n : Nat} {k : Kd} (hn : n ≤ 5) {p : Prt} (h : p ∈ sortW (partsOf k n)) : gdB p = true ∧ (signB k p).natAbs ≤ 32 := by
  have h1 := List.all_eq_true.mp (sgn_all n (by simp; omega) k (kd_mem k)) p ((sortW_perm _).mem_iff.mp h)
  rwa [Bool.and_eq_true, decide_eq_true_eq] at h1
theorem int_cb {x : Int} {b : Nat} (h : x.natAbs ≤ 2 ^ b) : Cb 1 b (x, 1) ∧ val (x, 1) = (x : Rat) := by
  have e : val (x, 1) = (x : Rat) := by
    show (x : Rat) / ((1 : Int) : Rat) = _
    rw [show ((1 : Int) : Rat) = 1 from rfl, Rat.div_def]
    grind
  refine ⟨⟨⟨by show (0 : Int) < 1; decide, by show Nat.gcd x.natAbs 1 = 1; exact Nat.gcd_one_right _⟩, x, ?_, h⟩, e⟩
  rw [e]
  show _ * ((1 : Int) : Rat) = _
  rw [show ((1 : Int) : Rat) = 1 from rfl]
  grind
theorem szA_f : ∀ n ∈ [0, 1, 2, 3, 4, 5, 6], szAll .free n = true := by decide +kernel
theorem szA_s : ∀ n ∈ [0, 1, 2, 3, 4, 5, 6], szAll .str n = true := by decide +kernel
theorem szA_a : ∀ n ∈ [0, 1, 2, 3, 4, 5, 6], szAll .all n = true := by decide +kernel
theorem sz_any6 {k : Kd} {n : Nat} (h : n ≤ 6) : szAll k n = true := by
  have h6 : n ∈ [0, 1, 2, 3, 4, 5, 6] := by simp; omega
  cases k with
  | all => exact szA_a n h6
  | free => exact szA_f n h6
  | str => exact szA_s n h6
theorem len_sort {k : Kd} {n : Nat} (h : n ≤ 6) : (sortW (partsOf k n)).length ≤ 1000 := by
  rw [(sortW_perm _).length_eq]
  exact (sza_at (sz_any6 (k := k) h)).2.2.1
end Cu
namespace Rs
open PySem PySem.Spec PyProof.Rows L2 Bs Fq LamX RZ Cu Pg
structure MostN (mg : Str → Option Value) : Prop where
  ex : ∃ t, mg "MOST_NUMBERS" = some (.int 7 t)
abbrev sBP : Stmt := top 55
abbrev sMB : Stmt := top 56
abbrev sCY : Stmt := top 57
abbrev NBP : List Str := ["parting", "some", "whole", "block"]
abbrev NMB : List Str := ["kind", "cumulants", "many", "some", "whole", "parting"]
abbrev NCY : List Str := ["row", "kind", "many", "moments", "whole", "parting"]
def spBPT (K : PySem.W.Frag) : Sp := fun vs H Q _ => ∃ (v u : V) (p : Prt) (g : Nat → Rat) (J : Nat) (D : Int), vs = [v, u] ∧ Pt K H v p ∧ Po K H u (rl g J) ∧ Sz D g ∧ p.length ≤ 8 ∧ (∀ b ∈ p, b.length < J) ∧ ∀ H' y, Same H H' → Fr K H' y (rf (pT g (lns p))) → Q y H'
def spBPL (K : PySem.W.Frag) : Sp := fun vs H Q _ => ∃ (v u : V) (p : Prt) (g : Nat → Rat) (J : Nat) (D : Int), vs = [v, u] ∧ Pt K H v p ∧ PoL K H u (rl g J) ∧ Sz D g ∧ p.length ≤ 8 ∧ (∀ b ∈ p, b.length < J) ∧ ∀ H' y, Same H H' → Fr K H' y (rf (pT g (lns p))) → Q y H'
/-- a cumulant is told by its number, one for the empty block -/
def g1 (c : Nat → Rat) : Nat → Rat := fun i => if i = 0 then 1 else c i
def spMB (K : PySem.W.Frag) : Sp := fun vs H Q _ => ∃ (v : V) (k : Kd) (c : Nat → Rat) (L n : Nat) (D : Int), vs = [.str (kdS k), v, .int (n : Nat)] ∧ Po K H v (rl (fun i => c (i + 1)) L) ∧ Sz D (g1 c) ∧ n ≤ L ∧ L ≤ 8 ∧ n ≤ 6 ∧ ∀ H' y, Same H H' → Fr K H' y (rf (Pk k (g1 c) n)) → Q y H'
def spCY (K : PySem.W.Frag) : Sp := fun vs H Q _ => ∃ (v : V) (k : Kd) (ρ : Nat → Rat) (L n : Nat) (D E : Int), vs = [v, .str (kdS k), .int (n : Nat)] ∧ Po K H v (rl ρ L) ∧ Rwc ρ L D ∧ Sz E (um ρ) ∧ 1 ≤ n ∧ n < L ∧ n ≤ 5 ∧ ∀ H' y, Same H H' → Fr K H' y (rf (Sk k (um ρ) n)) → Q y H'
section
variable {P : Program} {w : World} {K : PySem.W.Frag} {mg : Str → Option Value} {base : Heap} {f : Addr} {fd : FuncData}
theorem scBP : FnScope NBP ["parting", "some"] (defScope sBP) := ⟨rfl, rfl, rfl, by decide +kernel, rfl, by decide +kernel, by decide +kernel⟩
theorem ok_bpT (F : Fun K "block_product" "block_product" sBP f fd) (T : Blt mg) (O : OneG K mg) (TI : Cal P w K mg base 2 "timed" (spOp K mul dom2)) : FnOk P w K mg base CX0 3 f fd ["parting", "some"] (spBPT K) := by
  refine F.ok scBP (fun vs H Q E h => ?_) (fun cdv A outer s H vs Q E hr h => ?_)
  · obtain ⟨v, u, p, g, J, D, rfl, _⟩ := h
    rfl
  · obtain ⟨v, u, p, g, J, D, rfl, ⟨a, xs, rfl, sx, al⟩, ⟨b, ys, rfl, gy, fy⟩, z, p8, hb, kk⟩ := h
    obtain ⟨og, mog, sog⟩ := O.ex
    have lx := al.len
    refine ⟨_, pss_cons (ps_set (i := 2) scBP.nd rfl (Or.inl rfl) (pe_glob (v := .ref og) (by rfl) mog rfl))
      (C8.pss_cut (ps_for PassesOwn.never rfl (pi_tup (pv 0)) (pg_name (i := 3) scBP.nd rfl (Or.inl rfl))
      (pss_one (ps_set (i := 2) scBP.nd rfl (Or.inl rfl) (pe_n TI hr (by decide) (by rfl) (pa_cons (pv 2) (pa_cons (pe_ix ix_tup (pv 1) (pe_callB call_len_seq (by rfl) T.len (by decide +kernel) (pa_cons (pv 3) pa_nil)) (fun _ _ => rfl)) pa_nil))))))
      (pss_one (ps_ret (pv 2)))), ?_⟩
    refine ⟨fun σ H1 => ∃ y v3, Same H H1 ∧ Fr K H1 y (rf (pT g (lns p))) ∧ σ = [some (.ref a), some (.ref b), some y, v3], ?_, ?_⟩
    · refine ⟨_, rfl, a, rfl, ⟨_, sx⟩, for_tup (K := K) (a := a) (xs := xs) (fun i σ H1 => ∃ y v3, Same H H1 ∧ Fr K H1 y (rf (pl g p i)) ∧ σ = [some (.ref a), some (.ref b), some y, v3]) ⟨_, none, fun _ _ z => z, ⟨og, rfl, sog _⟩, rfl⟩ (fun i σ H1 _ q => by
        obtain ⟨_, _, s1, _⟩ := q
        exact Bs.Same.t s1 sx) ?_ ?_⟩
      · rintro i x σ H1 hx ⟨y, v3, s1, fy1, rfl⟩
        obtain ⟨bl, hbl, c, rfl, sc⟩ := al.get hx
        have hl := hb bl (List.mem_of_getElem? hbl)
        obtain ⟨y2, q, h1, h2, h3⟩ := fy.get (i := bl.length) (by rw [rl_len]; exact hl)
        rw [rl_get hl] at h2
        cases h2
        have il : i < p.length := (List.getElem?_eq_some_iff.mp hbl).1
        have e0 : ((bl.map V.int).length : Int) = (bl.length : Nat) := by rw [List.length_map]
        refine ⟨_, rfl, _, rfl, _, rfl, c, _, rfl, .inr (Bs.Same.t s1 sc), b, ys, _, y2, rfl, rfl, Bs.Same.t s1 gy, by rw [e0]; exact atI_nat h1, y, y2, _, _, rfl, fy1, h3.mono s1, ⟨cb_dm (rf_cb (pl_ov z p i (by omega))) (z.bd (by omega) (by omega)), z.dm _⟩, fun q hq => ?_⟩
        have s2 := same_new (o := fr (mul (rf (pl g p i)) (rf (g bl.length)))) hq
        refine ⟨_, _, s1.trans s2, ?_, rfl⟩
        have e1 : mul (rf (pl g p i)) (rf (g bl.length)) = rf (pl g p (i + 1)) := rf_eq (ok_mul' (rf_ok _).1 (rf_ok _).1) (by rw [val_mul (rf_ok _).1 (rf_ok _).1, rf_val, rf_val, pl_succ hbl])
        rw [← e1]
        exact Fr.of upd_same
      · rintro σ H1 ⟨y, v3, s1, fy1, rfl⟩
        rw [lx, pl_all] at fy1
        exact ⟨y, v3, s1, fy1, rfl⟩
    rintro σ H1 ⟨y, v3, s1, fy1, rfl⟩
    exact ⟨_, rfl, kk H1 y s1 fy1⟩
theorem ok_bpL (F : Fun K "block_product" "block_product" sBP f fd) (T : Blt mg) (O : OneG K mg) (TI : Cal P w K mg base 2 "timed" (spOp K mul dom2)) : FnOk P w K mg base CX0 3 f fd ["parting", "some"] (spBPL K) := by
  refine F.ok scBP (fun vs H Q E h => ?_) (fun cdv A outer s H vs Q E hr h => ?_)
  · obtain ⟨v, u, p, g, J, D, rfl, _⟩ := h
    rfl
  · obtain ⟨v, u, p, g, J, D, rfl, ⟨a, xs, rfl, sx, al⟩, ⟨b, ys, rfl, gy, fy⟩, z, p8, hb, kk⟩ := h
    obtain ⟨og, mog, sog⟩ := O.ex
    have lx := al.len
    refine ⟨_, pss_cons (ps_set (i := 2) scBP.nd rfl (Or.inl rfl) (pe_glob (v := .ref og) (by rfl) mog rfl))
      (C8.pss_cut (ps_for PassesOwn.never rfl (pi_tup (pv 0)) (pg_name (i := 3) scBP.nd rfl (Or.inl rfl))
      (pss_one (ps_set (i := 2) scBP.nd rfl (Or.inl rfl) (pe_n TI hr (by decide) (by rfl) (pa_cons (pv 2) (pa_cons (pe_ix ix_list (pv 1) (pe_callB call_len_seq (by rfl) T.len (by decide +kernel) (pa_cons (pv 3) pa_nil)) (fun _ _ => rfl)) pa_nil))))))
      (pss_one (ps_ret (pv 2)))), ?_⟩
    refine ⟨fun σ H1 => ∃ y v3, Same H H1 ∧ Fr K H1 y (rf (pT g (lns p))) ∧ σ = [some (.ref a), some (.ref b), some y, v3], ?_, ?_⟩
    · refine ⟨_, rfl, a, rfl, ⟨_, sx⟩, for_tup (K := K) (a := a) (xs := xs) (fun i σ H1 => ∃ y v3, Same H H1 ∧ Fr K H1 y (rf (pl g p i)) ∧ σ = [some (.ref a), some (.ref b), some y, v3]) ⟨_, none, fun _ _ z => z, ⟨og, rfl, sog _⟩, rfl⟩ (fun i σ H1 _ q => by
        obtain ⟨_, _, s1, _⟩ := q
        exact Bs.Same.t s1 sx) ?_ ?_⟩
      · rintro i x σ H1 hx ⟨y, v3, s1, fy1, rfl⟩
        obtain ⟨bl, hbl, c, rfl, sc⟩ := al.get hx
        have hl := hb bl (List.mem_of_getElem? hbl)
        obtain ⟨y2, q, h1, h2, h3⟩ := fy.get (i := bl.length) (by rw [rl_len]; exact hl)
        rw [rl_get hl] at h2
        cases h2
        have il : i < p.length := (List.getElem?_eq_some_iff.mp hbl).1
        have e0 : ((bl.map V.int).length : Int) = (bl.length : Nat) := by rw [List.length_map]
        refine ⟨_, rfl, _, rfl, _, rfl, c, _, rfl, .inr (Bs.Same.t s1 sc), b, ys, _, y2, rfl, rfl, SqL.of (s1 _ _ gy), by rw [e0]; exact atI_nat h1, y, y2, _, _, rfl, fy1, h3.mono s1, ⟨cb_dm (rf_cb (pl_ov z p i (by omega))) (z.bd (by omega) (by omega)), z.dm _⟩, fun q hq => ?_⟩
        have s2 := same_new (o := fr (mul (rf (pl g p i)) (rf (g bl.length)))) hq
        refine ⟨_, _, s1.trans s2, ?_, rfl⟩
        have e1 : mul (rf (pl g p i)) (rf (g bl.length)) = rf (pl g p (i + 1)) := rf_eq (ok_mul' (rf_ok _).1 (rf_ok _).1) (by rw [val_mul (rf_ok _).1 (rf_ok _).1, rf_val, rf_val, pl_succ hbl])
        rw [← e1]
        exact Fr.of upd_same
      · rintro σ H1 ⟨y, v3, s1, fy1, rfl⟩
        rw [lx, pl_all] at fy1
        exact ⟨y, v3, s1, fy1, rfl⟩
    rintro σ H1 ⟨y, v3, s1, fy1, rfl⟩
    exact ⟨_, rfl, kk H1 y s1 fy1⟩
theorem scMB : FnScope NMB ["kind", "cumulants", "many"] (defScope sMB) := ⟨rfl, rfl, rfl, by decide +kernel, rfl, by decide +kernel, by decide +kernel⟩
theorem ok_mb (F : Fun K "moment_by" "moment_by" sMB f fd) (T : Blt mg) (O : OneG K mg) (Z : Nou K mg) (M7 : MostN mg) (NK : Cal P w K mg base 1 "need_kind" spNeedKind) (NC : Cal P w K mg base 4 "need_cumulants" (spNC0 K)) (NB : Cal P w K mg base 3 "need_between" (spNeedB0 K)) (PO : Cal P w K mg base 4 "partings_of" (spPartsOf K)) (BP : Cal P w K mg base 3 "block_product" (spBPT K)) (AD : Cal P w K mg base 2 "added" (spOp K add dom2)) : FnOk P w K mg base CX0 5 f fd ["kind", "cumulants", "many"] (spMB K) := by
  refine F.ok scMB (fun vs H Q E h => ?_) (fun cdv A outer s H vs Q E hr h => ?_)
  · obtain ⟨v, k, c, L, n, D, rfl, _⟩ := h
    rfl
  · obtain ⟨v, k, c, L, n, D, rfl, pc, zg, nL, L8, n6, kk⟩ := h
    obtain ⟨a, xs, rfl, sx, fx⟩ := id pc
    obtain ⟨og, mog, sog⟩ := O.ex
    obtain ⟨z, mz, sz⟩ := Z.ex
    obtain ⟨t7, m7⟩ := M7.ex
    have lx := fx.len
    rw [rl_len] at lx
    refine ⟨_, pss_cons (ps_expr (pe_n NK hr (by decide) (by rfl) (pa_cons (pv 0) pa_nil)))
      (pss_cons (ps_expr (pe_n NC hr (by decide) (by rfl) (pa_cons (pv 1) pa_nil)))
      (pss_cons (ps_expr (pe_n NB hr (by decide) (by rfl) (pa_cons (pv 2) (pa_cons pe_int (pa_cons (pe_callB (call_min2 rfl) (by rfl) T.min (by decide +kernel) (pa_cons (pe_glob (v := .int 7) (by rfl) m7 ⟨t7, rfl⟩) (pa_cons (pe_callB call_len_seq (by rfl) T.len (by decide +kernel) (pa_cons (pv 1) pa_nil)) pa_nil))) pa_nil)))))
      (C8.pss_cut (ps_set (i := 3) scMB.nd rfl (Or.inl rfl) (pe_op op_catA (pe_tup (pa_cons (pe_glob (v := .ref og) (by rfl) mog rfl) pa_nil)) (pv 1)))
      (pss_cons (ps_set (i := 4) scMB.nd rfl (Or.inl rfl) (pe_glob (v := .ref z) (by rfl) mz rfl))
      (C8.pss_cut (ps_for PassesOwn.never rfl (pi_tup (pe_n PO hr (by decide) (by rfl) (pa_cons (pv 0) (pa_cons (pv 2) pa_nil)))) (pg_name (i := 5) scMB.nd rfl (Or.inl rfl))
      (pss_one (ps_set (i := 4) scMB.nd rfl (Or.inl rfl) (pe_n AD hr (by decide) (by rfl) (pa_cons (pv 4) (pa_cons (pe_n BP hr (by decide) (by rfl) (pa_cons (pv 5) (pa_cons (pv 3) pa_nil))) pa_nil))))))
      (pss_one (ps_ret (pv 4)))))))), ?_⟩
    refine ⟨_, rfl, k, rfl, ?_⟩
    refine ⟨_, rfl, _, _, rfl, pc.dp, fracs_rl L8, fun H1 s1 => ?_⟩
    refine ⟨_, rfl, _, rfl, a, xs, rfl, .inr (Bs.Same.t s1 sx), _, _, rfl, ?_⟩
    refine ⟨.int (n : Nat), .int (n : Nat), 0, _, rfl, .int _, ?_, ?_⟩
    · unfold betwD
      rw [Bool.and_eq_true, decide_eq_true_eq, decide_eq_true_eq]
      have : ∀ l : Int, (n : Int) ≤ l → (n : Int) ≤ (if l < 7 then l else 7) := fun l hl => by split <;> omega
      exact ⟨by omega, this _ (by omega)⟩
    refine ⟨fun σ H2 => ∃ b, Same H H2 ∧ Po K H2 (.ref b) (rl (g1 c) (L + 1)) ∧ σ = [some (.str (kdS k)), some (.ref a), some (.int (n : Nat)), some (.ref b), none, none], ?_, ?_⟩
    · refine ⟨(by show 1 ≤ sizeLine; decide), fun p hp => ?_⟩
      have s2 := same_new (o := .tup [.ref og]) hp
      have s12 := s1.trans s2
      refine ⟨_, rfl, ?_⟩
      refine cat_any (SqT.of upd_same) (Bs.Same.t s12 sx) (Nat.le_of_lt (small1000 (by show 1 + xs.length ≤ 1000; omega))) fun b H2 s3 sb => ⟨b, s12.trans s3, ⟨b, _, rfl, sb, ?_⟩, rfl⟩
      have e : rl (g1 c) (L + 1) = (1, 1) :: rl (fun i => c (i + 1)) L := by
        unfold rl
        rw [List.range_succ_eq_map, List.map_cons, List.map_map]
        rfl
      rw [e]
      exact .cons ⟨og, rfl, sog _⟩ ((fx.mono s12).mono s3)
    rintro σ H2 ⟨b, s2, pb, rfl⟩
    refine ⟨fun σ H3 => ∃ y v5, Same H H3 ∧ Fr K H3 y (rf (Pk k (g1 c) n)) ∧ σ = [some (.str (kdS k)), some (.ref a), some (.int (n : Nat)), some (.ref b), some y, v5], ?_, ?_⟩
    · refine ⟨_, rfl, _, rfl, k, n, rfl, sz_any6 n6, by omega, fun H3 L3 ys s3 q3 al => ?_⟩
      have s23 := s2.trans s3
      refine ⟨L3, rfl, ⟨_, q3⟩, for_tup (K := K) (a := L3) (xs := ys) (fun i σ H4 => ∃ y v5, Same H3 H4 ∧ Fr K H4 y (rf (su (fun p => pT (g1 c) (lns p)) (sortW (partsOf k n)) i)) ∧ σ = [some (.str (kdS k)), some (.ref a), some (.int (n : Nat)), some (.ref b), some y, v5]) ⟨.ref z, none, fun _ _ z => z, ⟨z, rfl, sz _⟩, rfl⟩ (fun i σ H4 _ q => by
        obtain ⟨_, _, s4, _⟩ := q
        exact Bs.Same.t s4 q3) ?_ ?_⟩
      · rintro i x σ H4 hx ⟨y, v5, s4, fy, rfl⟩
        obtain ⟨p, hp, pp⟩ := al.get hx
        have mp := List.mem_of_getElem? hp
        obtain ⟨p8, hb⟩ := blk_at n6 mp
        have il : i < (sortW (partsOf k n)).length := (List.getElem?_eq_some_iff.mp hp).1
        have l1000 := len_sort (k := k) n6
        have ovs := su_ov (D := D ^ 8) (n := 1360) (f := fun p => pT (g1 c) (lns p)) (ps := sortW (partsOf k n)) (fun p hp => pT_ov zg (blk_at n6 hp).1) i (by omega)
        refine ⟨_, rfl, _, rfl, _, rfl, x, _, p, g1 c, L + 1, D, rfl, pp.mono s4, Po.mono (s3.trans s4) pb, zg, p8, fun b hb' => by have := (hb b hb').2; omega, fun H5 u s5 fu => ?_⟩
        refine ⟨y, u, _, _, rfl, fy.mono s5, fu, ⟨cb_dm (rf_cb ovs) (zg.bd (by omega) (by omega)), cb_dm (rf_cb (pT_ov zg p8)) (zg.bd (by omega) (by omega))⟩, fun q hq => ?_⟩
        have s6 := same_new (o := fr (add (rf (su (fun p => pT (g1 c) (lns p)) (sortW (partsOf k n)) i)) (rf (pT (g1 c) (lns p))))) hq
        refine ⟨_, _, (s4.trans s5).trans s6, ?_, rfl⟩
        have e1 : add (rf (su (fun p => pT (g1 c) (lns p)) (sortW (partsOf k n)) i)) (rf (pT (g1 c) (lns p))) = rf (su (fun p => pT (g1 c) (lns p)) (sortW (partsOf k n)) (i + 1)) := rf_eq (ok_add' (rf_ok _).1 (rf_ok _).1) (by rw [val_add (rf_ok _).1 (rf_ok _).1, rf_val, rf_val, su_succ hp])
        rw [← e1]
        exact Fr.of upd_same
      · rintro σ H4 ⟨y, v5, s4, fy, rfl⟩
        rw [al.len, su_T] at fy
        exact ⟨y, v5, s23.trans s4, fy, rfl⟩
    rintro σ H3 ⟨y, v5, s3, fy, rfl⟩
    exact ⟨_, rfl, kk H3 y s3 fy⟩
theorem scCY : FnScope NCY ["row", "kind", "many"] (defScope sCY) := ⟨rfl, rfl, rfl, by decide +kernel, rfl, by decide +kernel, by decide +kernel⟩
theorem ok_cy (F : Fun K "cumulant_by" "cumulant_by" sCY f fd) (T : Blt mg) (Z : Nou K mg) (M7 : MostN mg) (NR : Cal P w K mg base 5 "need_row" (spNR0 K)) (NK : Cal P w K mg base 1 "need_kind" spNeedKind) (NB : Cal P w K mg base 3 "need_between" (spNeedB0 K)) (UM : Cal P w K mg base 3 "unit_moments" (spUM K)) (PO : Cal P w K mg base 4 "partings_of" (spPartsOf K)) (BP : Cal P w K mg base 3 "block_product" (spBPL K)) (SB : Cal P w K mg base 3 "sign_by" (spSignBy K)) (AD : Cal P w K mg base 2 "added" (spOp K add dom2)) (TI : Cal P w K mg base 2 "timed" (spOp K mul dom2)) : FnOk P w K mg base CX0 6 f fd ["row", "kind", "many"] (spCY K) := by
  refine F.ok scCY (fun vs H Q E h => ?_) (fun cdv A outer s H vs Q E hr h => ?_)
  · obtain ⟨v, k, ρ, L, n, D, E, rfl, _⟩ := h
    rfl
  · obtain ⟨v, k, ρ, L, n, D, E, rfl, pc, R, zg, n1, nL, n5, kk⟩ := h
    obtain ⟨a, xs, rfl, sx, fx⟩ := id pc
    obtain ⟨z, mz, sz⟩ := Z.ex
    obtain ⟨t7, m7⟩ := M7.ex
    have lx := fx.len
    rw [rl_len] at lx
    have l9 := R.l9
    refine ⟨_, pss_cons (ps_expr (pe_n NR hr (by decide) (by rfl) (pa_cons (pv 0) pa_nil)))
      (pss_cons (ps_expr (pe_n NK hr (by decide) (by rfl) (pa_cons (pv 1) pa_nil)))
      (pss_cons (ps_expr (pe_n NB hr (by decide) (by rfl) (pa_cons (pv 2) (pa_cons pe_int (pa_cons (pe_callB (call_min2 rfl) (by rfl) T.min (by decide +kernel) (pa_cons (pe_glob (v := .int 7) (by rfl) m7 ⟨t7, rfl⟩) (pa_cons (pe_op op_sub (pe_callB call_len_seq (by rfl) T.len (by decide +kernel) (pa_cons (pv 0) pa_nil)) pe_int) pa_nil))) pa_nil)))))
      (C8.pss_cut (ps_set (i := 3) scCY.nd rfl (Or.inl rfl) (pe_n UM hr (by decide) (by rfl) (pa_cons (pv 0) pa_nil)))
      (pss_cons (ps_set (i := 4) scCY.nd rfl (Or.inl rfl) (pe_glob (v := .ref z) (by rfl) mz rfl))
      (C8.pss_cut (ps_for PassesOwn.never rfl (pi_tup (pe_n PO hr (by decide) (by rfl) (pa_cons (pv 1) (pa_cons (pv 2) pa_nil)))) (pg_name (i := 5) scCY.nd rfl (Or.inl rfl))
      (pss_one (ps_set (i := 4) scCY.nd rfl (Or.inl rfl) (pe_n AD hr (by decide) (by rfl) (pa_cons (pv 4) (pa_cons (pe_n TI hr (by decide) (by rfl) (pa_cons (pe_tup (pa_cons (pe_n SB hr (by decide) (by rfl) (pa_cons (pv 1) (pa_cons (pv 5) pa_nil))) (pa_cons pe_int pa_nil))) (pa_cons (pe_n BP hr (by decide) (by rfl) (pa_cons (pv 5) (pa_cons (pv 3) pa_nil))) pa_nil))) pa_nil))))))
      (pss_one (ps_ret (pv 4)))))))), ?_⟩
    refine ⟨_, rfl, _, _, rfl, pc.dp, rowD_rl R.p R.l1 R.l9, fun H1 s1 => ?_⟩
    refine ⟨_, rfl, k, rfl, ?_⟩
    refine ⟨_, rfl, _, rfl, a, xs, rfl, .inr (Bs.Same.t s1 sx), _, _, rfl, rfl, _, _, rfl, ?_⟩
    refine ⟨.int (n : Nat), .int (n : Nat), 1, _, rfl, .int _, ?_, ?_⟩
    · unfold betwD
      rw [Bool.and_eq_true, decide_eq_true_eq, decide_eq_true_eq]
      have : ∀ l : Int, (n : Int) ≤ l → (n : Int) ≤ (if l < 7 then l else 7) := fun l hl => by split <;> omega
      exact ⟨by omega, this _ (by omega)⟩
    refine ⟨fun σ H2 => ∃ b, Same H H2 ∧ PoL K H2 (.ref b) (rl (um ρ) L) ∧ σ = [some (.ref a), some (.str (kdS k)), some (.int (n : Nat)), some (.ref b), none, none], ?_, ?_⟩
    · exact ⟨_, rfl, _, ρ, L, D, rfl, Po.mono s1 pc, R, fun H2 b s2 pb => ⟨b, s1.trans s2, pb, rfl⟩⟩
    rintro σ H2 ⟨b, s2, pb, rfl⟩
    refine ⟨fun σ H3 => ∃ y v5, Same H H3 ∧ Fr K H3 y (rf (Sk k (um ρ) n)) ∧ σ = [some (.ref a), some (.str (kdS k)), some (.int (n : Nat)), some (.ref b), some y, v5], ?_, ?_⟩
    · refine ⟨_, rfl, _, rfl, k, n, rfl, sz_any6 (by omega), by omega, fun H3 L3 ys s3 q3 al => ?_⟩
      have s23 := s2.trans s3
      refine ⟨L3, rfl, ⟨_, q3⟩, for_tup (K := K) (a := L3) (xs := ys) (fun i σ H4 => ∃ y v5, Same H3 H4 ∧ Fr K H4 y (rf (su (fun p => (signB k p : Rat) * pT (um ρ) (lns p)) (sortW (partsOf k n)) i)) ∧ σ = [some (.ref a), some (.str (kdS k)), some (.int (n : Nat)), some (.ref b), some y, v5]) ⟨.ref z, none, fun _ _ z => z, ⟨z, rfl, sz _⟩, rfl⟩ (fun i σ H4 _ q => by
        obtain ⟨_, _, s4, _⟩ := q
        exact Bs.Same.t s4 q3) ?_ ?_⟩
      · rintro i x σ H4 hx ⟨y, v5, s4, fy, rfl⟩
        obtain ⟨p, hp, pp⟩ := al.get hx
        have mp := List.mem_of_getElem? hp
        obtain ⟨p8, hb⟩ := blk_at (by omega) mp
        obtain ⟨gd, sm⟩ := sgn_at n5 mp
        have il : i < (sortW (partsOf k n)).length := (List.getElem?_eq_some_iff.mp hp).1
        have l1000 := len_sort (k := k) (show n ≤ 6 by omega)
        have cbt : ∀ p ∈ sortW (partsOf k n), Ov (E ^ 8) (5 + 1360) ((signB k p : Rat) * pT (um ρ) (lns p)) := fun p hp => by
          have h1 := (int_cb (b := 5) (sgn_at n5 hp).2).1.v.mul (pT_ov zg (blk_at (by omega) hp).1)
          rwa [(int_cb (b := 5) (sgn_at n5 hp).2).2, Int.one_mul] at h1
        have ovs := su_ov cbt i (by omega)
        refine ⟨_, rfl, _, rfl, _, rfl, k, x, p, rfl, pp.mono s4, gd, fun H5 s5 => ⟨(by show 2 ≤ sizeLine; decide), fun t ht => ?_⟩⟩
        have s6 := same_new (o := .tup [.int (signB k p), .int 1]) ht
        have s56 := s5.trans s6
        refine ⟨_, rfl, _, rfl, x, _, p, um ρ, L, E, rfl, (pp.mono s4).mono s56, pb.mono ((s3.trans s4).trans s56), zg, p8, fun b hb' => by have := (hb b hb').2; omega, fun H7 u s7 fu => ?_⟩
        have f2 : Fr K H7 (.ref t) (signB k p, 1) := Fr.mono ⟨t, rfl, SqT.of upd_same⟩ s7
        refine ⟨.ref t, u, (signB k p, 1), _, rfl, f2, fu, ⟨cb_dm (int_cb (b := 5) sm).1 (Bd.of (by decide) (by decide) (by decide) (by decide) (N := 1)), cb_dm (rf_cb (pT_ov zg p8)) (zg.bd (by omega) (by omega))⟩, fun c1 hc1 => ?_⟩
        have s8 := same_new (o := fr (mul (signB k p, 1) (rf (pT (um ρ) (lns p))))) hc1
        have e0 : mul (signB k p, 1) (rf (pT (um ρ) (lns p))) = rf ((signB k p : Rat) * pT (um ρ) (lns p)) := rf_eq (ok_mul' (by show (0 : Int) < 1; decide) (rf_ok _).1) (by rw [val_mul (by show (0 : Int) < 1; decide) (rf_ok _).1, (int_cb (b := 5) sm).2, rf_val])
        refine ⟨y, .ref c1, _, _, rfl, (fy.mono (s56.trans s7)).mono s8, Fr.of upd_same, ⟨cb_dm (rf_cb ovs) (zg.bd (by omega) (by omega)), cb_dm (by rw [e0]; exact rf_cb (cbt p mp)) (zg.bd (by omega) (by omega))⟩, fun q hq => ?_⟩
        have s9 := same_new (o := fr (add (rf (su (fun p => (signB k p : Rat) * pT (um ρ) (lns p)) (sortW (partsOf k n)) i)) (mul (signB k p, 1) (rf (pT (um ρ) (lns p)))))) hq
        refine ⟨_, _, (((s4.trans s56).trans s7).trans s8).trans s9, ?_, rfl⟩
        have e1 : add (rf (su (fun p => (signB k p : Rat) * pT (um ρ) (lns p)) (sortW (partsOf k n)) i)) (mul (signB k p, 1) (rf (pT (um ρ) (lns p)))) = rf (su (fun p => (signB k p : Rat) * pT (um ρ) (lns p)) (sortW (partsOf k n)) (i + 1)) := by
          rw [e0]
          exact rf_eq (ok_add' (rf_ok _).1 (rf_ok _).1) (by rw [val_add (rf_ok _).1 (rf_ok _).1, rf_val, rf_val, su_succ hp])
        rw [← e1]
        exact Fr.of upd_same
      · rintro σ H4 ⟨y, v5, s4, fy, rfl⟩
        rw [al.len, su_S] at fy
        exact ⟨y, v5, s23.trans s4, fy, rfl⟩
    rintro σ H3 ⟨y, v5, s3, fy, rfl⟩
    exact ⟨_, rfl, kk H3 y s3 fy⟩
end
end Rs


set_option Elab.async false
set_option linter.all false
set_option maxRecDepth 100000
set_option maxHeartbeats 400000
/-! displays of data with names in them: one step each -/
namespace Dd
open PySem L2 Bs
abbrev RQ := L2.St → Hp → Prop
def tV (K : PySem.W.Frag) (R : RQ) (d : PyData) : TE := fun σ H Q => R σ H ∧ ∀ v H', Same H H' → Dp K H' v d → Q v H'
def tVs (K : PySem.W.Frag) (R : RQ) (ds : List PyData) : TA := fun σ H Q => R σ H ∧ ∀ vs H', Same H H' → DpAll K H' vs ds → Q vs H'
def rT : RQ := fun _ _ => True
def rS (K : PySem.W.Frag) (i : Nat) (d : PyData) : RQ := fun σ H => ∃ v, σ[i]? = some (some v) ∧ Dp K H v d
def rA (R S : RQ) : RQ := fun σ H => R σ H ∧ S σ H
def Mo (R : RQ) : Prop := ∀ σ H H', Same H H' → R σ H → R σ H'
theorem mo_T : Mo rT := fun _ _ _ _ _ => trivial
theorem mo_S {K : PySem.W.Frag} {i : Nat} {d : PyData} : Mo (rS K i d) := fun _ _ _ e ⟨v, h, g⟩ => ⟨v, h, dp_same e d v g⟩
theorem mo_A {R S : RQ} (h : Mo R) (g : Mo S) : Mo (rA R S) := fun σ H H' e ⟨a, b⟩ => ⟨h σ H H' e a, g σ H H' e b⟩
theorem reps_dp {K : PySem.W.Frag} {H : Hp} {xs : List V} {ds : List PyData} (h : DpAll K H xs ds) : ∀ n, DpAll K H (List.replicate n xs).flatten (List.replicate n ds).flatten
  | 0 => .nil
  | n + 1 => by
    rw [List.replicate_succ, List.flatten_cons, List.replicate_succ, List.flatten_cons]
    exact dps_app h (reps_dp h n)
section
variable {X : Cx} {e a b : Expr} {es : List Expr} {d : PyData} {ds bs : List PyData} {pos : Pos} {R S : RQ} {i : Nat}
theorem vd_g (he : PE X e (tD X.K d)) : PE X e (tV X.K rT d) := pe_to he fun _ _ _ h => h.2
theorem vd_v (he : PE X e (tVar i)) : PE X e (tV X.K (rS X.K i d) d) := pe_to he fun _ H _ ⟨⟨v, h, g⟩, q⟩ => ⟨v, h, q v H (fun _ _ z => z) g⟩
theorem vd_nil : PA X [] (tVs X.K rT []) := pa_to pa_nil fun _ H _ h => h.2 _ H (fun _ _ z => z) .nil
theorem vd_cons (he : PE X e (tV X.K R d)) (hr : PA X es (tVs X.K S ds)) (m : Mo S) (hs : starEach (e :: es) X.env = (false, eval e X.env) :: starEach es X.env := by rfl) : PA X (e :: es) (tVs X.K (rA R S) (d :: ds)) :=
  pa_to (pa_cons he hr hs) fun σ H _ h => ⟨h.1.1, fun x H1 s1 dx => ⟨m σ H H1 s1 h.1.2, fun xs H2 s2 dxs => h.2 (x :: xs) H2 (s1.trans s2) (.cons (dp_same s2 d x dx) dxs)⟩⟩
theorem vd_tup {x1} (ha : PA X es (tVs X.K R ds)) (hl : ds.length ≤ 1000 := by decide) : PE X (.Tuple es x1 pos) (tV X.K R (.tuple ds)) :=
  pe_to (pe_tup ha) fun _ _ _ h => ⟨h.1, fun xs H1 s1 dxs => ⟨Nat.le_of_lt (small_line (by rw [dps_len dxs]; exact hl)), fun p hp => h.2 (.ref p) _ (s1.trans (same_new hp)) (.tup (SqT.of upd_same) (dps_same (same_new hp) ds xs dxs))⟩⟩
theorem vd_lst (ha : PA X es (tVs X.K R ds)) (hl : ds.length ≤ 1000 := by decide) : PE X (.List es pos) (tV X.K R (.list ds)) :=
  pe_to (pe_lst ha) fun _ _ _ h => ⟨h.1, fun xs H1 s1 dxs => ⟨Nat.le_of_lt (small_line (by rw [dps_len dxs]; exact hl)), fun p hp => h.2 (.ref p) _ (s1.trans (same_new hp)) (.lst (SqL.of upd_same) (dps_same (same_new hp) ds xs dxs))⟩⟩
theorem vd_rep {n : Int} {j : Nat} {p2 : Pos} (he : PE X a (tV X.K R (.tuple ds))) (h2 : 2 ≤ n := by decide) (hn : n ≤ 1000 := by decide) (hd : ds ≠ [] := by simp) (hl : ds.length ≤ 1000 := by decide) :
    PE X (.BinOp a .Mult (.Constant (.int n) j p2) pos) (tV X.K R (.tuple (List.replicate n.toNat ds).flatten)) :=
  pe_to (pe_op op_repT he pe_int) fun _ H _ h => ⟨h.1, fun v H1 s1 dv => by
    cases dv with
    | @tup t xs _ st dx =>
      have lx := dps_len dx
      refine ⟨t, n, xs, rfl, rfl, st, fun z => hd ?_, h2, hn, by omega, fun p hp => ?_⟩
      · rw [z] at lx
        exact List.eq_nil_of_length_eq_zero lx.symm
      · exact h.2 (.ref p) _ (s1.trans (same_new hp)) (.tup (SqT.of upd_same) (dps_same (same_new hp) _ _ (reps_dp dx _)))⟩
theorem vd_cat (ha : PE X a (tV X.K R (.tuple ds))) (hb : PE X b (tV X.K S (.tuple bs))) (m : Mo S) (hl : ds.length + bs.length ≤ 1000 := by decide) :
    PE X (.BinOp a .Add b pos) (tV X.K (rA R S) (.tuple (ds ++ bs))) :=
  pe_to (pe_op op_catA ha hb) fun σ H _ h => ⟨h.1.1, fun v H1 s1 dv => ⟨m σ H H1 s1 h.1.2, fun u H2 s2 du => by
    cases dv with
    | tup st dx =>
      cases du with
      | tup su dy => exact Rs.cat_any (Bs.Same.t s2 st) su (Nat.le_of_lt (small_line (by rw [dps_len dx, dps_len dy]; exact hl))) fun c H3 s3 sc => h.2 (.ref c) H3 ((s1.trans s2).trans s3) (.tup sc (dps_app (dps_same (s2.trans s3) _ _ dx) (dps_same s3 _ _ dy)))⟩⟩
end
end Dd


set_option Elab.async false
set_option linter.all false
set_option maxRecDepth 100000
set_option maxHeartbeats 1000000
namespace Cu
open Fq Pg Rs
theorem fold_rf {D : Int} {n : Nat} : ∀ (ts : List Rat) (x : Rat), (ts.map rf).foldl add (rf x) = rf (ts.foldl (· + ·) x)
  | [], x => rfl
  | t :: ts, x => by
    show (ts.map rf).foldl add (add (rf x) (rf t)) = rf (ts.foldl (· + ·) (x + t))
    rw [show add (rf x) (rf t) = rf (x + t) from rf_eq (ok_add' (rf_ok _).1 (rf_ok _).1) (by rw [val_add (rf_ok _).1 (rf_ok _).1, rf_val, rf_val])]
    exact fold_rf (D := D) (n := n) ts (x + t)
theorem sumF_rf (ts : List Rat) : sumF (0, 1) (ts.map rf) = rf (ts.foldl (· + ·) 0) := fold_rf (D := 1) (n := 0) ts 0
theorem foldl_map {f : Prt → Rat} : ∀ (ps : List Prt) (x : Rat), (ps.map f).foldl (· + ·) x = ps.foldl (fun w p => w + f p) x
  | [], _ => rfl
  | p :: ps, x => foldl_map ps (x + f p)
theorem sum_parts (k : Kd) (c : Nat → Rat) (n : Nat) : sumF (0, 1) ((sortW (partsOf k n)).map fun p => rf (pT c (lns p))) = rf (Pk k c n) := by
  rw [show (sortW (partsOf k n)).map (fun p => rf (pT c (lns p))) = ((sortW (partsOf k n)).map fun p => pT c (lns p)).map rf by rw [List.map_map]; rfl, sumF_rf, foldl_map, ← su_T]
  unfold su
  rw [List.take_length]
/-- all but the one block -/
def big (p : Prt) : Bool := decide (1 < p.length)
theorem one_blk : ∀ n ∈ [1, 2, 3, 4, 5], ∀ k ∈ kds, ((partsOf k n).filter fun p => !big p).map lns = [[n]] ∧ (partsOf k n).all (fun p => !big p || p.all fun b => decide (b.length < n)) = true := by decide +kernel
theorem foldl_split (f : Prt → Rat) : ∀ (ps : List Prt) (x y : Rat), ps.foldl (fun w p => w + f p) (x + y) = (ps.filter big).foldl (fun w p => w + f p) x + (ps.filter fun p => !big p).foldl (fun w p => w + f p) y
  | [], _, _ => rfl
  | p :: ps, x, y => by
    cases h : big p with
    | true =>
      rw [List.filter_cons_of_pos h, List.filter_cons_of_neg (by rw [h]; decide)]
      show ps.foldl _ (x + y + f p) = (ps.filter big).foldl _ (x + f p) + _
      rw [← foldl_split f ps (x + f p) y]
      congr 1
      grind
    | false =>
      rw [List.filter_cons_of_neg (by rw [h]; decide), List.filter_cons_of_pos (by rw [h]; rfl)]
      show ps.foldl _ (x + y + f p) = _ + (ps.filter fun p => !big p).foldl _ (y + f p)
      rw [← foldl_split f ps x (y + f p)]
      congr 1
      grind
theorem sum_big (k : Kd) (c : Nat → Rat) {n : Nat} (n1 : 1 ≤ n) (n5 : n ≤ 5) : sumF (0, 1) (((sortW (partsOf k n)).filter big).map fun p => rf (pT c (lns p))) = rf (Pk k c n - c n) := by
  rw [show ((sortW (partsOf k n)).filter big).map (fun p => rf (pT c (lns p))) = (((sortW (partsOf k n)).filter big).map fun p => pT c (lns p)).map rf by rw [List.map_map]; rfl, sumF_rf, foldl_map]
  have h1 := foldl_split (fun p => pT c (lns p)) (sortW (partsOf k n)) 0 0
  have h2 : (sortW (partsOf k n)).foldl (fun w p => w + pT c (lns p)) ((0 : Rat) + 0) = Pk k c n := by
    rw [← su_T]
    unfold su
    rw [List.take_length, show (0 : Rat) + 0 = 0 by grind]
  have h3 : ((sortW (partsOf k n)).filter fun p => !big p).foldl (fun w p => w + pT c (lns p)) 0 = c n := by
    rw [foldl_T, sumT_perm c (((sortW_perm (partsOf k n)).filter fun p => !big p).map lns), (one_blk n (by simp; omega) k (kd_mem k)).1]
    show (0 : Rat) + (0 + (1 * c n)) = c n
    grind
  rw [h2, h3] at h1
  congr 1
  rw [h1]
  grind
theorem big_at {n : Nat} {k : Kd} (n1 : 1 ≤ n) (hn : n ≤ 5) {p : Prt} (h : p ∈ sortW (partsOf k n)) (hb : big p = true) : ∀ b ∈ p, b.length < n := by
  have h1 := List.all_eq_true.mp (one_blk n (by simp; omega) k (kd_mem k)).2 p ((sortW_perm _).mem_iff.mp h)
  rw [hb] at h1
  intro b hb'
  simp at h1
  exact h1 b hb'
end Cu
namespace Rs
open PySem PySem.Spec PyProof.Rows L2 Bs Fq LamX RZ Cu Pg Dd
abbrev sLB : Stmt := top 77
abbrev sLP : Stmt := top 78
abbrev sLC : Stmt := top 79
abbrev NLB : List Str := ["some", "parting", "found", "block"]
abbrev NLP : List Str := ["kind", "cumulants_so", "found_so", "many", "one"]
abbrev NLC : List Str := ["kind", "row", "found_so", "many", "parts_so", "one"]
def cs (c : Nat → Rat) : Nat → Rat := fun i => c (i + 1)
def spLBT (K : PySem.W.Frag) : Sp := fun vs H Q _ => ∃ (u v : V) (p : Prt) (c : Nat → Rat) (J : Nat) (D : Int), vs = [u, v] ∧ Po K H u (rl (cs c) J) ∧ Pt K H v p ∧ Sz D c ∧ p.length ≤ 8 ∧ (∀ b ∈ p, 1 ≤ b.length ∧ b.length ≤ J) ∧ ∀ H' y, Same H H' → Fr K H' y (rf (pT c (lns p))) → Q y H'
def spLBL (K : PySem.W.Frag) : Sp := fun vs H Q _ => ∃ (u v : V) (p : Prt) (c : Nat → Rat) (J : Nat) (D : Int), vs = [u, v] ∧ PoL K H u (rl (cs c) J) ∧ Pt K H v p ∧ Sz D c ∧ p.length ≤ 8 ∧ (∀ b ∈ p, 1 ≤ b.length ∧ b.length ≤ J) ∧ ∀ H' y, Same H H' → Fr K H' y (rf (pT c (lns p))) → Q y H'
def spLP (K : PySem.W.Frag) : Sp := fun vs H Q _ => ∃ (v : V) (k : Kd) (c : Nat → Rat) (L : Nat) (D : Int), vs = [.str (kdS k), v] ∧ Po K H v (rl (cs c) L) ∧ Sz D c ∧ L ≤ 5 ∧ ∀ H' a, Same H H' → PoL K H' (.ref a) (rl (Pk k c) (L + 1)) → Q (.ref a) H'
def spLC (K : PySem.W.Frag) : Sp := fun vs H Q _ => ∃ (v : V) (k : Kd) (ρ c : Nat → Rat) (L : Nat) (D E : Int), vs = [.str (kdS k), v] ∧ Po K H v (rl ρ L) ∧ Rwc ρ L D ∧ Sz E (um ρ) ∧ Sz E c ∧ L ≤ 6 ∧ (∀ n, 1 ≤ n → n < L → Pk k c n = um ρ n) ∧ ∀ H' a, Same H H' → Po K H' (.ref a) (rl (cs c) (L - 1)) → Q (.ref a) H'
theorem Dm.toDl {q : F} (h : Dm q) : Dl q := ⟨h.big, h.pos, h.low⟩
section
variable {P : Program} {w : World} {K : PySem.W.Frag} {mg : Str → Option Value} {base : Heap} {f : Addr} {fd : FuncData}
theorem scLB : FnScope NLB ["some", "parting"] (defScope sLB) := ⟨rfl, rfl, rfl, by decide +kernel, rfl, by decide +kernel, by decide +kernel⟩
theorem ok_lbT (F : Fun K "_law_by_blocks" "_law_by_blocks" sLB f fd) (T : Blt mg) (LT : Cal P w K mg base 2 "_law_times" (spOp K mul domL)) : FnOk P w K mg base CX0 3 f fd ["some", "parting"] (spLBT K) := by
  refine F.ok scLB (fun vs H Q E h => ?_) (fun cdv A outer s H vs Q E hr h => ?_)
  · obtain ⟨u, v, p, c, J, D, rfl, _⟩ := h
    rfl
  · obtain ⟨u, v, p, c, J, D, rfl, ⟨b, ys, rfl, gy, fy⟩, ⟨a, xs, rfl, sx, al⟩, z, p8, hb, kk⟩ := h
    have lx := al.len
    refine ⟨_, C8.pss_cut (ps_set (i := 2) scLB.nd rfl (Or.inl rfl) (pd_tup (pd_cons pd_int (pd_cons pd_int pd_nil))))
      (C8.pss_cut (ps_for PassesOwn.never rfl (pi_tup (pv 1)) (pg_name (i := 3) scLB.nd rfl (Or.inl rfl))
      (pss_one (ps_set (i := 2) scLB.nd rfl (Or.inl rfl) (pe_n LT hr (by decide) (by rfl) (pa_cons (pv 2) (pa_cons (pe_ix ix_tup (pv 0) (pe_op op_sub (pe_callB call_len_seq (by rfl) T.len (by decide +kernel) (pa_cons (pv 3) pa_nil)) pe_int) (fun _ _ => rfl)) pa_nil))))))
      (pss_one (ps_ret (pv 2)))), ?_⟩
    refine ⟨fun σ H1 => ∃ y, Same H H1 ∧ Fr K H1 y (rf 1) ∧ σ = [some (.ref b), some (.ref a), some y, none], ?_, ?_⟩
    · intro v1 H1 s1 d1
      exact ⟨v1, s1, dp_fr (q := (1, 1)) d1, rfl⟩
    rintro σ H1 ⟨y0, s1, fy0, rfl⟩
    refine ⟨fun σ H2 => ∃ y v3, Same H H2 ∧ Fr K H2 y (rf (pT c (lns p))) ∧ σ = [some (.ref b), some (.ref a), some y, v3], ?_, ?_⟩
    · refine ⟨_, rfl, a, rfl, ⟨_, Bs.Same.t s1 sx⟩, for_tup (K := K) (a := a) (xs := xs) (fun i σ H1 => ∃ y v3, Same H H1 ∧ Fr K H1 y (rf (pl c p i)) ∧ σ = [some (.ref b), some (.ref a), some y, v3]) ⟨_, none, s1, fy0, rfl⟩ (fun i σ H1 _ q => by
        obtain ⟨_, _, s1, _⟩ := q
        exact Bs.Same.t s1 sx) ?_ ?_⟩
      · rintro i x σ H1 hx ⟨y, v3, s1, fy1, rfl⟩
        obtain ⟨bl, hbl, cc, rfl, sc⟩ := al.get hx
        obtain ⟨hl0, hl⟩ := hb bl (List.mem_of_getElem? hbl)
        obtain ⟨y2, q, h1, h2, h3⟩ := fy.get (i := bl.length - 1) (by rw [rl_len]; omega)
        rw [rl_get (by omega)] at h2
        have ec : rf (cs c (bl.length - 1)) = rf (c bl.length) := by
          unfold cs
          rw [show bl.length - 1 + 1 = bl.length by omega]
        rw [ec] at h2
        cases h2
        have il : i < p.length := (List.getElem?_eq_some_iff.mp hbl).1
        have e0 : ((bl.map V.int).length : Int) - 1 = ((bl.length - 1 : Nat) : Int) := by rw [List.length_map]; omega
        refine ⟨_, rfl, _, rfl, _, rfl, cc, _, rfl, .inr (Bs.Same.t s1 sc), _, _, rfl, rfl, b, ys, _, y2, rfl, rfl, Bs.Same.t s1 gy, by rw [e0]; exact atI_nat h1, y, y2, _, _, rfl, fy1, h3.mono s1, ⟨cb_dl (rf_cb (pl_ov z p i (by omega))) (z.bd (by omega) (by omega)), (z.dm _).toDl⟩, fun q hq => ?_⟩
        have s2 := same_new (o := fr (mul (rf (pl c p i)) (rf (c bl.length)))) hq
        refine ⟨_, _, s1.trans s2, ?_, rfl⟩
        have e1 : mul (rf (pl c p i)) (rf (c bl.length)) = rf (pl c p (i + 1)) := rf_eq (ok_mul' (rf_ok _).1 (rf_ok _).1) (by rw [val_mul (rf_ok _).1 (rf_ok _).1, rf_val, rf_val, pl_succ hbl])
        rw [← e1]
        exact Fr.of upd_same
      · rintro σ H1 ⟨y, v3, s1, fy1, rfl⟩
        rw [lx, pl_all] at fy1
        exact ⟨y, v3, s1, fy1, rfl⟩
    rintro σ H1 ⟨y, v3, s1, fy1, rfl⟩
    exact ⟨_, rfl, kk H1 y s1 fy1⟩
theorem ok_lbL (F : Fun K "_law_by_blocks" "_law_by_blocks" sLB f fd) (T : Blt mg) (LT : Cal P w K mg base 2 "_law_times" (spOp K mul domL)) : FnOk P w K mg base CX0 3 f fd ["some", "parting"] (spLBL K) := by
  refine F.ok scLB (fun vs H Q E h => ?_) (fun cdv A outer s H vs Q E hr h => ?_)
  · obtain ⟨u, v, p, c, J, D, rfl, _⟩ := h
    rfl
  · obtain ⟨u, v, p, c, J, D, rfl, ⟨b, ys, rfl, gy, fy⟩, ⟨a, xs, rfl, sx, al⟩, z, p8, hb, kk⟩ := h
    have lx := al.len
    refine ⟨_, C8.pss_cut (ps_set (i := 2) scLB.nd rfl (Or.inl rfl) (pd_tup (pd_cons pd_int (pd_cons pd_int pd_nil))))
      (C8.pss_cut (ps_for PassesOwn.never rfl (pi_tup (pv 1)) (pg_name (i := 3) scLB.nd rfl (Or.inl rfl))
      (pss_one (ps_set (i := 2) scLB.nd rfl (Or.inl rfl) (pe_n LT hr (by decide) (by rfl) (pa_cons (pv 2) (pa_cons (pe_ix ix_list (pv 0) (pe_op op_sub (pe_callB call_len_seq (by rfl) T.len (by decide +kernel) (pa_cons (pv 3) pa_nil)) pe_int) (fun _ _ => rfl)) pa_nil))))))
      (pss_one (ps_ret (pv 2)))), ?_⟩
    refine ⟨fun σ H1 => ∃ y, Same H H1 ∧ Fr K H1 y (rf 1) ∧ σ = [some (.ref b), some (.ref a), some y, none], ?_, ?_⟩
    · intro v1 H1 s1 d1
      exact ⟨v1, s1, dp_fr (q := (1, 1)) d1, rfl⟩
    rintro σ H1 ⟨y0, s1, fy0, rfl⟩
    refine ⟨fun σ H2 => ∃ y v3, Same H H2 ∧ Fr K H2 y (rf (pT c (lns p))) ∧ σ = [some (.ref b), some (.ref a), some y, v3], ?_, ?_⟩
    · refine ⟨_, rfl, a, rfl, ⟨_, Bs.Same.t s1 sx⟩, for_tup (K := K) (a := a) (xs := xs) (fun i σ H1 => ∃ y v3, Same H H1 ∧ Fr K H1 y (rf (pl c p i)) ∧ σ = [some (.ref b), some (.ref a), some y, v3]) ⟨_, none, s1, fy0, rfl⟩ (fun i σ H1 _ q => by
        obtain ⟨_, _, s1, _⟩ := q
        exact Bs.Same.t s1 sx) ?_ ?_⟩
      · rintro i x σ H1 hx ⟨y, v3, s1, fy1, rfl⟩
        obtain ⟨bl, hbl, cc, rfl, sc⟩ := al.get hx
        obtain ⟨hl0, hl⟩ := hb bl (List.mem_of_getElem? hbl)
        obtain ⟨y2, q, h1, h2, h3⟩ := fy.get (i := bl.length - 1) (by rw [rl_len]; omega)
        rw [rl_get (by omega)] at h2
        have ec : rf (cs c (bl.length - 1)) = rf (c bl.length) := by
          unfold cs
          rw [show bl.length - 1 + 1 = bl.length by omega]
        rw [ec] at h2
        cases h2
        have il : i < p.length := (List.getElem?_eq_some_iff.mp hbl).1
        have e0 : ((bl.map V.int).length : Int) - 1 = ((bl.length - 1 : Nat) : Int) := by rw [List.length_map]; omega
        refine ⟨_, rfl, _, rfl, _, rfl, cc, _, rfl, .inr (Bs.Same.t s1 sc), _, _, rfl, rfl, b, ys, _, y2, rfl, rfl, SqL.of (s1 _ _ gy), by rw [e0]; exact atI_nat h1, y, y2, _, _, rfl, fy1, h3.mono s1, ⟨cb_dl (rf_cb (pl_ov z p i (by omega))) (z.bd (by omega) (by omega)), (z.dm _).toDl⟩, fun q hq => ?_⟩
        have s2 := same_new (o := fr (mul (rf (pl c p i)) (rf (c bl.length)))) hq
        refine ⟨_, _, s1.trans s2, ?_, rfl⟩
        have e1 : mul (rf (pl c p i)) (rf (c bl.length)) = rf (pl c p (i + 1)) := rf_eq (ok_mul' (rf_ok _).1 (rf_ok _).1) (by rw [val_mul (rf_ok _).1 (rf_ok _).1, rf_val, rf_val, pl_succ hbl])
        rw [← e1]
        exact Fr.of upd_same
      · rintro σ H1 ⟨y, v3, s1, fy1, rfl⟩
        rw [lx, pl_all] at fy1
        exact ⟨y, v3, s1, fy1, rfl⟩
    rintro σ H1 ⟨y, v3, s1, fy1, rfl⟩
    exact ⟨_, rfl, kk H1 y s1 fy1⟩
theorem scLP : FnScope NLP ["kind", "cumulants_so"] (defScope sLP) := ⟨rfl, rfl, rfl, by decide +kernel, rfl, by decide +kernel, by decide +kernel⟩
theorem ok_lp (F : Fun K "_law_plain" "_law_plain" sLP f fd) (T : Blt mg) (LB : Cal P w K mg base 3 "_law_by_blocks" (spLBT K)) (LS : Cal P w K mg base 3 "_law_sum" (spLSum K)) (LK : Cal P w K mg base 4 "_law_of_kind" (spLOfKind K)) : FnOk P w K mg base CX0 5 f fd ["kind", "cumulants_so"] (spLP K) := by
  refine F.ok scLP (fun vs H Q E h => ?_) (fun cdv A outer s H vs Q E hr h => ?_)
  · obtain ⟨v, k, c, L, D, rfl, _⟩ := h
    rfl
  · obtain ⟨v, k, c, L, D, rfl, pc, z, L5, kk⟩ := h
    obtain ⟨a, xs, rfl, sx, fx⟩ := id pc
    have lx := fx.len
    rw [rl_len] at lx
    refine ⟨_, C8.pss_cut (ps_set (i := 2) scLP.nd rfl (Or.inl rfl) (pe_lst (pd_cons (pd_tup (pd_cons pd_int (pd_cons pd_int pd_nil))) pd_nil)))
      (C8.pss_cut (ps_for PassesOwn.never rfl (pi_range2 rfl T.range (pa_cons pe_int (pa_cons (pe_op op_add (pe_callB call_len_seq (by rfl) T.len (by decide +kernel) (pa_cons (pv 1) pa_nil)) pe_int) pa_nil))) (pg_name (i := 3) scLP.nd rfl (Or.inl rfl))
      (pss_one (ps_expr (pe_bm PySem.F.plainAttrs_list PySem.F.slot_list_append PySem.F.type_list_append mt_append (pv 2) (pa_cons (pe_n LS hr (by decide) (by rfl) (pa_cons (pe_lc (own := [("one", 4)]) (g := gName 4) (tt := tYes) rfl scLP.nd (pi_list (pe_n LK hr (by decide) (by rfl) (pa_cons (pv 0) (pa_cons (pv 3) pa_nil)))) (blkOk_by (N := NLP) (sc := defScope sLP) (by decide +kernel))
          (fun _ _ _ _ _ => pg_name (i := 4) scLP.nd rfl (Or.inl rfl)) (fun _ _ _ _ _ => pts_nil)
          (fun _ _ _ _ _ => (pe_n LB hr (by decide) (by rfl) (pa_cons (pv 1) (pa_cons (pv 4) pa_nil))))) pa_nil)) pa_nil)))))
      (pss_one (ps_ret (pv 2)))), ?_⟩
    refine ⟨fun σ H1 => ∃ M, Same H H1 ∧ H M = none ∧ PoL K H1 (.ref M) (rl (Pk k c) 1) ∧ σ = [some (.str (kdS k)), some (.ref a), some (.ref M), none, none], ?_, ?_⟩
    · intro vs H1 s1 d1
      refine ⟨Nat.le_of_lt (small_line (by rw [dps_len d1]; decide)), fun M hM => ⟨M, s1.trans (same_new hM), s1.free hM, ⟨M, _, rfl, upd_same, ?_⟩, rfl⟩⟩
      rw [show rl (Pk k c) 1 = [(1, 1)] by unfold rl; rw [show List.range 1 = [0] from rfl, List.map_singleton, P_zero]; rfl]
      cases d1 with
      | cons d2 d3 =>
        cases d3
        exact .cons ((dp_fr (q := (1, 1)) d2).mono (same_new hM)) .nil
    rintro σ H1 ⟨M, s1, nM, pM, rfl⟩
    refine ⟨fun σ H3 => ∃ v3, Same H H3 ∧ PoL K H3 (.ref M) (rl (Pk k c) (L + 1)) ∧ σ = [some (.str (kdS k)), some (.ref a), some (.ref M), v3, none], ?_, ?_⟩
    · refine ⟨_, rfl, a, xs, rfl, .inr (Bs.Same.t s1 sx), _, _, rfl, rfl, _, _, rfl, ⟨by omega, by omega, by omega, by omega⟩, for_range (lo := 1) (n := ((xs.length : Int) + 1 - 1).toNat) (fun i σ H3 => ∃ v3, Same H H3 ∧ PoL K H3 (.ref M) (rl (Pk k c) (i + 1)) ∧ σ = [some (.str (kdS k)), some (.ref a), some (.ref M), v3, none])
        ⟨none, s1, pM, rfl⟩ ?_ ?_⟩
      · rintro i σ H3 hi ⟨v3, s3, pM3, rfl⟩
        have es : (1 : Int) + (i : Nat) = ((i + 1 : Nat) : Int) := by omega
        rw [es]
        have il : i + 1 ≤ L := by omega
        obtain ⟨Ma, ms, eM, gM, fM⟩ := id pM3
        cases eM
        have lm := fM.len
        rw [rl_len] at lm
        refine ⟨_, rfl, .inl ⟨rfl, _, SqL.of gM⟩, _, rfl, _, rfl, k, i + 1, rfl, by omega, fun H4 L4 ys s4 gL al => ?_⟩
        rw [← sort_kind (by omega)] at al
        have ly := al.len
        have l1000 := len_sort (k := k) (show i + 1 ≤ 6 by omega)
        have rw5 := (rows_at (all_rows (i + 1) (by simp; omega)) (Nat.le_refl (i + 1))).1
        have l500 : (sortW (partsOf k (i + 1))).length ≤ 500 := by
          rw [sort_kind (by omega)]
          have := List.length_filter_le (lawKind k) (sortW (lawRows (i + 1)))
          rw [(sortW_perm _).length_eq] at this
          omega
        refine ⟨L4, rfl, ⟨_, SqL.of gL⟩, fun D0 hD => lc_list (K := K) (a := L4) (xs := ys) (fun j H5 => Same H4 H5 ∧ ∃ vs, H5 D0 = some (.lst vs) ∧ FrAll K H5 vs (((sortW (partsOf k (i + 1))).take j).map fun p => rf (pT c (lns p)))) ⟨same_new hD, [], upd_same, .nil⟩ (fun j H5 _ q => SqL.of (q.1 _ _ gL)) ?_ ?_⟩
        · rintro j x H5 hx ⟨s5, vs, gD, fv⟩
          obtain ⟨p, hp, pp⟩ := al.get hx
          have mp := List.mem_of_getElem? hp
          obtain ⟨p8, hb⟩ := blk_at (by omega) mp
          have lv := fv.len
          rw [List.length_map, List.length_take] at lv
          refine ⟨rfl, ?_⟩
          refine iteT (B := Same H4 H5 ∧ ∃ vs, H5 D0 = some (.lst vs) ∧ FrAll K H5 vs (((sortW (partsOf k (i + 1))).take (j + 1)).map fun p => rf (pT c (lns p)))) ?_
          refine ⟨_, rfl, _, rfl, .ref a, x, p, c, L, D, rfl, Po.mono ((s3.trans s4).trans s5) pc, pp.mono s5, z, p8, fun b hb' => ⟨(hb b hb').1, by have := (hb b hb').2; omega⟩, fun H6 y s6 fy => ?_⟩
          have g6 := s6 _ _ gD
          refine ⟨vs, g6, small1000 (by omega), fun c o e => (upd_ne (ne_of_none e hD)).trans (s6 c o (s5 c o e)), _, upd_same, ?_⟩
          rw [take_one hp, List.map_append]
          exact (FrAll.off g6 (fv.mono s6)).snoc (fy.off g6)
        · rintro H5 ⟨s5, vs, gD, fv⟩
          rw [ly, List.take_length] at fv
          have ca : Ca (D ^ 8) 1360 ((sortW (partsOf k (i + 1))).map fun p => rf (pT c (lns p))) := fun q hq => by
            obtain ⟨p, hp, rfl⟩ := List.mem_map.mp hq
            exact rf_cb (pT_ov z (blk_at (by omega) hp).1)
          refine ⟨D0, vs, _, D ^ 8, 1360, rfl, SqL.of gD, fv, ca, z.bd (by omega) (by rw [List.length_map]; omega), fun H6 u s6 fu => ?_⟩
          rw [sum_parts] at fu
          have s36 := (s4.trans s5).trans s6
          have g6 := s36 _ _ gM
          refine ⟨M, ms, _, rfl, rfl, g6, small1000 (by omega), _, fun b o e => (upd_ne (ne_of_none e nM)).trans (s36 b o (s3 b o e)), ⟨M, _, rfl, upd_same, ?_⟩, rfl⟩
          rw [rl_succ]
          exact (FrAll.off g6 (fM.mono s36)).snoc (fu.off g6)
      · rintro σ H3 ⟨v3, s3, pM3, rfl⟩
        rw [show ((xs.length : Int) + 1 - 1).toNat = L by omega] at pM3
        exact ⟨v3, s3, pM3, rfl⟩
    rintro σ H3 ⟨v3, s3, pM3, rfl⟩
    exact ⟨_, rfl, kk H3 M s3 pM3⟩
theorem scLC : FnScope NLC ["kind", "row"] (defScope sLC) := ⟨rfl, rfl, rfl, by decide +kernel, rfl, by decide +kernel, by decide +kernel⟩
theorem ok_lc (F : Fun K "_law_cumulants" "_law_cumulants" sLC f fd) (T : Blt mg) (LB : Cal P w K mg base 3 "_law_by_blocks" (spLBL K)) (LS : Cal P w K mg base 3 "_law_sum" (spLSum K)) (LK : Cal P w K mg base 4 "_law_of_kind" (spLOfKind K)) (LL : Cal P w K mg base 2 "_law_less" (spOp K sub domL)) (LO : Cal P w K mg base 2 "_law_over" (spOp K divL domLD)) : FnOk P w K mg base CX0 5 f fd ["kind", "row"] (spLC K) := by
  refine F.ok scLC (fun vs H Q E h => ?_) (fun cdv A outer s H vs Q E hr h => ?_)
  · obtain ⟨v, k, ρ, c, L, D, E, rfl, _⟩ := h
    rfl
  · obtain ⟨v, k, ρ, c, L, D, E, rfl, pc, R, zm, z, L6, hP, kk⟩ := h
    obtain ⟨a, xs, rfl, sx, fx⟩ := id pc
    have lx := fx.len
    rw [rl_len] at lx
    have l1 := R.l1
    obtain ⟨y0, q0, g0, g1, f0⟩ := fx.get (i := 0) (by rw [rl_len]; exact l1)
    rw [rl_get l1] at g1
    cases g1
    refine ⟨_, C8.pss_cut (ps_set (i := 2) scLC.nd rfl (Or.inr rfl) (pe_lst pa_nil))
      (C8.pss_cut (ps_for PassesOwn.never rfl (pi_range2 rfl T.range (pa_cons pe_int (pa_cons (pe_callB call_len_seq (by rfl) T.len (by decide +kernel) (pa_cons (pv 1) pa_nil)) pa_nil))) (pg_name (i := 3) scLC.nd rfl (Or.inl rfl))
      (pss_cons (ps_setLc (i := 4) (own := [("one", 5)]) (g := gName 5) rfl scLC.nd rfl rfl (sw_true rfl rfl rfl (by decide +kernel)) (pi_list (pe_n LK hr (by decide) (by rfl) (pa_cons (pv 0) (pa_cons (pv 3) pa_nil)))) (blkOk_by (N := NLC) (sc := defScope sLC) (by decide +kernel))
          (fun _ _ _ _ _ => pg_name (i := 5) scLC.nd rfl (Or.inl rfl)) (fun _ _ _ _ _ => pts_one (pt_cmpR op_gt (pe_callB (id := "len") (r := rLenK K) call_len_seq (by rfl) T.len (by decide +kernel) (pa_cons (pv 5) pa_nil)) pe_int (nomark _)))
          (fun _ _ _ _ _ => (pe_n LB hr (by decide) (by rfl) (pa_cons (pv 2) (pa_cons (pv 5) pa_nil)))))
        (pss_one (ps_expr (pe_bm PySem.F.plainAttrs_list PySem.F.slot_list_append PySem.F.type_list_append mt_append (pv 2) (pa_cons (pe_n LL hr (by decide) (by rfl) (pa_cons (pe_n LO hr (by decide) (by rfl) (pa_cons (pe_ix ix_tup (pv 1) (pv 3) (fun _ _ => rfl)) (pa_cons (pe_ix ix_tup (pv 1) pe_int (fun _ _ => rfl)) pa_nil))) (pa_cons (pe_n LS hr (by decide) (by rfl) (pa_cons (pv 4) pa_nil)) pa_nil))) pa_nil))))))
      (pss_one (ps_ret (pe_callTy call_tuple_of (by rfl) T.tuple (by decide +kernel) (pa_cons (pv 2) pa_nil))))), ?_⟩
    refine ⟨fun σ H1 => ∃ M, Same H H1 ∧ H M = none ∧ PoL K H1 (.ref M) (rl (cs c) 0) ∧ σ = [some (.str (kdS k)), some (.ref a), some (.ref M), none, none, none], ?_, ?_⟩
    · exact ⟨(by show 0 ≤ sizeLine; decide), fun M hM => ⟨M, same_new hM, hM, ⟨M, _, rfl, upd_same, .nil⟩, rfl⟩⟩
    rintro σ H1 ⟨M, s1, nM, pM, rfl⟩
    refine ⟨fun σ H3 => ∃ v3 v4, Same H H3 ∧ PoL K H3 (.ref M) (rl (cs c) (L - 1)) ∧ σ = [some (.str (kdS k)), some (.ref a), some (.ref M), v3, v4, none], ?_, ?_⟩
    · refine ⟨_, rfl, a, xs, rfl, .inr (Bs.Same.t s1 sx), _, _, rfl, ⟨by omega, by omega, by omega, by omega⟩, for_range (lo := 1) (n := ((xs.length : Int) - 1).toNat) (fun i σ H3 => ∃ v3 v4, Same H H3 ∧ PoL K H3 (.ref M) (rl (cs c) i) ∧ σ = [some (.str (kdS k)), some (.ref a), some (.ref M), v3, v4, none])
        ⟨none, none, s1, pM, rfl⟩ ?_ ?_⟩
      · rintro i σ H3 hi ⟨v3, v4, s3, pM3, rfl⟩
        have es : (1 : Int) + (i : Nat) = ((i + 1 : Nat) : Int) := by omega
        rw [es]
        have il : i + 1 < L := by omega
        have i5 : i + 1 ≤ 5 := by omega
        obtain ⟨Ma, ms, eM, gM, fM⟩ := id pM3
        cases eM
        have lm := fM.len
        rw [rl_len] at lm
        obtain ⟨y1, q1, g2, g3, f1⟩ := fx.get (i := i + 1) (by rw [rl_len]; exact il)
        rw [rl_get il] at g3
        cases g3
        refine ⟨_, rfl, _, rfl, k, i + 1, rfl, i5, fun H4 L4 ys s4 gL al => ?_⟩
        rw [← sort_kind i5] at al
        have ly := al.len
        have l500 : (sortW (partsOf k (i + 1))).length ≤ 500 := by
          have rw5 := (rows_at (all_rows (i + 1) (by simp; omega)) (Nat.le_refl (i + 1))).1
          rw [sort_kind i5]
          have := List.length_filter_le (lawKind k) (sortW (lawRows (i + 1)))
          rw [(sortW_perm _).length_eq] at this
          omega
        refine ⟨L4, rfl, ⟨_, SqL.of gL⟩, fun D0 hD => lc_list (K := K) (a := L4) (xs := ys) (fun j H5 => Same H4 H5 ∧ ∃ vs, H5 D0 = some (.lst vs) ∧ FrAll K H5 vs ((((sortW (partsOf k (i + 1))).take j).filter big).map fun p => rf (pT c (lns p)))) ⟨same_new hD, [], upd_same, .nil⟩ (fun j H5 _ q => SqL.of (q.1 _ _ gL)) ?_ ?_⟩
        · rintro j x H5 hx ⟨s5, vs, gD, fv⟩
          obtain ⟨p, hp, pp⟩ := al.get hx
          have mp := List.mem_of_getElem? hp
          obtain ⟨p8, hb⟩ := blk_at (by omega) mp
          have lv := fv.len
          have lf := List.length_filter_le big ((sortW (partsOf k (i + 1))).take j)
          rw [List.length_map] at lv
          rw [List.length_take] at lf
          obtain ⟨pa, px, rfl, psx, pal⟩ := id pp
          have e0 : ((px.length : Int)) = (p.length : Nat) := by rw [pal.len]
          refine ⟨rfl, ?_⟩
          refine ⟨_, rfl, pa, px, rfl, .inr (Bs.Same.t s5 psx), _, _, rfl, rfl, ?_⟩
          refine ⟨_, rfl, ?_⟩
          refine ite2 (fun cc => ?_) (fun cc => ?_)
          · have lt : (1 : Int) < (px.length : Int) := of_decide_eq_true cc
            have cb : big p = true := decide_eq_true (by omega)
            have hbb := big_at (by omega) i5 mp cb
            refine ⟨_, rfl, _, rfl, .ref M, .ref pa, p, c, i, E, rfl, pM3.mono (s4.trans s5), pp.mono s5, z, p8, fun b hb' => ⟨(hb b hb').1, by have := hbb b hb'; omega⟩, fun H6 y s6 fy => ?_⟩
            have g6 := s6 _ _ gD
            refine ⟨vs, g6, small1000 (by omega), fun b o e => (upd_ne (ne_of_none e hD)).trans (s6 b o (s5 b o e)), _, upd_same, ?_⟩
            rw [take_one hp, List.filter_append, List.filter_cons_of_pos cb, List.map_append]
            exact (FrAll.off g6 (fv.mono s6)).snoc (fy.off g6)
          · have nlt : ¬ 1 < p.length := fun z => cc (decide_eq_true (by show (1 : Int) < (px.length : Int); omega))
            have cb : big p = false := decide_eq_false nlt
            refine ⟨s5, vs, gD, ?_⟩
            rw [take_one hp, List.filter_append, List.filter_cons_of_neg (by rw [cb]; decide), List.filter_nil, List.append_nil]
            exact fv
        · rintro H5 ⟨s5, vs, gD, fv⟩
          rw [ly, List.take_length] at fv
          have lff := List.length_filter_le big (sortW (partsOf k (i + 1)))
          have ca : Ca (E ^ 8) 1360 (((sortW (partsOf k (i + 1))).filter big).map fun p => rf (pT c (lns p))) := fun q hq => by
            obtain ⟨p, hp, rfl⟩ := List.mem_map.mp hq
            exact rf_cb (pT_ov z (blk_at (by omega) (List.mem_filter.mp hp).1).1)
          have s35 := s3.trans (s4.trans s5)
          have gM5 := (s4.trans s5) _ _ gM
          have lvs := fv.len
          rw [List.length_map] at lvs
          refine ⟨_, rfl, .inl ⟨rfl, _, SqL.of gM5⟩, ?_⟩
          refine ⟨_, rfl, _, rfl, a, xs, _, y1, rfl, rfl, Bs.Same.t s35 sx, atI_nat g2, _, rfl, a, xs, _, y0, rfl, rfl, Bs.Same.t s35 sx, atI_nat (j := 0) g0, y1, y0, _, _, rfl, f1.mono s35, f0.mono s35, ⟨(R.z.dm _).toDl, (R.z.dm 0).toDl, rf_pos R.p⟩, fun c1 hc1 => ?_⟩
          have s6 := same_new (o := fr (divL (rf (ρ (i + 1))) (rf (ρ 0)))) hc1
          refine ⟨_, rfl, D0, vs, _, E ^ 8, 1360, rfl, SqL.of (s6 _ _ gD), fv.mono s6, ca, z.bd (by omega) (by rw [List.length_map]; omega), fun H7 u s7 fu => ?_⟩
          rw [sum_big k _ (by omega) i5] at fu
          have fc1 : Fr K H7 (.ref c1) (rf (um ρ (i + 1))) := by
            rw [← um_eq R.p]
            exact Fr.mono (Fr.of upd_same) s7
          have oP : Ov (E ^ 8) 1362 (Pk k c (i + 1) - c (i + 1)) := by
            rw [hP (i + 1) (by omega) il]
            have e1 : Ov (E ^ 1) 170 (um ρ (i + 1)) := by rw [Int.pow_one]; exact zm.o _
            have e2 : Ov (E ^ 1) 170 (c (i + 1)) := by rw [Int.pow_one]; exact z.o _
            exact ((ov_up zm e1 (by omega : 1 ≤ 8)).sub (ov_up zm e2 (by omega : 1 ≤ 8))).mono (by omega)
          refine ⟨.ref c1, u, _, _, rfl, fc1, fu, ⟨(zm.dm _).toDl, cb_dl (rf_cb oP) (z.bd (by omega) (by omega))⟩, fun c2 hc2 => ?_⟩
          have s8 := same_new (o := fr (sub (rf (um ρ (i + 1))) (rf (Pk k c (i + 1) - c (i + 1))))) hc2
          have e1 : sub (rf (um ρ (i + 1))) (rf (Pk k c (i + 1) - c (i + 1))) = rf (cs c i) := rf_eq (ok_sub' (rf_ok _).1 (rf_ok _).1) (by
            rw [val_sub (rf_ok _).1 (rf_ok _).1, rf_val, rf_val, hP (i + 1) (by omega) il]
            unfold cs
            grind)
          have s58 := (s6.trans s7).trans s8
          have g8 := s58 _ _ gM5
          refine ⟨M, ms, _, rfl, rfl, g8, small1000 (by omega), _, _, fun b o e => (upd_ne (ne_of_none e nM)).trans (s58 b o (s35 b o e)), ⟨M, _, rfl, upd_same, ?_⟩, rfl⟩
          rw [rl_succ, ← e1]
          exact (FrAll.off g8 (fM.mono ((s4.trans s5).trans s58))).snoc ((Fr.of upd_same).off g8)
      · rintro σ H3 ⟨v3, v4, s3, pM3, rfl⟩
        rw [show ((xs.length : Int) - 1).toNat = L - 1 by omega] at pM3
        exact ⟨v3, v4, s3, pM3, rfl⟩
    rintro σ H3 ⟨v3, v4, s3, ⟨Ma, ms, eM, gM, fM⟩, rfl⟩
    cases eM
    refine ⟨_, rfl, M, ms, rfl, .inl ⟨SqL.of gM, fun p hp => ?_⟩⟩
    have s4 := same_new (o := .tup ms) hp
    exact kk _ p (s3.trans s4) ⟨p, ms, rfl, SqT.of upd_same, fM.mono s4⟩
end
end Rs


set_option Elab.async false
set_option linter.all false
set_option maxRecDepth 100000
set_option maxHeartbeats 2000000
namespace Bs
open PySem PySem.Spec PyProof.Rows L2
section
variable {X : Cx}
/-- repr of data in lists and tuples -/
def rRepr (K : PySem.W.Frag) : List V → Hp → VK → Prop := fun xs H Q => ∃ (a : Addr) (d : PyData), xs = [.ref a] ∧ Dp K H (.ref a) d ∧ d.showable = true ∧ d.hasDict = false ∧ d.depth ≤ 60 ∧ d.shown.length ≤ sizeLine ∧ Q (.str d.shown) H
theorem call_repr (hg : X.A.guards = some []) (hu : X.A.units + 64 < cLine) : CallR X (.builtin "repr") (rRepr X.K) := by
  rintro pins s σ H xs us Q I r ⟨a, d, rfl, hd, h1, h2, h3, h4, q⟩
  obtain ⟨u, rfl, ru⟩ := vals1 r
  obtain ⟨as, rd⟩ := Dp.reads I d (.ref a) u hd ru
  obtain rfl : u = Value.ref a := ru
  refine repr_of_reads' rd h1 (PyData.noDict_hsm h2) hg (by omega) (fun _ _ e => e) (fun h' u tk hk => ?_) h4
  exact ⟨.str d.shown, H, I.kept (h' := h') hk, ⟨u, rfl⟩, q⟩
end
section
variable {X : Cx} {k j : Nat} {x : Str} {sp : Sp} {p pos : Pos} {e : Expr} {es : List Expr} {t : TA} {E : XK}
theorem pe_x (c : CalX X.prog X.w X.K X.mg X.base k x sp) (hr : Room j X.A) (hk : k ≤ j) (hg : Gl X x) (hx : Passes (L2.CX X.prog X.w) X E) (ha : PA X (e :: es) t)
    (hdb : (x == ("__debug__" : Str)) = false := by decide) (he : starEach (e :: es) X.env = (false, eval e X.env) :: starEach es X.env := by rfl) (hpl : (backTo pos (starEach es X.env)).any (·.1) = false := by rfl) :
    PE X (.Call (.Name x p) (e :: es) [] pos) (tCall sp [] E t) := by
  obtain ⟨f, fd, ps, F, hm, kp, b⟩ := c.ex
  exact pe_call F (hr.mono hk) hg hm kp b .nil hx ha hdb he hpl
theorem run_g {pins : List (Addr × Obj)} {σ : L2.St} {H : Hp} {s : Shared} {Q : VK} {f : Addr} {fd : FuncData} {ps : List Str} {us : List Value} {vs : List V} (F : FnG X.prog X.w X.K X.mg X.base k f fd ps sp) (hg : X.A.guards = some []) (hr : Room k X.A)
    (hb : Binds X.K fd ps []) (I : L2.Inv X pins σ H s) (r : Vals vs us) (h : sp vs H Q E) : wpAny (model X.prog X.w) X.A (call (.ref f) us) (EP X pins σ Q) X.xe s := by
  have hl : (us ++ []).length = ps.length := by rw [List.append_nil, ← r.length]; exact F.len _ _ _ _ h
  have b0 := hb s us I.kIn hl
  rw [List.append_nil] at b0
  refine wpAny_call (codeAny_mono (F.run X.A X.stack s H ⟨us, []⟩ us vs Q E hg hr I.env0 b0 r h) (fun r s' hq => ?_))
  rcases r with e | fl
  · exact (show False from hq).elim
  · cases fl with
    | ret u => exact I.after hq
    | next => exact hq.elim
    | brk => exact hq.elim
    | cont => exact hq.elim
theorem pe_g (c : CalG X.prog X.w X.K X.mg X.base k x sp) (hgd : X.A.guards = some []) (hr : Room j X.A) (hk : k ≤ j) (hg : Gl X x) (ha : PA X (e :: es) t)
    (hdb : (x == ("__debug__" : Str)) = false := by decide) (he : starEach (e :: es) X.env = (false, eval e X.env) :: starEach es X.env := by rfl) (hpl : (backTo pos (starEach es X.env)).any (·.1) = false := by rfl) :
    PE X (.Call (.Name x p) (e :: es) [] pos) (tCall sp [] E0 t) := by
  obtain ⟨f, fd, ps, F, hm, kp, b⟩ := c.ex
  constructor
  intro pins s σ H Q I h
  refine wpAny_Call_Name_kw (ld_glob I hg hm ?_ hdb)
  refine PySem.W.callWith_K (h₀ := X.base) I.ok.mod.kin kp (thn (ha.run pos pins s σ H _ I h) (fun us s1 ⟨vs, H1, I1, r, q⟩ => ⟨I1.kIn, ?_⟩)) he hpl
  have q' : sp (vs ++ []) H1 Q E0 := q
  rw [List.append_nil] at q'
  exact run_g F hgd (hr.mono hk) b I1 r q'
theorem pe_g0 (c : CalG X.prog X.w X.K X.mg X.base k x sp) (hgd : X.A.guards = some []) (hr : Room j X.A) (hk : k ≤ j) (hg : Gl X x) (hdb : (x == ("__debug__" : Str)) = false := by decide) :
    PE X (.Call (.Name x p) [] [] pos) (tCall sp [] E0 tNil) := by
  obtain ⟨f, fd, ps, F, hm, kp, b⟩ := c.ex
  constructor
  intro pins s σ H Q I h
  refine wpAny_Call_Name_kw (ld_glob I hg hm ?_ hdb)
  exact PySem.W.callWith_K0 I.kIn kp (run_g (us := []) F hgd (hr.mono hk) b I .nil h)
end
end Bs


set_option Elab.async false
set_option linter.all false
set_option maxRecDepth 100000
set_option maxHeartbeats 1000000
namespace Rs
open PySem PySem.Spec PyProof.Rows L2 Bs Fq LamX RZ Cu Pg Dd
theorem ftB_int {x : Int} (h : x.natAbs < 2 ^ 350) : ftB 0 350 (.int x) = true := by
  have l : x.natAbs.log2 < 350 := PySem.Flt.log2_lt_of (by decide) h
  have t := int_text_length_le (a := x) (k := 350) (by decide) l
  have e : (PyData.shown (.int x)).length = (toString x).length := by
    show (Str.ofString (toString x)).length = _
    exact PySem.ofString_length _
  unfold ftB
  simp only [Bool.and_eq_true, decide_eq_true_eq, Bool.not_eq_true']
  refine ⟨?_, rfl, ?_, ?_, ?_⟩
  · simp only [PyData.showable, decide_eq_true_eq]
    omega
  · simp [PyData.depth]
  · simp only [PyData.leavesShort, decide_eq_true_eq]
    omega
  · simp only [PyData.weight]
    split <;> omega
theorem ftB_frac {q : F} (h1 : q.1.natAbs < 2 ^ 350) (h2 : q.2.natAbs < 2 ^ 350) : ftB 1 702 (dF q) = true := by
  refine ft_tup (k := 0) (n := 350) (fun d hd => ?_) (by show 351 * 2 ≤ 702; decide)
  rcases List.mem_cons.mp hd with rfl | hd
  · exact ftB_int h1
  · rw [List.mem_singleton.mp hd]
    exact ftB_int h2
theorem sz_small {D : Int} {m : Nat → Rat} (z : Sz D m) (i : Nat) : (rf (m i)).1.natAbs < 2 ^ 350 ∧ (rf (m i)).2.natAbs < 2 ^ 350 := by
  obtain ⟨a, b, c⟩ := (rf_cb (z.o i)).small (N := 170) z.p (Nat.le_trans z.l (Nat.pow_le_pow_right (by decide) (by decide))) (Nat.le_refl _)
  have : (2 : Nat) ^ 170 < 2 ^ 350 := Nat.pow_lt_pow_right (by decide) (by decide)
  exact ⟨by omega, by omega⟩
theorem sh_rl {D : Int} {m : Nat → Rat} (z : Sz D m) {L : Nat} (h : L ≤ 9) : Sh.Ok (dP (rl m L)) := by
  refine ft_ok (k := 2) (n := 6327) (ft_tup (k := 1) (n := 702) (fun d hd => ?_) ?_) (by decide) (by decide)
  · obtain ⟨q, hq, rfl⟩ := List.mem_map.mp hd
    obtain ⟨i, _, rfl⟩ := List.mem_map.mp hq
    exact ftB_frac (sz_small z i).1 (sz_small z i).2
  · rw [List.length_map, rl_len]
    omega
theorem shaped_dP (qs : List F) : SeqAt.shaped (dP qs) = true := by
  unfold SeqAt.shaped
  rw [Bool.and_eq_true_iff]
  refine ⟨?_, decide_eq_true ?_⟩
  · simpa [dP, PyData.canLay0] using can_dFs qs
  · have := dep_dFs qs
    simp only [dP, PyData.depth]
    omega
theorem eqv_dFr (q : F) : PyData.eqv (dF q) (dF q) = true := by simp [dF, PyData.eqv, PyData.eqvAll]
theorem eqv_dPr (qs : List F) : PyData.eqv (dP qs) (dP qs) = true := by
  show PyData.eqvAll (qs.map dF) (qs.map dF) = true
  induction qs with
  | nil => rfl
  | cons q qs ih =>
    show (PyData.eqv (dF q) (dF q) && PyData.eqvAll (qs.map dF) (qs.map dF)) = true
    rw [eqv_dFr, ih]
    rfl
structure RR (k : Kd) (ρ c : Nat → Rat) (L : Nat) (D E : Int) : Prop where
  R : Rwc ρ L D
  zm : Sz E (um ρ)
  zc : Sz E c
  l6 : L ≤ 6
  hP : ∀ n, 1 ≤ n → n < L → Pk k c n = um ρ n
  hm : ∀ n, 1 ≤ n → n < L → mf k (um ρ) c n n = um ρ n
  hS : ∀ n, 1 ≤ n → n < L → Sk k (um ρ) n = c n
structure BR (k : Kd) (t : Rat) (c m : Nat → Rat) (L : Nat) (D E : Int) : Prop where
  zm : Sz E m
  zc : Sz E c
  zg : Sz E (g1 c)
  t0 : 0 < t
  dt : Dm (rf t)
  m0 : m 0 = 1
  l5 : L ≤ 5
  hm : ∀ n, 1 ≤ n → n ≤ L → mf k m c n n = m n
  hP : ∀ n, n ≤ L → Pk k c n = m n
  hG : ∀ n, n ≤ L → Pk k (g1 c) n = m n
  R : Rwc (fun i => t * m i) (L + 1) D
theorem um_scale {t : Rat} {m : Nat → Rat} (t0 : 0 < t) (m0 : m 0 = 1) : um (fun i => t * m i) = m := by
  funext i
  show t * m i / (t * m 0) = m i
  have : t ≠ 0 := fun z => by
    rw [z] at t0
    exact absurd t0 (by decide)
  rw [m0]
  grind
theorem rl_scale {ρ : Nat → Rat} (h : 0 < ρ 0) (L : Nat) : rl (fun i => ρ 0 * um ρ i) L = rl ρ L := by
  refine rl_congr fun i _ => ?_
  show ρ 0 * (ρ i / ρ 0) = ρ i
  have : ρ 0 ≠ 0 := fun z => by
    rw [z] at h
    exact absurd h (by decide)
  grind
abbrev sRR : Stmt := top 80
abbrev sBR : Stmt := top 81
abbrev NRR : List Str := ["row", "kind", "kept", "due", "twice", "many"]
abbrev NBR : List Str := ["total", "cumulants_so", "kind", "due", "many", "one"]
def spRR (K : PySem.W.Frag) : Sp := fun vs H Q _ => ∃ (v : V) (k : Kd) (ρ c : Nat → Rat) (L : Nat) (D E : Int), vs = [v, .str (kdS k)] ∧ Po K H v (rl ρ L) ∧ RR k ρ c L D E ∧ ∀ H', Same H H' → Q (.bl true) H'
def spBR (K : PySem.W.Frag) : Sp := fun vs H Q _ => ∃ (u v : V) (k : Kd) (t : Rat) (c m : Nat → Rat) (L : Nat) (D E : Int), vs = [u, v, .str (kdS k)] ∧ Fr K H u (rf t) ∧ Po K H v (rl (cs c) L) ∧ BR k t c m L D E ∧ ∀ H', Same H H' → Q (.bl true) H'
theorem Po.ref {K : PySem.W.Frag} {H : Hp} {v : V} {qs : List F} (h : Po K H v qs) : ∃ a, v = .ref a := by
  obtain ⟨a, _, rfl, _⟩ := h
  exact ⟨a, rfl⟩
section
variable {P : Program} {w : World} {K : PySem.W.Frag} {mg : Str → Option Value} {base : Heap} {f : Addr} {fd : FuncData}
theorem scRR : FnScope NRR ["row", "kind"] (defScope sRR) := ⟨rfl, rfl, rfl, by decide +kernel, rfl, by decide +kernel, by decide +kernel⟩
theorem ok_rr (F : Fun K "_law_row_right" "_law_row_right" sRR f fd) (T : Blt mg) (LC : Cal P w K mg base 5 "_law_cumulants" (spLC K)) (CO : Cal P w K mg base 8 "cumulants_of" (spCB K)) (RO : Cal P w K mg base 8 "row_of_cumulants" (spRB K)) (CY : Cal P w K mg base 6 "cumulant_by" (spCY K)) : FnG P w K mg base 9 f fd ["row", "kind"] (spRR K) := by
  refine FnG.ok F scRR (fun vs H Q E h => ?_) (fun cdv A outer s H vs Q E hgd hr h => ?_)
  · obtain ⟨v, k, ρ, c, L, D, E, rfl, _⟩ := h
    rfl
  · obtain ⟨v, k, ρ, c, L, D, E, rfl, pc, rr, kk⟩ := h
    obtain ⟨a, xs, rfl, sx, fx⟩ := id pc
    have R := rr.R
    have l1 := R.l1
    have l6 := rr.l6
    have lx := fx.len
    rw [rl_len] at lx
    obtain ⟨y0, q0, g0, g1, f0⟩ := fx.get (i := 0) (by rw [rl_len]; exact l1)
    rw [rl_get l1] at g1
    cases g1
    have shR := sh_rl R.z (L := L) (by omega)
    have shC : Sh.Ok (dP (rl (cs c) (L - 1))) := sh_rl (D := E) (m := cs c) ⟨rr.zc.p, rr.zc.l, fun i => rr.zc.o (i + 1)⟩ (by omega)
    have hy : CuHyp k ρ c L D E := ⟨R, rr.zm, rr.zc, rr.hm⟩
    refine ⟨_, C8.pss_cut (ps_par (i := 2) (j := 3) (by rfl) scRR.nd rfl rfl (by decide) rfl rfl (pa_cons (pe_callB (call_repr hgd hr.units) (by rfl) T.repr (by decide +kernel) (pa_cons (pv 0) pa_nil)) (pa_cons (pe_n LC hr (by decide) (by rfl) (pa_cons (pv 1) (pa_cons (pv 0) pa_nil))) pa_nil)) (by rfl))
      (C8.pss_cut (ps_for PassesOwn.never rfl (pi_range1 rfl T.range (pa_cons pe_int pa_nil)) (pg_name (i := 4) scRR.nd rfl (Or.inl rfl))
      (pss_one (ps_if (pt_cmpR op_ne (pe_callB (call_repr hgd hr.units) (by rfl) T.repr (by decide +kernel) (pa_cons (pe_n CO hr (by decide) (by rfl) (pa_cons (pv 0) (pa_cons (pv 1) pa_nil))) pa_nil)) (pe_callB (call_repr hgd hr.units) (by rfl) T.repr (by decide +kernel) (pa_cons (pv 3) pa_nil)) (nomark _)) (pss_one (ps_ret pe_bl)) pss_nil)))
      (C8.pss_cut (ps_if (PW.pt (pw_or (pt_cmpR op_ne (pe_callB (call_repr hgd hr.units) (by rfl) T.repr (by decide +kernel) (pa_cons (pe_n RO hr (by decide) (by rfl) (pa_cons (pe_ix ix_tup (pv 0) pe_int (fun _ _ => rfl)) (pa_cons (pv 3) (pa_cons (pv 1) pa_nil)))) pa_nil)) (pe_callB (call_repr hgd hr.units) (by rfl) T.repr (by decide +kernel) (pa_cons (pv 0) pa_nil)) (nomark _)) (pw_or1 (pt_cmpR op_ne (pe_callB (call_repr hgd hr.units) (by rfl) T.repr (by decide +kernel) (pa_cons (pv 0) pa_nil)) (pv 2) (nomark _))))) (pss_one (ps_ret pe_bl)) pss_nil)
      (C8.pss_cut (ps_for PassesOwn.never rfl (pi_range2 rfl T.range (pa_cons pe_int (pa_cons (pe_callB call_len_seq (by rfl) T.len (by decide +kernel) (pa_cons (pv 0) pa_nil)) pa_nil))) (pg_name (i := 5) scRR.nd rfl (Or.inl rfl))
      (pss_one (ps_if (pt_cmpR (op_neD hr.units) (pe_n CY hr (by decide) (by rfl) (pa_cons (pv 0) (pa_cons (pv 1) (pa_cons (pv 5) pa_nil)))) (pe_ix ix_tup (pv 3) (pe_op op_sub (pv 5) pe_int) (fun _ _ => rfl)) (nomark _)) (pss_one (ps_ret pe_bl)) pss_nil)))
      (pss_one (ps_ret pe_bl))))), ?_⟩
    refine ⟨fun σ H1 => ∃ b, Same H H1 ∧ Po K H1 (.ref b) (rl (cs c) (L - 1)) ∧ σ = [some (.ref a), some (.str (kdS k)), some (.str (dP (rl ρ L)).shown), some (.ref b), none, none], ?_, ?_⟩
    · refine ⟨_, rfl, a, _, rfl, pc.dp, shR.s, shR.n, shR.dep, shR.l, ?_⟩
      exact ⟨_, rfl, _, rfl, .ref a, k, ρ, c, L, D, E, rfl, pc, R, rr.zm, rr.zc, l6, rr.hP, fun H1 b s1 pb => ⟨_, _, rfl, b, s1, pb, rfl⟩⟩
    rintro σ H1 ⟨b, s1, pb, rfl⟩
    refine ⟨fun σ H2 => ∃ v4, Same H1 H2 ∧ σ = [some (.ref a), some (.str (kdS k)), some (.str (dP (rl ρ L)).shown), some (.ref b), v4, none], ?_, ?_⟩
    · refine ⟨_, rfl, by decide, by decide, for_range (n := (2 : Int).toNat) (fun i σ H2 => ∃ v4, Same H1 H2 ∧ σ = [some (.ref a), some (.str (kdS k)), some (.str (dP (rl ρ L)).shown), some (.ref b), v4, none]) ⟨none, fun _ _ z => z, rfl⟩ ?_ (fun σ H2 q => q)⟩
      rintro i σ H2 hi ⟨v4, s2, rfl⟩
      refine ⟨_, rfl, _, rfl, .ref a, k, ρ, c, L, D, E, rfl, Po.mono (s1.trans s2) pc, hy, fun H3 e s3 pe => ?_⟩
      refine ⟨e, dP (rl (cs c) (L - 1)), rfl, pe.dp, shC.s, shC.n, shC.dep, shC.l, ?_⟩
      refine ⟨_, rfl, b, _, rfl, (Po.mono (s2.trans s3) pb).dp, shC.s, shC.n, shC.dep, shC.l, ?_⟩
      exact ⟨rfl, false, by simp, _, s2.trans s3, rfl⟩
    rintro σ H2 ⟨v4, s2, rfl⟩
    have s02 := s1.trans s2
    refine ⟨fun σ H3 => Same H2 H3 ∧ σ = [some (.ref a), some (.str (kdS k)), some (.str (dP (rl ρ L)).shown), some (.ref b), v4, none], ?_, ?_⟩
    · refine ⟨_, rfl, a, xs, _, y0, rfl, rfl, Bs.Same.t s02 sx, atI_nat (j := 0) g0, _, rfl, _, rfl, y0, .ref b, k, ρ 0, um ρ, c, L - 1, E, rfl, f0.mono s02, Po.mono s2 pb, ⟨rr.zm, rr.zc, um_zero R.p, R.p, R.z.dm 0, by omega, fun n n1 nL => rr.hm n n1 (by omega)⟩, fun H3 e s3 pe => ?_⟩
      rw [show L - 1 + 1 = L by omega, rl_scale R.p] at pe
      refine ⟨e, _, rfl, pe.dp, shR.s, shR.n, shR.dep, shR.l, ?_⟩
      refine ⟨_, rfl, a, _, rfl, (Po.mono (s02.trans s3) pc).dp, shR.s, shR.n, shR.dep, shR.l, ?_⟩
      refine ⟨rfl, false, by simp, ?_⟩
      refine ⟨_, rfl, a, _, rfl, (Po.mono (s02.trans s3) pc).dp, shR.s, shR.n, shR.dep, shR.l, ?_⟩
      exact ⟨_, rfl, rfl, false, by simp, s3, rfl⟩
    rintro σ H3 ⟨s3, rfl⟩
    have s03 := s02.trans s3
    obtain ⟨b', ys, eb, sy, fy⟩ := Po.mono (s2.trans s3) pb
    cases eb
    refine ⟨fun σ H4 => Same H3 H4, ?_, ?_⟩
    · refine ⟨_, rfl, a, xs, rfl, .inr (Bs.Same.t s03 sx), _, _, rfl, ⟨by omega, by omega, by omega, by omega⟩, for_range (lo := 1) (n := ((xs.length : Int) - 1).toNat) (fun i σ H4 => ∃ v5, Same H3 H4 ∧ σ = [some (.ref a), some (.str (kdS k)), some (.str (dP (rl ρ L)).shown), some (.ref b), v4, v5]) ⟨none, fun _ _ z => z, rfl⟩ ?_ ?_⟩
      · rintro i σ H4 hi ⟨v5, s4, rfl⟩
        have es : (1 : Int) + (i : Nat) = ((i + 1 : Nat) : Int) := by omega
        rw [es]
        have il : i + 1 < L := by omega
        obtain ⟨y2, q2, h1, h2, h3⟩ := fy.get (i := i) (by rw [rl_len]; omega)
        rw [rl_get (by omega)] at h2
        cases h2
        have e0 : ((i + 1 : Nat) : Int) - 1 = (i : Nat) := by omega
        refine ⟨_, rfl, _, rfl, _, rfl, .ref a, k, ρ, L, i + 1, D, E, rfl, Po.mono (s03.trans s4) pc, R, rr.zm, by omega, il, by omega, fun H5 u s5 fu => ?_⟩
        rw [rr.hS (i + 1) (by omega) il] at fu
        refine ⟨_, rfl, _, rfl, _, _, rfl, rfl, b, ys, _, y2, rfl, rfl, Bs.Same.t (s4.trans s5) sy, by rw [e0]; exact atI_nat h1, dF (rf (c (i + 1))), dF (rf (c (i + 1))), fu.dp, (h3.mono (s4.trans s5)).dp, shaped_dF _, shaped_dF _, _, rfl, ?_⟩
        rw [eqv_dFr]
        exact iteF ⟨_, s4.trans s5, rfl⟩
      · rintro σ H4 ⟨v5, s4, rfl⟩
        exact s4
    rintro σ H4 s4
    exact kk H4 (s03.trans s4)
theorem scBR : FnScope NBR ["total", "cumulants_so", "kind"] (defScope sBR) := ⟨rfl, rfl, rfl, by decide +kernel, rfl, by decide +kernel, by decide +kernel⟩
theorem ok_br (F : Fun K "_law_back_right" "_law_back_right" sBR f fd) (T : Blt mg) (en : mg "enumerate" = none) (LP : Cal P w K mg base 5 "_law_plain" (spLP K)) (CO : Cal P w K mg base 8 "cumulants_of" (spCB K)) (RO : Cal P w K mg base 8 "row_of_cumulants" (spRB K)) (MB : Cal P w K mg base 5 "moment_by" (spMB K)) (LT : Cal P w K mg base 2 "_law_times" (spOp K mul domL)) : FnOk P w K mg base CX0 9 f fd ["total", "cumulants_so", "kind"] (spBR K) := by
  refine F.ok scBR (fun vs H Q E h => ?_) (fun cdv A outer s H vs Q E hr h => ?_)
  · obtain ⟨u, v, k, t, c, m, L, D, E, rfl, _⟩ := h
    rfl
  · obtain ⟨u, v, k, t, c, m, L, D, E, rfl, ft, pc, br, kk⟩ := h
    obtain ⟨av, rfl⟩ := pc.ref
    have l5 := br.l5
    have rb : RbHyp k t m c L E := ⟨br.zm, br.zc, br.m0, br.t0, br.dt, by omega, br.hm⟩
    refine ⟨_, C8.pss_cut (ps_set (i := 3) scBR.nd rfl (Or.inl rfl) (pe_n LP hr (by decide) (by rfl) (pa_cons (pv 2) (pa_cons (pv 1) pa_nil))))
      (C8.pss_cut (ps_if (pt_cmpR (op_neD hr.units) (pe_n RO hr (by decide) (by rfl) (pa_cons (pv 0) (pa_cons (pv 1) (pa_cons (pv 2) pa_nil)))) (pe_callTy call_tuple_of (by rfl) T.tuple (by decide +kernel) (pa_cons (pe_lc (own := [("one", 5)]) (g := gName 5) (tt := tYes) rfl scBR.nd (pi_list (pv 3)) (blkOk_by (N := NBR) (sc := defScope sBR) (by decide +kernel))
          (fun _ _ _ _ _ => pg_name (i := 5) scBR.nd rfl (Or.inl rfl)) (fun _ _ _ _ _ => pts_nil)
          (fun _ _ _ _ _ => (pe_n LT hr (by decide) (by rfl) (pa_cons (pv 0) (pa_cons (pv 5) pa_nil))))) pa_nil)) (nomark _)) (pss_one (ps_ret pe_bl)) pss_nil)
      (C8.pss_cut (ps_for PassesOwn.never rfl (pi_enum (by rfl) en (pa_cons (pv 3) pa_nil)) (pg_tup rfl (pgs_cons (pg_name (i := 4) scBR.nd rfl (Or.inl rfl)) (pgs_cons (pg_name (i := 5) scBR.nd rfl (Or.inl rfl)) pgs_nil)))
      (pss_one (ps_if (pt_cmpR (op_neD hr.units) (pe_n MB hr (by decide) (by rfl) (pa_cons (pv 2) (pa_cons (pv 1) (pa_cons (pv 4) pa_nil)))) (pv 5) (nomark _)) (pss_one (ps_ret pe_bl)) pss_nil)))
      (pss_one (ps_ret (pe_cmpR (op_eqD hr.units) (pe_n CO hr (by decide) (by rfl) (pa_cons (pe_n RO hr (by decide) (by rfl) (pa_cons (pv 0) (pa_cons (pv 1) (pa_cons (pv 2) pa_nil)))) (pa_cons (pv 2) pa_nil))) (pv 1) (nomark _)))))), ?_⟩
    refine ⟨fun σ H1 => ∃ M, Same H H1 ∧ PoL K H1 (.ref M) (rl m (L + 1)) ∧ σ = [some u, some (.ref av), some (.str (kdS k)), some (.ref M), none, none], ?_, ?_⟩
    · refine ⟨_, rfl, _, rfl, .ref av, k, c, L, E, rfl, pc, br.zc, l5, fun H1 M s1 pM => ⟨M, s1, ?_, rfl⟩⟩
      rwa [rl_congr (g := m) (fun i hi => br.hP i (by omega))] at pM
    rintro σ H1 ⟨M, s1, pM, rfl⟩
    refine ⟨fun σ H2 => Same H1 H2 ∧ σ = [some u, some (.ref av), some (.str (kdS k)), some (.ref M), none, none], ?_, ?_⟩
    · refine ⟨_, rfl, _, rfl, _, rfl, u, .ref av, k, t, m, c, L, E, rfl, ft.mono s1, Po.mono s1 pc, rb, fun H2 e s2 pe => ?_⟩
      obtain ⟨Ma, ms, eM, gM, fM⟩ := pM.mono s2
      cases eM
      have lm := fM.len
      rw [rl_len] at lm
      refine ⟨_, rfl, M, rfl, ⟨_, SqL.of gM⟩, fun D0 hD => lc_list (K := K) (a := M) (xs := ms) (fun i H4 => Same H2 H4 ∧ ∃ vs, H4 D0 = some (.lst vs) ∧ FrAll K H4 vs (rl (fun i => t * m i) i)) ⟨same_new hD, [], upd_same, .nil⟩ (fun i H4 _ z => SqL.of (z.1 _ _ gM)) ?_ ?_⟩
      · rintro i x H4 hx ⟨s4, vs, hD4, fv⟩
        have hi : i < ms.length := (List.getElem?_eq_some_iff.mp hx).1
        obtain ⟨y, q, g2, g3, g4⟩ := fM.get (i := i) (by rw [rl_len]; omega)
        rw [hx] at g2
        cases g2
        rw [rl_get (by omega)] at g3
        cases g3
        have lv := fv.len
        rw [rl_len] at lv
        refine ⟨rfl, ?_⟩
        refine iteT (B := Same H2 H4 ∧ ∃ vs, H4 D0 = some (.lst vs) ∧ FrAll K H4 vs (rl (fun i => t * m i) (i + 1))) ?_
        refine ⟨_, rfl, _, rfl, u, x, _, _, rfl, ft.mono ((s1.trans s2).trans s4), g4.mono s4, ⟨br.dt.toDl, (br.zm.dm i).toDl⟩, fun p hp => ?_⟩
        have s5 := same_new (o := fr (mul (rf t) (rf (m i)))) hp
        have g5 := s5 _ _ hD4
        refine ⟨vs, g5, small1000 (by omega), fun c o e => (upd_ne (ne_of_none e hD)).trans (s5 c o (s4 c o e)), _, upd_same, ?_⟩
        have e1 : mul (rf t) (rf (m i)) = rf (t * m i) := rf_eq (ok_mul' (rf_ok _).1 (rf_ok _).1) (by rw [val_mul (rf_ok _).1 (rf_ok _).1, rf_val, rf_val])
        rw [rl_succ, ← e1]
        exact (FrAll.off g5 (fv.mono s5)).snoc ((Fr.of upd_same).off g5)
      · rintro H4 ⟨s4, vs, hD4, fv⟩
        rw [lm] at fv
        refine ⟨D0, vs, rfl, .inl ⟨SqL.of hD4, fun p hp => ?_⟩⟩
        have s5 := same_new (o := .tup vs) hp
        have pp : Po K (upd H4 p (.tup vs)) (.ref p) (rl (fun i => t * m i) (L + 1)) := ⟨p, vs, rfl, SqT.of upd_same, fv.mono s5⟩
        refine ⟨dP (rl (fun i => t * m i) (L + 1)), dP (rl (fun i => t * m i) (L + 1)), (Po.mono (s4.trans s5) pe).dp, pp.dp, shaped_dP _, shaped_dP _, _, rfl, ?_⟩
        rw [eqv_dPr]
        exact iteF ⟨(s2.trans s4).trans s5, rfl⟩
    rintro σ H2 ⟨s2, rfl⟩
    have s02 := s1.trans s2
    obtain ⟨Ma, ms, eM, gM, fM⟩ := pM.mono s2
    cases eM
    have lm := fM.len
    rw [rl_len] at lm
    refine ⟨fun σ H3 => ∃ v4 v5, Same H2 H3 ∧ σ = [some u, some (.ref av), some (.str (kdS k)), some (.ref M), v4, v5], ?_, ?_⟩
    · refine ⟨_, rfl, M, ms, rfl, SqL.of gM, ?_⟩
      refine for_it (walk_enum (xs := ms)) (fun i σ H3 => ∃ v4 v5, Same H2 H3 ∧ σ = [some u, some (.ref av), some (.str (kdS k)), some (.ref M), v4, v5]) ⟨none, none, fun _ _ z => z, rfl⟩ (fun i σ H3 _ q => by
        obtain ⟨_, _, s3, _⟩ := q
        exact SqL.of (s3 _ _ gM)) ?_ ?_
      · rintro i x σ H3 H4 hi ⟨v4, v5, s3, rfl⟩ ⟨T', x', y', rfl, hT, rfl, h1, h2⟩
        cases h1
        have h2' : ms[i]? = some y' := h2
        obtain ⟨y2, q, g1, g2, g3⟩ := fM.get (i := i) (by rw [rl_len]; omega)
        have ey : y2 = y' := by
          rw [g1] at h2'
          exact Option.some.inj h2'
        subst ey
        rw [rl_get (by omega)] at g2
        cases g2
        have s4 := same_new (o := .tup [.int (i : Nat), y2]) hT
        have s24 := s3.trans s4
        refine ⟨T', _, rfl, SqT.of upd_same, rfl, _, _, rfl, _, _, rfl, rfl, ?_⟩
        generalize upd H3 T' (.tup [.int (i : Nat), y2]) = H4 at *
        refine ⟨_, rfl, _, rfl, _, rfl, .ref av, k, c, L, i, E, rfl, Po.mono (s02.trans s24) pc, br.zg, by omega, by omega, by omega, fun H5 y s5 fy => ?_⟩
        rw [br.hG i (by omega)] at fy
        refine ⟨_, rfl, dF (rf (m i)), dF (rf (m i)), fy.dp, (g3.mono (s24.trans s5)).dp, shaped_dF _, shaped_dF _, _, rfl, ?_⟩
        rw [eqv_dFr]
        exact iteF ⟨_, _, s24.trans s5, rfl⟩
      · rintro σ H3 ⟨v4, v5, s3, rfl⟩
        exact ⟨v4, v5, s3, rfl⟩
    rintro σ H3 ⟨v4, v5, s3, rfl⟩
    have s03 := s02.trans s3
    refine ⟨_, rfl, _, rfl, _, rfl, u, .ref av, k, t, m, c, L, E, rfl, ft.mono s03, Po.mono s03 pc, rb, fun H4 e s4 pe => ?_⟩
    have us := um_scale br.t0 br.m0
    refine ⟨_, rfl, .ref e, k, fun i => t * m i, c, L + 1, D, E, rfl, pe, ⟨br.R, by rw [us]; exact br.zm, br.zc, fun n n1 nL => by rw [us]; exact br.hm n n1 (by omega)⟩, fun H5 g s5 pg => ?_⟩
    refine ⟨_, rfl, dP (rl (cs c) L), dP (rl (cs c) L), pg.dp, (Po.mono ((s03.trans s4).trans s5) pc).dp, shaped_dP _, shaped_dP _, ?_⟩
    rw [eqv_dPr]
    exact kk H5 ((s03.trans s4).trans s5)
end
end Rs


set_option Elab.async false
set_option linter.all false
set_option maxRecDepth 100000
set_option maxHeartbeats 1000000
set_option exponentiation.threshold 500
namespace Cu
open Fq Pg Rs
def OvN (D : Int) (N : Nat) (x : Rat) : Prop := ∃ t : Int, x * (D : Rat) = (t : Rat) ∧ t.natAbs ≤ N
theorem OvN.of {D : Int} {n : Nat} {x : Rat} (h : Ov D n x) : OvN D (2 ^ n) x := h
theorem su_ovN {D : Int} {N : Nat} {f : Prt → Rat} {ps : List Prt} (h : ∀ p ∈ ps, OvN D N (f p)) : ∀ i, i ≤ ps.length → OvN D (i * N) (su f ps i)
  | 0, _ => ⟨0, by show (0 : Rat) * _ = 0; rw [Rat.zero_mul], by simp⟩
  | i + 1, hi => by
    have hb : ps[i]? = some ps[i] := List.getElem?_eq_getElem (by omega)
    obtain ⟨t, a, b⟩ := su_ovN h i (by omega)
    obtain ⟨u, c, d⟩ := h _ (List.getElem_mem (show i < ps.length by omega))
    refine ⟨t + u, ?_, ?_⟩
    · rw [su_succ hb, Rat.intCast_add, ← a, ← c]
      grind
    · have := Int.natAbs_add_le t u
      rw [Nat.succ_mul]
      omega
theorem su_ov6 {D : Int} {n : Nat} {f : Prt → Rat} {ps : List Prt} (h : ∀ p ∈ ps, Ov D n (f p)) (l : ps.length ≤ 64) : Ov D (n + 6) (su f ps ps.length) := by
  obtain ⟨t, a, b⟩ := su_ovN (fun p hp => OvN.of (h p hp)) ps.length (Nat.le_refl _)
  refine ⟨t, a, Nat.le_trans b ?_⟩
  rw [Nat.pow_add, Nat.mul_comm (2 ^ n)]
  exact Nat.mul_le_mul l (Nat.le_refl _)
theorem pl_ov2 {D : Int} {b : Nat} {g : Nat → Rat} (z : ∀ i, Ov D b (g i)) (p : Prt) : ∀ i, i ≤ p.length → Ov (D ^ i) (b * i) (pl g p i)
  | 0, _ => by rw [Int.pow_zero]; exact Ov.one
  | i + 1, h => by
    have hb : p[i]? = some p[i] := List.getElem?_eq_getElem (by omega)
    rw [pl_succ hb, Int.pow_succ]
    exact ((pl_ov2 z p i (by omega)).mul (z _)).mono (by rw [Nat.mul_succ]; exact Nat.le_refl _)
theorem pT_ov5 {D : Int} {b d : Nat} {g : Nat → Rat} (z : ∀ i, Ov D b (g i)) (l : D.natAbs ≤ 2 ^ d) (hd : d ≤ b) {p : Prt} (h : p.length ≤ 5) : Ov (D ^ 5) (b * 5) (pT g (lns p)) := by
  have h1 := pl_ov2 z p p.length (Nat.le_refl _)
  rw [pl_all] at h1
  have h2 : (D ^ (5 - p.length)).natAbs ≤ 2 ^ (d * (5 - p.length)) := by
    rw [Int.natAbs_pow, Nat.pow_mul]
    exact Nat.pow_le_pow_left l _
  have h3 := h1.scale h2
  rw [← Int.pow_add, Nat.add_sub_cancel' h] at h3
  refine h3.mono ?_
  have : d * (5 - p.length) ≤ b * (5 - p.length) := Nat.mul_le_mul hd (Nat.le_refl _)
  have e : b * p.length + b * (5 - p.length) = b * 5 := by rw [← Nat.mul_add, Nat.add_sub_cancel' h]
  omega
theorem blk5 : ∀ n ∈ [0, 1, 2, 3, 4, 5], ∀ k ∈ kds, ((partsOf k n).all fun p => decide (p.length ≤ 5)) = true ∧ decide ((partsOf k n).length ≤ 64) = true := by decide +kernel
theorem blk5_at {n : Nat} {k : Kd} (hn : n ≤ 5) : (∀ p ∈ sortW (partsOf k n), p.length ≤ 5) ∧ (sortW (partsOf k n)).length ≤ 64 := by
  obtain ⟨a, b⟩ := blk5 n (by simp; omega) k (kd_mem k)
  refine ⟨fun p hp => of_decide_eq_true (List.all_eq_true.mp a p ((sortW_perm _).mem_iff.mp hp)), ?_⟩
  rw [(sortW_perm _).length_eq]
  exact of_decide_eq_true b
theorem Pk_ov {D : Int} {b d : Nat} {g : Nat → Rat} (z : ∀ i, Ov D b (g i)) (l : D.natAbs ≤ 2 ^ d) (hd : d ≤ b) (k : Kd) {n : Nat} (hn : n ≤ 5) : Ov (D ^ 5) (b * 5 + 6) (Pk k g n) := by
  rw [← su_T]
  exact su_ov6 (fun p hp => pT_ov5 z l hd ((blk5_at hn).1 p hp)) (blk5_at hn).2
theorem Sk_ov {D : Int} {b d : Nat} {g : Nat → Rat} (z : ∀ i, Ov D b (g i)) (l : D.natAbs ≤ 2 ^ d) (hd : d ≤ b) (k : Kd) {n : Nat} (hn : n ≤ 5) : Ov (D ^ 5) (5 + b * 5 + 6) (Sk k g n) := by
  rw [← su_S]
  refine su_ov6 (fun p hp => ?_) (blk5_at hn).2
  have h1 := (int_cb (b := 5) (sgn_at hn hp).2).1.v.mul (pT_ov5 z l hd ((blk5_at hn).1 p hp))
  rwa [(int_cb (b := 5) (sgn_at hn hp).2).2, Int.one_mul] at h1
def S5 (k : Kd) (m : Nat → Rat) : Nat → Rat := fun n => if n ≤ 5 then Sk k m n else 0
def P5 (k : Kd) (c : Nat → Rat) : Nat → Rat := fun n => if n ≤ 5 then Pk k c n else 0
theorem pT_congr {c c' : Nat → Rat} : ∀ {ls : List Nat}, (∀ l ∈ ls, c l = c' l) → pT c ls = pT c' ls
  | [], _ => rfl
  | l :: ls, h => by
    show pT c ls * c l = pT c' ls * c' l
    rw [pT_congr fun x hx => h x (List.mem_cons_of_mem _ hx), h l List.mem_cons_self]
theorem sumT_congr {c c' : Nat → Rat} : ∀ {ts : List (List Nat)}, (∀ t ∈ ts, ∀ l ∈ t, c l = c' l) → sumT c ts = sumT c' ts
  | [], _ => rfl
  | t :: ts, h => by
    show sumT c ts + pT c t = sumT c' ts + pT c' t
    rw [sumT_congr fun x hx => h x (List.mem_cons_of_mem _ hx), pT_congr fun l hl => h t List.mem_cons_self l hl]
theorem Pk_congr {k : Kd} {c c' : Nat → Rat} {n : Nat} (hn : n ≤ 6) (h : ∀ i, 1 ≤ i → i ≤ n → c i = c' i) : Pk k c n = Pk k c' n := by
  refine sumT_congr fun t ht l hl => ?_
  obtain ⟨p, hp, rfl⟩ := List.mem_map.mp ht
  obtain ⟨b, hb, rfl⟩ := List.mem_map.mp hl
  obtain ⟨_, h2⟩ := blk_at (k := k) hn ((sortW_perm (partsOf k n)).mem_iff.mpr hp)
  exact h _ (h2 b hb).1 (h2 b hb).2
/-- a row by its fractions -/
def rho (qs : List F) : Nat → Rat := fun i => val (co qs i)
theorem row_is {qs : List F} (h : ∀ q ∈ qs, Fq.Ok q) : qs = rl (rho qs) qs.length := by
  refine List.ext_getElem? fun i => ?_
  by_cases c : i < qs.length
  · rw [rl_get c, co_lt c]
    unfold rho
    rw [rf_of (h _ (co_mem c))]
  · rw [List.getElem?_eq_none (by omega), List.getElem?_eq_none (by rw [rl_len]; omega)]
theorem rr_of (k : Kd) {qs : List F} {D : Int} (hc : Ca D 29 qs) (p : 0 < D) (l : D.natAbs ≤ 2 ^ 100) (n : qs ≠ []) (l6 : qs.length ≤ 6) (h0 : 0 < (co qs 0).1) : ∃ c E, RR k (rho qs) c qs.length D E := by
  have z0 : Sz D (rho qs) := ⟨p, Nat.le_trans l (Nat.pow_le_pow_right (by decide) (by decide)), fun i => (hc.co i).v.mono (by decide)⟩
  have hp : 0 < rho qs 0 := (val_pos (hc.co 0).ok).mpr h0
  have l1 : 1 ≤ qs.length := List.length_pos_iff.mpr n
  obtain ⟨u, u0, ul, ue⟩ := (hc.co 0).v.top p hp
  have hu : ∀ i, Ov u 29 (um (rho qs) i) := fun i => by
    obtain ⟨t, a, b⟩ := (hc.co i).v
    refine ⟨t, ?_, b⟩
    rw [← a, ← ue]
    show rho qs i / rho qs 0 * (rho qs 0 * (D : Rat)) = rho qs i * (D : Rat)
    have : rho qs 0 ≠ 0 := fun z => by
      rw [z] at hp
      exact absurd hp (by decide)
    grind
  have p5 : 0 < u ^ 5 := Int.pow_pos u0
  have pw4 : ∀ n : Nat, (u ^ n).natAbs ≤ 2 ^ (29 * n) := fun n => by
    rw [Int.natAbs_pow, Nat.pow_mul]
    exact Nat.pow_le_pow_left ul n
  have l5 : (u ^ 5).natAbs ≤ 2 ^ 150 := Nat.le_trans (pw4 5) (Nat.pow_le_pow_right (by decide) (by decide))
  have hm5 : ∀ i, Ov (u ^ 5) 170 (um (rho qs) i) := fun i => by
    have h1 := (hu i).scale (pw4 4)
    rw [show u * u ^ 4 = u ^ 5 by rw [Int.mul_comm, ← Int.pow_succ]] at h1
    exact h1.mono (by decide)
  have cS : ∀ n, n ≤ 5 → S5 k (um (rho qs)) n = Sk k (um (rho qs)) n := fun n h => if_pos h
  have u1 := um_zero hp
  refine ⟨S5 k (um (rho qs)), u ^ 5, ⟨z0, hp, l1, by omega⟩, ⟨p5, l5, hm5⟩, ⟨p5, l5, fun i => ?_⟩, l6, fun n n1 nL => ?_, fun n n1 nL => ?_, fun n n1 nL => (cS n (by omega)).symm⟩
  · unfold S5
    split
    · rename_i h
      exact (Sk_ov hu ul (Nat.le_refl _) k h).mono (by decide)
    · exact Ov.zero
  · rw [Pk_congr (c' := Sk k (um (rho qs))) (by omega) (fun i a b => cS i (by omega))]
    exact P_S k _ n1 (by omega)
  · have h := mf_S k (um (rho qs)) u1 n1 (show n ≤ 5 by omega)
    refine Eq.trans ?_ h
    exact mf_congr k (fun _ _ => rfl) (fun i a b => cS i (by omega)) (Nat.le_refl _)
/-- cumulants by their fractions -/
def cum (qs : List F) : Nat → Rat := fun n => if n = 0 then 0 else val (co qs (n - 1))
theorem cum_is {qs : List F} (h : ∀ q ∈ qs, Fq.Ok q) : qs = rl (cs (cum qs)) qs.length := by
  refine (row_is h).trans (rl_congr fun i _ => ?_)
  rfl
theorem br_of (k : Kd) {qs : List F} {t : Rat} (hc : Ca 2 4 qs) (l5 : qs.length ≤ 5) (t0 : 0 < t) (ht : Ov 2 4 t) : ∃ m D E, BR k t (cum qs) m qs.length D E := by
  have z2 : ∀ i, Ov 2 4 (cum qs i) := fun i => by
    unfold cum
    split
    · exact Ov.zero
    · exact (hc.co _).v
  have up : ∀ {b x}, Ov 2 b x → b ≤ 150 → Ov (2 ^ 5) 170 x := fun {b x} h hb => by
    have h1 := h.scale (E := 2 ^ 4) (k := 4) (by decide)
    rw [show (2 : Int) * 2 ^ 4 = 2 ^ 5 by decide] at h1
    exact h1.mono (by omega)
  have hP : ∀ n, n ≤ 5 → P5 k (cum qs) n = Pk k (cum qs) n := fun n h => if_pos h
  have m0 : P5 k (cum qs) 0 = 1 := by rw [hP 0 (by decide), P_zero]
  have ov : ∀ i, Ov (2 ^ 5) 26 (P5 k (cum qs) i) := fun i => by
    unfold P5
    split
    · rename_i h
      exact Pk_ov z2 (d := 1) (by decide) (by decide) k h
    · exact Ov.zero
  have pE : (0 : Int) < 2 ^ 5 := by decide
  have lE : ((2 : Int) ^ 5).natAbs ≤ 2 ^ 150 := Nat.le_trans (show _ ≤ 2 ^ 5 by decide) (Nat.pow_le_pow_right (by decide) (by decide))
  refine ⟨P5 k (cum qs), 2 * 2 ^ 5, 2 ^ 5, ⟨⟨pE, lE, fun i => (ov i).mono (by decide)⟩, ⟨pE, lE, fun i => up (z2 i) (by decide)⟩, ⟨pE, lE, fun i => ?_⟩, t0, ?_, m0, l5, fun n n1 nL => ?_, fun n nL => (hP n (by omega)).symm, fun n nL => ?_, ⟨⟨by decide, Nat.le_trans (show _ ≤ 2 ^ 6 by decide) (Nat.pow_le_pow_right (by decide) (by decide)), fun i => (ht.mul (ov i)).mono (by decide)⟩, ?_, by omega, by omega⟩⟩⟩
  · unfold g1
    split
    · exact up (b := 4) (x := 1) ⟨2, by show (1 : Rat) * ((2 : Int) : Rat) = _; rw [Rat.one_mul], by decide⟩ (by decide)
    · exact up (z2 i) (by decide)
  · exact cb_dm (rf_cb ht) (Bd.of (by decide) (N := 4) (by decide) (by decide) (by decide))
  · have h := mf_P k (cum qs) n1 (show n ≤ 5 by omega)
    rw [hP n (by omega), ← h]
    exact mf_congr k (fun i hi => hP i (by omega)) (fun _ _ _ => rfl) (Nat.le_refl _)
  · rw [hP n (by omega)]
    refine Pk_congr (by omega) fun i a b => ?_
    unfold g1
    rw [if_neg (by omega)]
  · show 0 < t * P5 k (cum qs) 0
    rw [m0, Rat.mul_one]
    exact t0
end Cu


set_option Elab.async false
set_option linter.all false
set_option maxRecDepth 100000
set_option maxHeartbeats 1000000
namespace Cu
open Fq Pg Rs
theorem red_cb {a b : Int} (ha : a.natAbs ≤ 4) (hb : b = 1 ∨ b = 2) : Cb 2 4 (red a b) := by
  have hp : 0 < b := by omega
  refine ⟨red_ok hp, ?_⟩
  rw [val_red hp]
  rcases hb with rfl | rfl
  · refine ⟨2 * a, ?_, by omega⟩
    rw [Rat.intCast_mul, show ((1 : Int) : Rat) = 1 from rfl, Rat.div_def]
    grind
  · refine ⟨a, ?_, by omega⟩
    have := ne0 (show (0 : Int) < 2 by decide)
    grind
theorem one_cb {a : Int} (h0 : 0 ≤ a) (h : a ≤ 8) : Cb 2 4 (a, 1) := by
  have h1 := (int_cb (x := a) (b := 3) (by omega)).1
  have h2 := h1.v.scale (E := 2) (k := 1) (by decide)
  rw [Int.one_mul] at h2
  exact ⟨h1.ok, h2⟩
theorem red_pos {a b : Int} (ha : 0 < a) (hb : 0 < b) : 0 < val (red a b) := by
  rw [val_red hb]
  have h1 : (0 : Rat) < (a : Rat) := by exact_mod_cast ha
  have h2 : (0 : Rat) < (b : Rat) := by exact_mod_cast hb
  rw [Rat.div_def]
  exact Rat.mul_pos h1 (Rat.inv_pos.mpr h2)
/-- what is told by hand -/
def smB (q : F) : Bool := decide (q.2 = 1) && decide (q.1.natAbs ≤ 2 ^ 20)
def grB (k : Kd) (qs cl : List F) : Bool := decide (Rs.co qs 0 = (1, 1)) && (qs.all smB && (cl.all smB && (decide (cl.length + 1 = qs.length) && (decide (qs.length ≤ 9) && (List.range qs.length).all fun n => decide (n = 0) || decide (mf k (rho qs) (cum cl) n n = rho qs n)))))
theorem sm_cb {q : F} (h : smB q = true) : Cb 1 20 q := by
  unfold smB at h
  rw [Bool.and_eq_true, decide_eq_true_eq, decide_eq_true_eq] at h
  obtain ⟨a, b⟩ := q
  obtain ⟨h1, h2⟩ := h
  have h1 : b = 1 := h1
  subst h1
  exact (int_cb h2).1
theorem sm_ca {qs : List F} (h : qs.all smB = true) : Ca 1 20 qs := fun q hq => sm_cb (List.all_eq_true.mp h q hq)
structure Gr (k : Kd) (qs cl : List F) : Prop where
  c0 : Rs.co qs 0 = (1, 1)
  q : Ca 1 20 qs
  c : Ca 1 20 cl
  l : cl.length + 1 = qs.length
  l9 : qs.length ≤ 9
  m : ∀ n, 1 ≤ n → n < qs.length → mf k (rho qs) (cum cl) n n = rho qs n
theorem gr_of {k : Kd} {qs cl : List F} (h : grB k qs cl = true) : Gr k qs cl := by
  unfold grB at h
  simp only [Bool.and_eq_true, decide_eq_true_eq] at h
  obtain ⟨h1, h2, h3, h4, h5, h6⟩ := h
  refine ⟨h1, sm_ca h2, sm_ca h3, h4, h5, fun n n1 nl => ?_⟩
  have := List.all_eq_true.mp h6 n (List.mem_range.mpr nl)
  rw [Bool.or_eq_true, decide_eq_true_eq, decide_eq_true_eq] at this
  rcases this with z | z
  · omega
  · exact z
theorem one_p : (0 : Int) < 1 ∧ (1 : Int).natAbs ≤ 2 ^ 150 := ⟨by decide, Nat.one_le_two_pow⟩
theorem Gr.rho0 {k : Kd} {qs cl : List F} (g : Gr k qs cl) : rho qs 0 = 1 := by
  unfold rho
  rw [g.c0, val_one]
theorem Gr.um {k : Kd} {qs cl : List F} (g : Gr k qs cl) : um (rho qs) = rho qs := by
  funext i
  show rho qs i / rho qs 0 = _
  rw [g.rho0, Rat.div_def]
  grind
theorem Gr.sz {k : Kd} {qs cl : List F} (g : Gr k qs cl) : Sz 1 (rho qs) := ⟨one_p.1, one_p.2, fun i => (g.q.co i).v.mono (by decide)⟩
theorem cum_sz {cl : List F} (h : Ca 1 20 cl) : Sz 1 (cum cl) := ⟨one_p.1, one_p.2, fun i => by
  unfold cum
  split
  · exact Ov.zero
  · exact (h.co _).v.mono (by decide)⟩
theorem Gr.hyp {k : Kd} {qs cl : List F} (g : Gr k qs cl) : CuHyp k (rho qs) (cum cl) qs.length 1 1 := by
  refine ⟨⟨g.sz, by rw [g.rho0]; decide, by have := g.l; omega, g.l9⟩, by rw [g.um]; exact g.sz, cum_sz g.c, fun n n1 nl => ?_⟩
  rw [g.um]
  exact g.m n n1 nl
theorem Gr.rb {k : Kd} {qs cl : List F} (g : Gr k qs cl) {t : Rat} (t0 : 0 < t) (dt : Dm (rf t)) : RbHyp k t (rho qs) (cum cl) cl.length 1 :=
  ⟨g.sz, cum_sz g.c, g.rho0, t0, dt, by have := g.l; have := g.l9; omega, fun n n1 nl => g.m n n1 (by have := g.l; omega)⟩
theorem Ca.okAll {D : Int} {n : Nat} {l : List F} (h : Ca D n l) : ∀ q ∈ l, Fq.Ok q := fun q hq => (h q hq).ok
abbrev qR : List F := [(1, 1), (0, 1), (1, 1), (0, 1), (2, 1)]
abbrev cR : Kd → List F
  | .free => [(0, 1), (1, 1), (0, 1), (0, 1)]
  | .all => [(0, 1), (1, 1), (0, 1), (-1, 1)]
  | .str => [(0, 1), (1, 1), (0, 1), (1, 1)]
abbrev q9 : List F := [(1, 1), (1, 1), (1, 1), (1, 1), (1, 1), (1, 1), (1, 1), (1, 1), (1, 1)]
abbrev c9 : List F := [(1, 1), (0, 1), (0, 1), (0, 1), (0, 1), (0, 1), (0, 1), (0, 1)]
abbrev q3 : List F := [(1, 1), (1, 1), (2, 1), (5, 1)]
abbrev c3 : List F := [(1, 1), (1, 1), (1, 1)]
abbrev c6 : List F := [(1, 1), (1, 1), (1, 1), (1, 1), (1, 1), (1, 1)]
theorem grR (k : Kd) : Gr k qR (cR k) := gr_of (by cases k <;> decide +kernel)
theorem gr9 (k : Kd) : Gr k q9 c9 := gr_of (by cases k <;> decide +kernel)
theorem gr3 : Gr .all q3 c3 := gr_of (by decide +kernel)
theorem gr1 (k : Kd) : Gr k [(1, 1)] [] := gr_of (by cases k <;> decide +kernel)
theorem m203 : rf (Pk .all (g1 (cum c6)) 6) = (203, 1) := by decide +kernel
theorem s4 : rf (Sk .all (um (rho qR)) 4) = (-1, 1) := by decide +kernel
theorem out2 : rl (fun i => (2 : Rat) * rho q3 i) 4 = [(2, 1), (2, 1), (4, 1), (10, 1)] := by decide +kernel
theorem out5 : rl (fun i => (5 : Rat) * rho [(1, 1)] i) 1 = [(5, 1)] := by decide +kernel
theorem out1 : rl (fun i => (1 : Rat) * rho q9 i) 9 = q9 := by decide +kernel
theorem sz6 : Sz 1 (g1 (cum c6)) := ⟨one_p.1, one_p.2, fun i => by
  unfold g1
  split
  · exact Ov.one
  · exact (cum_sz (sm_ca (by decide))).o i⟩
theorem g5 : ∃ c E, CuHyp .all (rho [(5, 1)]) c 1 1 E := by
  obtain ⟨c, E, r⟩ := rr_of .all (qs := [(5, 1)]) (D := 1) (fun q hq => (sm_cb (by rw [List.mem_singleton.mp hq]; decide)).mono (by decide)) (by decide) Nat.one_le_two_pow (by decide) (by decide) (by decide)
  exact ⟨c, E, r.R, r.zm, r.zc, r.hm⟩
theorem cy4 : Rwc (rho qR) 5 1 ∧ Sz 1 (um (rho qR)) := ⟨(grR .all).hyp.1, (grR .all).hyp.2.1⟩
end Cu


set_option Elab.async false
set_option linter.all false
set_option maxRecDepth 100000
set_option maxHeartbeats 1000000
namespace Rs
open PySem PySem.Spec PyProof.Rows L2 Bs Fq LamX RZ Cu Pg Dd
abbrev sLaw : Stmt := top 82
abbrev NLa : List Str := ["script", "state", "kind", "row", "odd", "many", "some", "told", "one", "no", "due", "k"]
def spLaw (K : PySem.W.Frag) : Sp := fun vs H Q _ => ∃ (a : Addr) (ns : List Int), vs = [.ref a] ∧ SqL K H a (ns.map V.int) ∧ ns.length ≤ 63 ∧ ∀ H', Q (.bl true) H'
theorem scLaw : FnScope NLa ["script"] (defScope sLaw) := ⟨rfl, rfl, rfl, by decide +kernel, rfl, by decide +kernel, by decide +kernel⟩
theorem okAll' {D : Int} {n : Nat} {l : List Fq.F} (h : Ca D n l) : ∀ q ∈ l, Fq.Ok q := fun q hq => (h q hq).ok
theorem dm_sm {x : Rat} {q : Fq.F} (e : rf x = q) (h : smB q = true) : Dm (rf x) := by
  rw [e]
  exact cb_dm (sm_cb h) (Bd.of (by decide) (N := 1) (by decide) (by decide) (by decide))
theorem kp_none {p l D : Addr} {H H4 : Hp} (k : Kp p l H H4) (h : H4 D = none) (n1 : p ≠ D) (n2 : l ≠ D) : H D = none := by
  cases e : H D with
  | none => rfl
  | some o =>
    have := k D o e n1.symm n2.symm
    rw [h] at this
    cases this
theorem kinds_at {i : Nat} {x : V} (h : [V.str "all", V.str "free", V.str "stretch"][i]? = some x) : ∃ k : Kd, x = .str (kdS k) := by
  match i, h with
  | 0, h => exact ⟨.all, by cases h; rfl⟩
  | 1, h => exact ⟨.free, by cases h; rfl⟩
  | 2, h => exact ⟨.str, by cases h; rfl⟩
  | n + 3, h => simp at h
theorem dp_kinds {K : PySem.W.Frag} {H : Hp} {v : V} {x y z : Str} (h : Dp K H v (.tuple [.str x, .str y, .str z])) : ∃ t, v = .ref t ∧ SqT K H t [.str x, .str y, .str z] := by
  cases h with
  | @tup t xs _ st dx =>
    cases dx with
    | cons a1 b1 => cases b1 with
      | cons a2 b2 => cases b2 with
        | cons a3 b3 =>
          cases a1
          cases a2
          cases a3
          cases b3
          exact ⟨t, rfl, st⟩
theorem dp_two {K : PySem.W.Frag} {H : Hp} {v : V} {d e : PyData} (h : Dp K H v (.tuple [d, e])) : ∃ t x y, v = .ref t ∧ SqT K H t [x, y] ∧ Dp K H x d ∧ Dp K H y e := by
  cases h with
  | @tup t xs _ st dx =>
    cases dx with
    | cons a1 b1 => cases b1 with
      | cons a2 b2 =>
        cases b2
        exact ⟨t, _, _, rfl, st, a1, a2⟩
theorem noL_dSh (ps : List Pr) : noL (dSh ps) = true := by
  show noLs (ps.map dPr) = true
  induction ps with
  | nil => rfl
  | cons p ps ih =>
    show (noL (dPr p) && noLs (ps.map dPr)) = true
    rw [ih]
    simp [dPr, dF, noL, noLs]
theorem noL_dP (qs : List F) : noL (dP qs) = true := by
  show noLs (qs.map dF) = true
  induction qs with
  | nil => rfl
  | cons p ps ih =>
    show (noL (dF p) && noLs (ps.map dF)) = true
    rw [ih]
    simp [dF, noL, noLs]
/-- fractions being drawn into a list -/
structure Drn (K : PySem.W.Frag) (H0 H : Hp) (p c l : Addr) (n : Nat) (t : Int) (D : Addr) (qs : List F) : Prop where
  S : Sta H p c l n t
  k : Kp p l H0 H
  g : ∃ acc, H D = some (.lst acc) ∧ FrAll K H acc qs
theorem Drn.start {K : PySem.W.Frag} {H : Hp} {p c l D : Addr} {n : Nat} {t : Int} (S : Sta H p c l n t) (hD : H D = none) : Drn K H (upd H D (.lst [])) p c l n t D [] := by
  have s1 := same_new (o := .lst []) hD
  exact ⟨S.mono s1, Kp.of s1, [], upd_same, .nil⟩
theorem Drn.step {K : PySem.W.Frag} {H0 H H1 : Hp} {p c l D : Addr} {n : Nat} {t t1 : Int} {qs : List F} {v : V} {q : F} (d : Drn K H0 H p c l n t D qs) (S0 : Sta H0 p c l n t1) {t2 t3 : Int} (hD : H0 D = none) (S1 : Sta H1 p c l n t2) (k1 : Kp p l H H1) (f : Fr K H1 v q) (lq : qs.length ≤ 100) (e : t2 = t3) :
    ∃ acc, H1 D = some (.lst acc) ∧ acc.length < sizeLine ∧ Drn K H0 (upd H1 D (.lst (acc ++ [v]))) p c l n t3 D (qs ++ [q]) := by
  subst e
  obtain ⟨acc, g, fa⟩ := d.g
  obtain ⟨cs, c1, _⟩ := S0.cs
  obtain ⟨zs, l1, _⟩ := S0.ls
  have nc : c ≠ D := ne_of_none c1 hD
  have nl : l ≠ D := ne_of_none l1 hD
  have np : p ≠ D := ne_of_none S0.d hD
  have g1 := k1 D _ g np.symm nl.symm
  refine ⟨acc, g1, small1000 (by rw [fa.len]; omega), S1.off g1 nc nl, fun b o e m1 m2 => (upd_ne (ne_of_none e hD)).trans (k1 b o (d.k b o e m1 m2) m1 m2), _, upd_same, ?_⟩
  exact (FrAll.off g1 (fa.kp k1 d.S)).snoc (f.off g1)
abbrev dOne : PyData := dF (1, 1)
abbrev dNo : PyData := dF (0, 1)
abbrev dTold : List PyData := [dP (cR .free), dP (cR .all), dP (cR .str), dP [], dP [(2, 1), (2, 1), (4, 1), (10, 1)], dF (203, 1), dF (-1, 1)]
section
variable {P : Program} {w : World} {K : PySem.W.Frag} {mg : Str → Option Value} {base : Heap} {f : Addr} {fd : FuncData}
theorem ok_law (F : Fun K "law" "law" sLaw f fd) (T : Blt mg) (BG : Cal P w K mg base 2 "_law_begin" (spBegin K)) (DR : Cal P w K mg base 2 "_law_draw" spDraw) (SH : Cal P w K mg base 3 "_law_share" (spLShare K)) (LM : Cal P w K mg base 4 "_law_moments" (spLMoms K)) (RA : Cal P w K mg base 1 "_law_ratio" spLRatio)
    (RR : CalG P w K mg base 9 "_law_row_right" (spRR K)) (BR : Cal P w K mg base 9 "_law_back_right" (spBR K)) (CO : Cal P w K mg base 8 "cumulants_of" (spCB K)) (RO : Cal P w K mg base 8 "row_of_cumulants" (spRB K)) (MB : Cal P w K mg base 5 "moment_by" (spMB K)) (CY : Cal P w K mg base 6 "cumulant_by" (spCY K)) :
    FnG P w K mg base 10 f fd ["script"] (spLaw K) := by
  refine FnG.ok F scLaw (fun vs H Q E h => ?_) (fun cdv A outer s H vs Q E hgd hr h => ?_)
  · obtain ⟨a, ns, rfl, _⟩ := h
    rfl
  · obtain ⟨a, ns, rfl, sq, ln, kk⟩ := h
    refine ⟨_, C8.pss_cut (ps_set (i := 1) scLaw.nd rfl (Or.inr rfl) (pe_n BG hr (by decide) (by rfl) (pa_cons (pv 0) pa_nil)))
      (C8.pss_cut (ps_for PassesOwn.never rfl (pi_tup (pd_tup (pd_cons pd_str (pd_cons pd_str (pd_cons pd_str pd_nil))))) (pg_name (i := 2) scLaw.nd rfl (Or.inl rfl))
      (C8.pss_cut (ps_set (i := 3) scLaw.nd rfl (Or.inl rfl) (pe_n LM hr (by decide) (by rfl) (pa_cons (pe_n SH hr (by decide) (by rfl) (pa_cons (pv 1) (pa_cons pe_int pa_nil))) (pa_cons (pe_n DR hr (by decide) (by rfl) (pa_cons (pv 1) (pa_cons pe_int pa_nil))) pa_nil))))
        (C8.pss_cut (ps_set (i := 4) scLaw.nd rfl (Or.inl rfl) (pe_op op_catA (pe_tup (pa_cons (pe_tup (pa_cons (pe_op op_add pe_int (pe_n DR hr (by decide) (by rfl) (pa_cons (pv 1) (pa_cons pe_int pa_nil)))) (pa_cons pe_int pa_nil))) pa_nil)) (pe_callTy call_tuple_of (by rfl) T.tuple (by decide +kernel) (pa_cons (pe_lc (own := [("k", 11)]) (g := gName 11) (tt := tYes) rfl scLaw.nd (pi_range1 rfl T.range (pa_cons pe_int pa_nil)) (blkOk_by (N := NLa) (sc := defScope sLaw) (by decide +kernel))
          (fun _ _ _ _ _ => pg_name (i := 11) scLaw.nd rfl (Or.inl rfl)) (fun _ _ _ _ _ => pts_nil)
          (fun _ _ _ _ _ => (pe_n RA hr (by decide) (by rfl) (pa_cons (pe_op (r := rSub) op_sub (pe_n DR hr (by decide) (by rfl) (pa_cons (pv 1) (pa_cons pe_int pa_nil))) pe_int) (pa_cons pe_int pa_nil))))) pa_nil))))
        (C8.pss_cut (ps_if (PW.pt (pw_or (pt_not (pt_val (pe_g RR hgd hr (by decide) (by rfl) (pa_cons (pv 3) (pa_cons (pv 2) pa_nil))))) (pw_or1 (pt_not (pt_val (pe_g RR hgd hr (by decide) (by rfl) (pa_cons (pv 4) (pa_cons (pv 2) pa_nil)))))))) (pss_one (ps_ret pe_bl)) pss_nil)
        (C8.pss_cut (ps_set (i := 5) scLaw.nd rfl (Or.inl rfl) (pe_n DR hr (by decide) (by rfl) (pa_cons (pv 1) (pa_cons pe_int pa_nil))))
        (C8.pss_cut (ps_set (i := 6) scLaw.nd rfl (Or.inl rfl) (pe_callTy call_tuple_of (by rfl) T.tuple (by decide +kernel) (pa_cons (pe_lc (own := [("k", 11)]) (g := gName 11) (tt := tYes) rfl scLaw.nd (pi_range1 rfl T.range (pa_cons (pv 5) pa_nil)) (blkOk_by (N := NLa) (sc := defScope sLaw) (by decide +kernel))
          (fun _ _ _ _ _ => pg_name (i := 11) scLaw.nd rfl (Or.inl rfl)) (fun _ _ _ _ _ => pts_nil)
          (fun _ _ _ _ _ => (pe_n RA hr (by decide) (by rfl) (pa_cons (pe_op (r := rSub) op_sub (pe_n DR hr (by decide) (by rfl) (pa_cons (pv 1) (pa_cons pe_int pa_nil))) pe_int) (pa_cons (pe_op (r := rAdd) op_add pe_int (pe_n DR hr (by decide) (by rfl) (pa_cons (pv 1) (pa_cons pe_int pa_nil)))) pa_nil))))) pa_nil)))
        (pss_one (ps_if (pt_not (pt_val (pe_n BR hr (by decide) (by rfl) (pa_cons (pe_n RA hr (by decide) (by rfl) (pa_cons (pe_op op_add pe_int (pe_n DR hr (by decide) (by rfl) (pa_cons (pv 1) (pa_cons pe_int pa_nil)))) (pa_cons pe_int pa_nil))) (pa_cons (pv 6) (pa_cons (pv 2) pa_nil)))))) (pss_one (ps_ret pe_bl)) pss_nil))))))))
      (C8.pss_cut (ps_set (i := 3) scLaw.nd rfl (Or.inl rfl) (pd_tup (pd_cons (pd_tup (pd_cons pd_int (pd_cons pd_int pd_nil))) (pd_cons (pd_tup (pd_cons pd_int (pd_cons pd_int pd_nil))) (pd_cons (pd_tup (pd_cons pd_int (pd_cons pd_int pd_nil))) (pd_cons (pd_tup (pd_cons pd_int (pd_cons pd_int pd_nil))) (pd_cons (pd_tup (pd_cons pd_int (pd_cons pd_int pd_nil))) pd_nil)))))))
      (C8.pss_cut (ps_set (i := 7) scLaw.nd rfl (Or.inl rfl) (pe_lst (pa_cons (pe_n CO hr (by decide) (by rfl) (pa_cons (pv 3) (pa_cons pe_str pa_nil))) (pa_cons (pe_n CO hr (by decide) (by rfl) (pa_cons (pv 3) (pa_cons pe_str pa_nil))) (pa_cons (pe_n CO hr (by decide) (by rfl) (pa_cons (pv 3) (pa_cons pe_str pa_nil))) pa_nil)))))
      (C8.pss_cut (ps_expr (pe_bm PySem.F.plainAttrs_list PySem.F.slot_list_append PySem.F.type_list_append mt_append (pv 7) (pa_cons (pe_n CO hr (by decide) (by rfl) (pa_cons (pd_tup (pd_cons (pd_tup (pd_cons pd_int (pd_cons pd_int pd_nil))) pd_nil)) (pa_cons pe_str pa_nil))) pa_nil)))
      (C8.pss_cut (ps_asg (pd_tup (pd_cons (pd_tup (pd_cons pd_int (pd_cons pd_int pd_nil))) (pd_cons (pd_tup (pd_cons pd_int (pd_cons pd_int pd_nil))) pd_nil))) (pg_tup rfl (pgs_cons (pg_name (i := 8) scLaw.nd rfl (Or.inl rfl)) (pgs_cons (pg_name (i := 9) scLaw.nd rfl (Or.inl rfl)) pgs_nil))))
      (C8.pss_cut (ps_set (i := 10) scLaw.nd rfl (Or.inl rfl) (pe_lst (vd_cons (vd_tup (vd_cons (vd_v (d := dNo) (pv 9)) (vd_cons (vd_v (d := dOne) (pv 8)) (vd_cons (vd_v (d := dNo) (pv 9)) (vd_cons (vd_v (d := dNo) (pv 9)) vd_nil mo_T) (mo_A mo_S mo_T)) (mo_A mo_S (mo_A mo_S mo_T))) (mo_A mo_S (mo_A mo_S (mo_A mo_S mo_T))))) (vd_cons (vd_tup (vd_cons (vd_v (d := dNo) (pv 9)) (vd_cons (vd_v (d := dOne) (pv 8)) (vd_cons (vd_v (d := dNo) (pv 9)) (vd_cons (vd_g (pd_tup (pd_cons pd_neg (pd_cons pd_int pd_nil)))) vd_nil mo_T) (mo_A mo_T mo_T)) (mo_A mo_S (mo_A mo_T mo_T))) (mo_A mo_S (mo_A mo_S (mo_A mo_T mo_T))))) (vd_cons (vd_tup (vd_cons (vd_v (d := dNo) (pv 9)) (vd_cons (vd_v (d := dOne) (pv 8)) (vd_cons (vd_v (d := dNo) (pv 9)) (vd_cons (vd_v (d := dOne) (pv 8)) vd_nil mo_T) (mo_A mo_S mo_T)) (mo_A mo_S (mo_A mo_S mo_T))) (mo_A mo_S (mo_A mo_S (mo_A mo_S mo_T))))) (vd_cons (vd_g (pd_tup pd_nil)) vd_nil mo_T) (mo_A mo_T mo_T)) (mo_A (mo_A mo_S (mo_A mo_S (mo_A mo_S (mo_A mo_S mo_T)))) (mo_A mo_T mo_T))) (mo_A (mo_A mo_S (mo_A mo_S (mo_A mo_S (mo_A mo_T mo_T)))) (mo_A (mo_A mo_S (mo_A mo_S (mo_A mo_S (mo_A mo_S mo_T)))) (mo_A mo_T mo_T))))))
      (C8.pss_cut (ps_for PassesOwn.never rfl (pi_tup (pd_tup (pd_cons pd_str (pd_cons pd_str (pd_cons pd_str pd_nil))))) (pg_name (i := 2) scLaw.nd rfl (Or.inl rfl))
      (C8.pss_cut (ps_if (pt_cmpR (op_neD hr.units) (pe_n CO hr (by decide) (by rfl) (pa_cons (vd_rep (vd_tup (vd_cons (vd_v (d := dOne) (pv 8)) vd_nil mo_T))) (pa_cons (pv 2) pa_nil))) (vd_cat (vd_tup (vd_cons (vd_v (d := dOne) (pv 8)) vd_nil mo_T)) (vd_rep (vd_tup (vd_cons (vd_v (d := dNo) (pv 9)) vd_nil mo_T))) (mo_A mo_S mo_T)) (nomark _)) (pss_one (ps_ret pe_bl)) pss_nil)
        (pss_one (ps_if (pt_cmpR (op_neD hr.units) (pe_n RO hr (by decide) (by rfl) (pa_cons (pv 8) (pa_cons (vd_cat (vd_tup (vd_cons (vd_v (d := dOne) (pv 8)) vd_nil mo_T)) (vd_rep (vd_tup (vd_cons (vd_v (d := dNo) (pv 9)) vd_nil mo_T))) (mo_A mo_S mo_T)) (pa_cons (pv 2) pa_nil)))) (vd_rep (vd_tup (vd_cons (vd_v (d := dOne) (pv 8)) vd_nil mo_T))) (nomark _)) (pss_one (ps_ret pe_bl)) pss_nil))))
      (C8.pss_cut (ps_if (pt_cmpR (op_neD hr.units) (pe_n RO hr (by decide) (by rfl) (pa_cons (pd_tup (pd_cons pd_int (pd_cons pd_int pd_nil))) (pa_cons (pd_tup pd_nil) (pa_cons pe_str pa_nil)))) (pd_tup (pd_cons (pd_tup (pd_cons pd_int (pd_cons pd_int pd_nil))) pd_nil)) (nomark _)) (pss_one (ps_ret pe_bl)) pss_nil)
      (C8.pss_cut (ps_set (i := 7) scLaw.nd rfl (Or.inl rfl) (pe_op op_cat (pv 7) (pe_lst (pa_cons (pe_n RO hr (by decide) (by rfl) (pa_cons (pd_tup (pd_cons pd_int (pd_cons pd_int pd_nil))) (pa_cons (vd_tup (vd_cons (vd_v (d := dOne) (pv 8)) (vd_cons (vd_v (d := dOne) (pv 8)) (vd_cons (vd_v (d := dOne) (pv 8)) vd_nil mo_T) (mo_A mo_S mo_T)) (mo_A mo_S (mo_A mo_S mo_T)))) (pa_cons pe_str pa_nil)))) (pa_cons (pe_n MB hr (by decide) (by rfl) (pa_cons pe_str (pa_cons (vd_rep (vd_tup (vd_cons (vd_v (d := dOne) (pv 8)) vd_nil mo_T))) (pa_cons pe_int pa_nil)))) pa_nil)))))
      (C8.pss_cut (ps_expr (pe_bm PySem.F.plainAttrs_list PySem.F.slot_list_append PySem.F.type_list_append mt_append (pv 7) (pa_cons (pe_n CY hr (by decide) (by rfl) (pa_cons (pv 3) (pa_cons pe_str (pa_cons pe_int pa_nil)))) pa_nil)))
      (pss_one (ps_ret (pe_cmpR (op_eqD hr.units) (pv 7) (pe_op op_cat (pv 10) (pe_lst (pd_cons (pd_tup (pd_cons (pd_tup (pd_cons pd_int (pd_cons pd_int pd_nil))) (pd_cons (pd_tup (pd_cons pd_int (pd_cons pd_int pd_nil))) (pd_cons (pd_tup (pd_cons pd_int (pd_cons pd_int pd_nil))) (pd_cons (pd_tup (pd_cons pd_int (pd_cons pd_int pd_nil))) pd_nil))))) (pd_cons (pd_tup (pd_cons pd_int (pd_cons pd_int pd_nil))) (pd_cons (pd_tup (pd_cons pd_neg (pd_cons pd_int pd_nil))) pd_nil))))) (nomark _)))))))))))))), ?_⟩
    -- state
    refine ⟨fun σ H1 => ∃ (p c l : Addr) (n : Nat), Sta H1 p c l n 0 ∧ σ = [some (.ref a), some (.ref p), none, none, none, none, none, none, none, none, none, none], ?_, ?_⟩
    · exact ⟨_, rfl, a, ns, rfl, sq, ln, fun H1 p c l n s1 _ hl S => ⟨p, c, l, n, S, rfl⟩⟩
    rintro σ H1 ⟨p, c, l, n, S, rfl⟩
    clear sq
    -- the kinds
    refine ⟨fun σ H2 => ∃ v2 v3 v4 v5 v6, σ = [some (.ref a), some (.ref p), v2, v3, v4, v5, v6, none, none, none, none, none], ?_, ?_⟩
    · intro w1 H2 s2 d2
      obtain ⟨tk, rfl, st⟩ := dp_kinds d2
      refine ⟨_, rfl, ⟨_, st⟩, for_tup (K := K) (a := tk) (xs := [.str "all", .str "free", .str "stretch"]) (fun i σ H3 => ∃ v2 v3 v4 v5 v6 t, Sta H3 p c l n t ∧ t ≤ 60 * i ∧ SqT K H3 tk [.str "all", .str "free", .str "stretch"] ∧ σ = [some (.ref a), some (.ref p), v2, v3, v4, v5, v6, none, none, none, none, none]) ⟨none, none, none, none, none, 0, S.mono s2, by omega, st, rfl⟩ (fun i σ H3 _ q => by
        obtain ⟨_, _, _, _, _, _, _, _, q, _⟩ := q
        exact q) ?_ ?_⟩
      · rintro i x σ H3 hx ⟨v2, v3, v4, v5, v6, t, S3, ti, st3, rfl⟩
        obtain ⟨k, rfl⟩ := kinds_at hx
        have i3 : i < 3 := (List.getElem?_eq_some_iff.mp hx).1
        -- row
        refine ⟨fun σ H4 => ∃ b qs t1, Sta H4 p c l n t1 ∧ t1 ≤ 60 * i + 18 ∧ SqT K H4 tk [.str "all", .str "free", .str "stretch"] ∧ Po K H4 (.ref b) qs ∧ Ca 256 29 qs ∧ qs ≠ [] ∧ qs.length ≤ 6 ∧ 0 < (co qs 0).1 ∧ σ = [some (.ref a), some (.ref p), some (.str (kdS k)), some (.ref b), v4, v5, v6, none, none, none, none, none], ?_, ?_⟩
        · refine ⟨_, rfl, p, c, l, n, t, 3, rfl, S3, by omega, by decide, by decide, fun H4 v ps t' shr sp2 ne l4 tt tt' S4 k4 => ?_⟩
          refine ⟨_, rfl, p, c, l, n, t', 6, rfl, S4, by omega, by decide, by decide, fun H5 r r0 r1 S5 k5 => ?_⟩
          have shr5 : Shr K H5 v ps := dp_t (fun a xs z => sqT_kp k5 S4 z) _ _ (noL_dSh ps) shr
          refine ⟨v, ps, r, rfl, shr5, sp2, l4, by omega, by omega, fun H6 b s6 pb => ?_⟩
          have rw0 := moms_rw sp2 ne l4 (k := r.toNat) (by omega)
          refine ⟨b, moms ps r.toNat, t' + 1, S5.mono s6, by omega, Bs.Same.t s6 (sqT_kp k5 S4 (sqT_kp k4 S3 st3)), pb, rw0.d, rw0.n, by rw [moms_len]; omega, rw0.ok.p, rfl⟩
        rintro σ H4 ⟨b, qs, t1, S4, ht1, st4, pb, qc, qn, ql, q0, rfl⟩
        -- odd
        refine ⟨fun σ H5 => ∃ e os t2, Sta H5 p c l n t2 ∧ t2 ≤ 60 * i + 22 ∧ SqT K H5 tk [.str "all", .str "free", .str "stretch"] ∧ Po K H5 (.ref b) qs ∧ Po K H5 (.ref e) os ∧ Ca 2 29 os ∧ os ≠ [] ∧ os.length ≤ 6 ∧ 0 < (co os 0).1 ∧ σ = [some (.ref a), some (.ref p), some (.str (kdS k)), some (.ref b), some (.ref e), v5, v6, none, none, none, none, none], ?_, ?_⟩
        · refine ⟨_, rfl, p, c, l, n, t1, 4, rfl, S4, by omega, by decide, by decide, fun H5 r r0 r1 S5 k5 => ?_⟩
          refine ⟨_, _, rfl, rfl, (by show 2 ≤ sizeLine; decide), fun p1 hp1 => ⟨(by show 1 ≤ sizeLine; decide), fun p2 hp2 => ?_⟩⟩
          have u1 := same_new (o := .tup [.int (1 + r), .int 1]) hp1
          have u2 := same_new (o := .tup [.ref p1]) hp2
          have u12 := u1.trans u2
          have sp : SqT K (upd (upd H5 p1 (.tup [.int (1 + r), .int 1])) p2 (.tup [.ref p1])) p2 [.ref p1] := SqT.of upd_same
          have fp : Fr K (upd (upd H5 p1 (.tup [.int (1 + r), .int 1])) p2 (.tup [.ref p1])) (.ref p1) (1 + r, 1) := Fr.mono (Fr.of upd_same) u2
          have S6 := S5.mono u12
          have st6 := Bs.Same.t u12 (sqT_kp k5 S4 st4)
          have pb6 := Po.mono u12 (pb.kp k5 S4)
          generalize upd (upd H5 p1 (.tup [.int (1 + r), .int 1])) p2 (.tup [.ref p1]) = H6 at *
          refine ⟨_, rfl, by decide, by decide, fun D hD => ?_⟩
          refine lc_range (n := (3 : Int).toNat) (fun j H7 => ∃ qs, Drn K H6 H7 p c l n (t1 + 1 + j) D qs ∧ qs.length = j ∧ Ca 2 4 qs)
            ⟨[], by simpa using Drn.start S6 hD, rfl, fun q h => by simp at h⟩ ?_ ?_
          · rintro j H7 hj ⟨us, dr, ul, uc⟩
            refine ⟨rfl, ?_⟩
            refine iteT (B := ∃ qs, Drn K H6 H7 p c l n (t1 + 1 + ((j + 1 : Nat) : Int)) D qs ∧ qs.length = j + 1 ∧ Ca 2 4 qs) ?_
            have hj3 : j < 3 := hj
            refine ⟨_, rfl, p, c, l, n, _, 9, rfl, dr.S, by omega, by decide, by decide, fun H8 x x0 x1 S8 k8 => ?_⟩
            refine ⟨_, _, rfl, rfl, x - 4, 2, rfl, by decide, Lt2.mono (m := 2) (by show (2 : Int).natAbs < 2 ^ 2; decide) (by decide), fun q hq => ?_⟩
            have s9 := same_new (o := fr (red (x - 4) 2)) hq
            obtain ⟨acc, g1, g2, g3⟩ := dr.step S6 hD (S8.mono s9) (k8.trans (Kp.of s9)) (Fr.of upd_same) (by omega) (t3 := t1 + 1 + ((j + 1 : Nat) : Int)) (by omega)
            refine ⟨acc, g1, g2, us ++ [red (x - 4) 2], g3, by rw [List.length_append, ul]; rfl, fun z hz => ?_⟩
            rcases List.mem_append.mp hz with h | h
            · exact uc z h
            · rw [List.mem_singleton.mp h]
              exact red_cb (by omega) (.inr rfl)
          · rintro H7 ⟨us, dr, ul, uc⟩
            have ul3 : us.length = 3 := ul
            obtain ⟨acc, gD, fa⟩ := dr.g
            refine ⟨D, acc, rfl, .inl ⟨SqL.of gD, fun q hq => ?_⟩⟩
            have s8 := same_new (o := .tup acc) hq
            have la := fa.len
            refine cat_any (Bs.Same.t s8 (sqT_kp dr.k S6 sp)) (SqT.of upd_same) (Nat.le_of_lt (small1000 (by show 1 + _ ≤ 1000; omega))) fun e H9 s9 se => ?_
            have s89 := s8.trans s9
            refine ⟨e, (1 + r, 1) :: us, t1 + 1 + 3, dr.S.mono s89, by omega, Bs.Same.t s89 (sqT_kp dr.k S6 st6), Po.mono s89 (pb6.kp dr.k S6), ⟨e, _, rfl, se, .cons ((dr.k.fr S6 fp).mono s89) (fa.mono s89)⟩, fun z hz => ?_, by simp, by simp; omega, by show 0 < 1 + r; omega, rfl⟩
            rcases List.mem_cons.mp hz with rfl | h
            · exact (one_cb (by omega) (by omega)).mono (by decide)
            · exact (uc z h).mono (by decide)
        rintro σ H5 ⟨e, os, t2, S5, ht2, st5, pb5, pe, oc, on, ol, o0, rfl⟩
        -- the rows
        refine ⟨fun σ H6 => Same H5 H6 ∧ σ = [some (.ref a), some (.ref p), some (.str (kdS k)), some (.ref b), some (.ref e), v5, v6, none, none, none, none, none], ?_, ?_⟩
        · obtain ⟨c1, E1, R1⟩ := rr_of k qc (by decide) (Nat.le_trans (show _ ≤ 2 ^ 8 by decide) (Nat.pow_le_pow_right (by decide) (by decide))) qn ql q0
          obtain ⟨c2, E2, R2⟩ := rr_of k oc (by decide) (Nat.le_trans (show _ ≤ 2 ^ 1 by decide) (Nat.pow_le_pow_right (by decide) (by decide))) on ol o0
          refine ⟨_, rfl, _, rfl, .ref b, k, rho qs, c1, qs.length, 256, E1, rfl, by rw [← row_is (okAll' qc)]; exact pb5, R1, fun H6 s6 => ⟨_, rfl, ?_⟩⟩
          refine ⟨_, rfl, _, rfl, .ref e, k, rho os, c2, os.length, 2, E2, rfl, by rw [← row_is (okAll' oc)]; exact Po.mono s6 pe, R2, fun H7 s7 => ⟨_, rfl, ?_⟩⟩
          exact iteF ⟨s6.trans s7, rfl⟩
        rintro σ H6 ⟨s6, rfl⟩
        have S6 := S5.mono s6
        have st6 := Bs.Same.t s6 st5
        clear pb5 pe S5 st5 s6
        -- many
        refine ⟨fun σ H7 => ∃ m : Nat, m ≤ 5 ∧ Sta H7 p c l n (t2 + 1) ∧ SqT K H7 tk [.str "all", .str "free", .str "stretch"] ∧ σ = [some (.ref a), some (.ref p), some (.str (kdS k)), some (.ref b), some (.ref e), some (.int (m : Nat)), v6, none, none, none, none, none], ?_, ?_⟩
        · refine ⟨_, rfl, p, c, l, n, t2, 6, rfl, S6, by omega, by decide, by decide, fun H7 r r0 r1 S7 k7 => ?_⟩
          obtain ⟨m, rfl⟩ : ∃ m : Nat, r = (m : Int) := ⟨r.toNat, by omega⟩
          exact ⟨m, by omega, S7, sqT_kp k7 S6 st6, rfl⟩
        clear S6 st6
        rintro σ H7 ⟨m, m5, S7, st7, rfl⟩
        -- some
        refine ⟨fun σ H8 => ∃ g cs t3, Sta H8 p c l n t3 ∧ t3 ≤ t2 + 11 ∧ SqT K H8 tk [.str "all", .str "free", .str "stretch"] ∧ Po K H8 (.ref g) cs ∧ Ca 2 4 cs ∧ cs.length ≤ 5 ∧ σ = [some (.ref a), some (.ref p), some (.str (kdS k)), some (.ref b), some (.ref e), some (.int (m : Nat)), some (.ref g), none, none, none, none, none], ?_, ?_⟩
        · refine ⟨_, rfl, _, rfl, by omega, by omega, fun D hD => ?_⟩
          refine lc_range (n := ((m : Nat) : Int).toNat) (fun j H8 => ∃ qs, Drn K H7 H8 p c l n (t2 + 1 + 2 * j) D qs ∧ qs.length = j ∧ Ca 2 4 qs)
            ⟨[], by simpa using Drn.start S7 hD, rfl, fun q h => by simp at h⟩ ?_ ?_
          · rintro j H8 hj ⟨us, dr, ul, uc⟩
            refine ⟨rfl, ?_⟩
            refine iteT (B := ∃ qs, Drn K H7 H8 p c l n (t2 + 1 + 2 * ((j + 1 : Nat) : Int)) D qs ∧ qs.length = j + 1 ∧ Ca 2 4 qs) ?_
            refine ⟨_, rfl, p, c, l, n, _, 9, rfl, dr.S, by omega, by decide, by decide, fun H9 x x0 x1 S9 k9 => ?_⟩
            refine ⟨_, _, rfl, rfl, _, rfl, p, c, l, n, _, 2, rfl, S9, by omega, by decide, by decide, fun H10 y y0 y1 S10 k10 => ?_⟩
            refine ⟨_, _, rfl, rfl, x - 4, 1 + y, rfl, by omega, Lt2.mono (m := 2) (by show (1 + y).natAbs < 2 ^ 2; omega) (by decide), fun q hq => ?_⟩
            have s9 := same_new (o := fr (red (x - 4) (1 + y))) hq
            obtain ⟨acc, g1, g2, g3⟩ := dr.step S7 hD (S10.mono s9) ((k9.trans k10).trans (Kp.of s9)) (Fr.of upd_same) (by omega) (t3 := t2 + 1 + 2 * ((j + 1 : Nat) : Int)) (by omega)
            refine ⟨acc, g1, g2, us ++ [red (x - 4) (1 + y)], g3, by rw [List.length_append, ul]; rfl, fun z hz => ?_⟩
            rcases List.mem_append.mp hz with h | h
            · exact uc z h
            · rw [List.mem_singleton.mp h]
              exact red_cb (by omega) (by omega)
          · rintro H8 ⟨us, dr, ul, uc⟩
            obtain ⟨acc, gD, fa⟩ := dr.g
            refine ⟨D, acc, rfl, .inl ⟨SqL.of gD, fun q hq => ?_⟩⟩
            have s8 := same_new (o := .tup acc) hq
            exact ⟨q, us, _, dr.S.mono s8, by omega, Bs.Same.t s8 (sqT_kp dr.k S7 st7), ⟨q, acc, rfl, SqT.of upd_same, fa.mono s8⟩, uc, by omega, rfl⟩
        clear S7 st7
        rintro σ H8 ⟨g, cs', t3, S8, ht3, st8, pg, gc, gl, rfl⟩
        refine ⟨_, rfl, p, c, l, n, t3, 4, rfl, S8, by omega, by decide, by decide, fun H9 x x0 x1 S9 k9 => ?_⟩
        refine ⟨_, _, rfl, rfl, 1 + x, 2, rfl, by decide, Lt2.mono (m := 2) (by show (2 : Int).natAbs < 2 ^ 2; decide) (by decide), fun q hq => ?_⟩
        have s10 := same_new (o := fr (red (1 + x) 2)) hq
        have tc := red_cb (a := 1 + x) (b := 2) (by omega) (.inr rfl)
        obtain ⟨m', D', E', br⟩ := br_of k (t := val (red (1 + x) 2)) gc gl (red_pos (by omega) (by decide)) tc.v
        refine ⟨_, rfl, _, rfl, .ref q, .ref g, k, val (red (1 + x) 2), cum cs', m', cs'.length, D', E', rfl, by rw [rf_of tc.ok]; exact Fr.of upd_same, by rw [← cum_is (okAll' gc)]; exact Po.mono s10 (pg.kp k9 S8), br, fun H11 s11 => ⟨_, rfl, ?_⟩⟩
        exact iteF ⟨_, _, _, _, _, t3 + 1, (S9.mono s10).mono s11, by omega, Bs.Same.t (s10.trans s11) (sqT_kp k9 S8 st8), rfl⟩
      · rintro σ H3 ⟨v2, v3, v4, v5, v6, t, _, _, _, rfl⟩
        exact ⟨v2, v3, v4, v5, v6, rfl⟩
    clear S
    rintro σ B ⟨v2, v3, v4, v5, v6, rfl⟩
    generalize some (V.ref a) = v0
    generalize some (V.ref p) = v1
    -- by hand
    refine ⟨fun σ H2 => ∃ b, Same B H2 ∧ Dp K H2 (.ref b) (dP qR) ∧ σ = [v0, v1, v2, some (.ref b), v4, v5, v6, none, none, none, none, none], ?_, ?_⟩
    · intro w1 H2 s2 d2
      obtain ⟨b, rfl⟩ := (dp_po (qs := qR) d2).ref
      exact ⟨b, s2, d2, rfl⟩
    rintro σ H2 ⟨b, s2, db, rfl⟩
    have rowIs : rl (rho qR) 5 = qR := (row_is (okAll' (grR .all).q)).symm
    have poR : ∀ {H : Hp}, Dp K H (.ref b) (dP qR) → Po K H (.ref b) (rl (rho qR) 5) := fun {H} d => by
      rw [rowIs]
      exact dp_po d
    have coR : ∀ k, rl (fun i => cum (cR k) (i + 1)) 4 = cR k := fun k => (by
      have h := (cum_is (okAll' (grR k).c)).symm
      rwa [show (cR k).length = 4 by cases k <;> rfl] at h)
    refine ⟨fun σ H3 => ∃ L, Tl K B H3 L (dTold.take 3) ∧ Dp K H3 (.ref b) (dP qR) ∧ σ = [v0, v1, v2, some (.ref b), v4, v5, v6, some (.ref L), none, none, none, none], ?_, ?_⟩
    · refine ⟨_, rfl, .ref b, .free, rho qR, cum (cR .free), 5, 1, 1, rfl, poR db, (grR .free).hyp, fun H3 x3 s3 p3 => ?_⟩
      refine ⟨_, rfl, .ref b, .all, rho qR, cum (cR .all), 5, 1, 1, rfl, poR (dp_same s3 _ _ db), (grR .all).hyp, fun H4 x4 s4 p4 => ?_⟩
      refine ⟨_, rfl, .ref b, .str, rho qR, cum (cR .str), 5, 1, 1, rfl, poR (dp_same (s3.trans s4) _ _ db), (grR .str).hyp, fun H5 x5 s5 p5 => ?_⟩
      rw [show 5 - 1 = 4 from rfl, coR] at p3 p4 p5
      refine ⟨(by show 3 ≤ sizeLine; decide), fun q hq => ?_⟩
      have s35 := (s3.trans s4).trans s5
      exact ⟨q, Tl.new (s2.trans s35) hq (.cons (Po.mono (s4.trans s5) p3).dp (.cons (Po.mono s5 p4).dp (.cons p5.dp .nil))), dp_same (s35.trans (same_new hq)) _ _ db, rfl⟩
    clear s2 db
    rintro σ H3 ⟨L, tl, db, rfl⟩
    refine ⟨fun σ H4 => Tl K B H4 L (dTold.take 4) ∧ Dp K H4 (.ref b) (dP qR) ∧ σ = [v0, v1, v2, some (.ref b), v4, v5, v6, some (.ref L), none, none, none, none], ?_, ?_⟩
    · obtain ⟨xs, gx, _⟩ := tl.get
      refine ⟨_, rfl, .inl ⟨rfl, _, SqL.of gx⟩, fun w1 H4 s4 d4 => ?_⟩
      obtain ⟨c5, E5, h5⟩ := g5
      refine ⟨_, .all, rho [(5, 1)], c5, 1, 1, E5, rfl, ?_, h5, fun H5 x5 s5 p5 => ?_⟩
      · have : rl (rho [(5, 1)]) 1 = [(5, 1)] := (row_is (fun q hq => by rw [List.mem_singleton.mp hq]; exact ⟨by decide, by decide⟩)).symm
        rw [this]
        exact dp_po d4
      · have s45 := s4.trans s5
        obtain ⟨xs2, gx2, sz2, t2⟩ := (tl.mono s45).push (v := .ref x5) (by decide +kernel) (noL_dP []) p5.dp (by decide)
        exact ⟨L, xs2, _, rfl, rfl, gx2, sz2, t2, dp_upd gx2 _ _ (noL_dP _) (dp_same s45 _ _ db), rfl⟩
    clear tl db
    rintro σ H4 ⟨tl, db, rfl⟩
    refine ⟨fun σ H5 => ∃ x8 x9, Tl K B H5 L (dTold.take 4) ∧ Dp K H5 (.ref b) (dP qR) ∧ Dp K H5 x8 (dF (1, 1)) ∧ Dp K H5 x9 (dF (0, 1)) ∧ σ = [v0, v1, v2, some (.ref b), v4, v5, v6, some (.ref L), some x8, some x9, none, none], ?_, ?_⟩
    · intro w1 H5 s5 d5
      obtain ⟨tt, x8, x9, rfl, s8, d8, d9⟩ := dp_two d5
      exact ⟨tt, _, rfl, s8, rfl, _, _, rfl, _, _, rfl, rfl, x8, x9, tl.mono s5, dp_same s5 _ _ db, d8, d9, rfl⟩
    clear tl db
    rintro σ H5 ⟨x8, x9, tl, db, d1, d0, rfl⟩
    refine ⟨fun σ H6 => ∃ M, Tl K B H6 L (dTold.take 4) ∧ Tl K B H6 M (dTold.take 4) ∧ Dp K H6 (.ref b) (dP qR) ∧ Dp K H6 x8 (dF (1, 1)) ∧ Dp K H6 x9 (dF (0, 1)) ∧ σ = [v0, v1, v2, some (.ref b), v4, v5, v6, some (.ref L), some x8, some x9, some (.ref M), none], ?_, ?_⟩
    · refine ⟨⟨⟨⟨_, rfl, d0⟩, ⟨⟨_, rfl, d1⟩, ⟨⟨_, rfl, d0⟩, ⟨⟨_, rfl, d0⟩, trivial⟩⟩⟩⟩, ⟨⟨⟨_, rfl, d0⟩, ⟨⟨_, rfl, d1⟩, ⟨⟨_, rfl, d0⟩, ⟨trivial, trivial⟩⟩⟩⟩, ⟨⟨⟨_, rfl, d0⟩, ⟨⟨_, rfl, d1⟩, ⟨⟨_, rfl, d0⟩, ⟨⟨_, rfl, d1⟩, trivial⟩⟩⟩⟩, ⟨trivial, trivial⟩⟩⟩⟩, fun vs H6 s6 d6 => ?_⟩
      refine ⟨Nat.le_of_lt (small_line (by rw [dps_len d6]; decide)), fun M hM => ?_⟩
      have s67 := s6.trans (same_new (o := .lst vs) hM)
      exact ⟨M, tl.mono s67, Tl.new (tl.mono s6).2.1 hM d6, dp_same s67 _ _ db, dp_same s67 _ _ d1, dp_same s67 _ _ d0, rfl⟩
    clear tl db d1 d0
    rintro σ H6 ⟨M, tl, tm, db, d1, d0, rfl⟩
    refine ⟨fun σ H7 => ∃ v2, Tl K B H7 L (dTold.take 4) ∧ Tl K B H7 M (dTold.take 4) ∧ Dp K H7 (.ref b) (dP qR) ∧ Dp K H7 x8 (dF (1, 1)) ∧ Dp K H7 x9 (dF (0, 1)) ∧ σ = [v0, v1, v2, some (.ref b), v4, v5, v6, some (.ref L), some x8, some x9, some (.ref M), none], ?_, ?_⟩
    · intro w1 H7 s7 d7
      obtain ⟨tk, rfl, st⟩ := dp_kinds d7
      refine ⟨_, rfl, ⟨_, st⟩, for_tup (K := K) (a := tk) (xs := [.str "all", .str "free", .str "stretch"]) (fun i σ H8 => ∃ v2, Same H7 H8 ∧ σ = [v0, v1, v2, some (.ref b), v4, v5, v6, some (.ref L), some x8, some x9, some (.ref M), none]) ⟨_, fun _ _ z => z, rfl⟩ (fun i σ H8 _ q => by
        obtain ⟨_, s8, _⟩ := q
        exact Bs.Same.t s8 st) ?_ ?_⟩
      · rintro i x σ H8 hx ⟨v2, s8, rfl⟩
        obtain ⟨k, rfl⟩ := kinds_at hx
        have s78 := s7.trans s8
        have e1 := dp_same s78 _ _ d1
        have e0 := dp_same s78 _ _ d0
        have r9 : rl (rho q9) 9 = q9 := (row_is (okAll' (gr9 k).q)).symm
        have r8 : rl (fun i => cum c9 (i + 1)) 8 = c9 := (cum_is (okAll' (gr9 k).c)).symm
        refine ⟨fun σ H9 => Same H8 H9 ∧ σ = [v0, v1, some (.str (kdS k)), some (.ref b), v4, v5, v6, some (.ref L), some x8, some x9, some (.ref M), none], ?_, ?_⟩
        · refine ⟨⟨⟨_, rfl, e1⟩, trivial⟩, fun u H9 s9 d9 => ?_⟩
          have d9 : Dp K H9 u (dP q9) := d9
          refine ⟨_, rfl, u, k, rho q9, cum c9, 9, 1, 1, rfl, by rw [r9]; exact dp_po d9, (gr9 k).hyp, fun H10 y s10 p10 => ?_⟩
          rw [show 9 - 1 = 8 from rfl, r8] at p10
          have s910 := s9.trans s10
          refine ⟨⟨⟨⟨_, rfl, dp_same s910 _ _ e1⟩, trivial⟩, ⟨⟨_, rfl, dp_same s910 _ _ e0⟩, trivial⟩⟩, fun z H11 s11 d11 => ?_⟩
          have d11 : Dp K H11 z (dP c9) := d11
          refine ⟨dP c9, dP c9, (Po.mono s11 p10).dp, d11, shaped_dP _, shaped_dP _, _, rfl, ?_⟩
          rw [eqv_dPr]
          exact iteF ⟨s910.trans s11, rfl⟩
        rintro σ H9 ⟨s9, rfl⟩
        have f1 := dp_same s9 _ _ e1
        have f0 := dp_same s9 _ _ e0
        refine ⟨_, rfl, ⟨⟨⟨⟨_, rfl, f1⟩, trivial⟩, ⟨⟨_, rfl, f0⟩, trivial⟩⟩, fun u H10 s10 d10 => ?_⟩⟩
        have d10 : Dp K H10 u (dP c9) := d10
        refine ⟨_, rfl, x8, u, k, 1, rho q9, cum c9, 8, 1, rfl, dp_fr (q := (1, 1)) (dp_same s10 _ _ f1), by rw [r8]; exact dp_po d10, (gr9 k).rb (by decide) (dm_sm (q := (1, 1)) (by decide +kernel) (by decide)), fun H11 y s11 p11 => ?_⟩
        rw [show 8 + 1 = 9 from rfl, out1] at p11
        have s1011 := s10.trans s11
        refine ⟨⟨⟨_, rfl, dp_same s1011 _ _ f1⟩, trivial⟩, fun z H12 s12 d12 => ?_⟩
        have d12 : Dp K H12 z (dP q9) := d12
        refine ⟨dP q9, dP q9, (Po.mono s12 p11).dp, d12, shaped_dP _, shaped_dP _, _, rfl, ?_⟩
        rw [eqv_dPr]
        exact iteF ⟨_, s8.trans (s9.trans (s1011.trans s12)), rfl⟩
      · rintro σ H8 ⟨v2, s8, rfl⟩
        have s78 := s7.trans s8
        exact ⟨v2, tl.mono s78, tm.mono s78, dp_same s78 _ _ db, dp_same s78 _ _ d1, dp_same s78 _ _ d0, rfl⟩
    clear tl tm db d1 d0
    rintro σ H7 ⟨v2, tl, tm, db, d1, d0, rfl⟩
    refine ⟨fun σ H8 => Tl K B H8 L (dTold.take 4) ∧ Tl K B H8 M (dTold.take 4) ∧ Dp K H8 (.ref b) (dP qR) ∧ Dp K H8 x8 (dF (1, 1)) ∧ σ = [v0, v1, v2, some (.ref b), v4, v5, v6, some (.ref L), some x8, some x9, some (.ref M), none], ?_, ?_⟩
    · intro w1 H8 s8 d8 w2 H9 s9 d9
      refine ⟨w1, w2, .str, 5, rho [(1, 1)], cum [], 0, 1, rfl, dp_fr (q := (5, 1)) (dp_same s9 _ _ d8), dp_po (qs := []) d9, (gr1 .str).rb (by decide) (dm_sm (q := (5, 1)) (by decide +kernel) (by decide)), fun H10 y s10 p10 => ?_⟩
      rw [show 0 + 1 = 1 from rfl, out5] at p10
      intro z H11 s11 d11
      have d11 : Dp K H11 z (dP [(5, 1)]) := d11
      refine ⟨dP [(5, 1)], dP [(5, 1)], (Po.mono s11 p10).dp, d11, shaped_dP _, shaped_dP _, _, rfl, ?_⟩
      rw [eqv_dPr]
      have s811 := ((s8.trans s9).trans s10).trans s11
      exact iteF ⟨tl.mono s811, tm.mono s811, dp_same s811 _ _ db, dp_same s811 _ _ d1, rfl⟩
    clear tl tm db d1 d0
    rintro σ H8 ⟨tl, tm, db, d1, rfl⟩
    refine ⟨fun σ H9 => ∃ L, Tl K B H9 L (dTold.take 6) ∧ Tl K B H9 M (dTold.take 4) ∧ Dp K H9 (.ref b) (dP qR) ∧ σ = [v0, v1, v2, some (.ref b), v4, v5, v6, some (.ref L), some x8, some x9, some (.ref M), none], ?_, ?_⟩
    · refine ⟨_, rfl, fun w1 H9 s9 d9 => ?_⟩
      refine ⟨⟨⟨_, rfl, dp_same s9 _ _ d1⟩, ⟨⟨_, rfl, dp_same s9 _ _ d1⟩, ⟨⟨_, rfl, dp_same s9 _ _ d1⟩, trivial⟩⟩⟩, fun w2 H10 s10 d10 => ?_⟩
      have d10 : Dp K H10 w2 (dP c3) := d10
      refine ⟨w1, w2, .all, 2, rho q3, cum c3, 3, 1, rfl, dp_fr (q := (2, 1)) (dp_same s10 _ _ d9), ?_, gr3.rb (by decide) (dm_sm (q := (2, 1)) (by decide +kernel) (by decide)), fun H11 y s11 p11 => ?_⟩
      · have : rl (fun i => cum c3 (i + 1)) 3 = c3 := (cum_is (okAll' gr3.c)).symm
        rw [this]
        exact dp_po d10
      rw [show 3 + 1 = 4 from rfl, out2] at p11
      have s911 := (s9.trans s10).trans s11
      refine ⟨⟨⟨_, rfl, dp_same s911 _ _ d1⟩, trivial⟩, fun w3 H12 s12 d12 => ?_⟩
      have d12 : Dp K H12 w3 (dP c6) := d12
      refine ⟨w3, .all, cum c6, 6, 6, 1, rfl, ?_, sz6, by decide, by decide, by decide, fun H13 y2 s13 f13 => ?_⟩
      · have : rl (fun i => cum c6 (i + 1)) 6 = c6 := (cum_is (okAll' (sm_ca (qs := c6) (by decide)))).symm
        rw [this]
        exact dp_po d12
      rw [m203] at f13
      refine ⟨(by show 2 ≤ sizeLine; decide), fun q hq => ?_⟩
      have s913 := (s911.trans s12).trans s13
      have t2 := Tl.new (K := K) (tl.mono s913).2.1 hq (.cons (Po.mono (s12.trans s13) p11).dp (.cons f13.dp .nil))
      refine Tl.cat ((tl.mono s913).mono (same_new hq)) t2 (by decide) fun L2 H14 s14 t14 => ?_
      have s914 := s913.trans ((same_new hq).trans s14)
      exact ⟨L2, t14, tm.mono s914, dp_same s914 _ _ db, rfl⟩
    clear tl tm db d1
    rintro σ H9 ⟨L, tl, tm, db, rfl⟩
    refine ⟨fun σ H10 => Tl K B H10 L dTold ∧ (∃ ys, H10 M = some (.lst ys) ∧ DpAll K H10 ys (dTold.take 4)) ∧ σ = [v0, v1, v2, some (.ref b), v4, v5, v6, some (.ref L), some x8, some x9, some (.ref M), none], ?_, ?_⟩
    · obtain ⟨xs, gx, dx⟩ := tl.get
      refine ⟨_, rfl, .inl ⟨rfl, _, SqL.of gx⟩, _, rfl, .ref b, .all, rho qR, 5, 4, 1, 1, rfl, poR db, cy4.1, cy4.2, by decide, by decide, by decide, fun H10 y s10 f10 => ?_⟩
      rw [s4] at f10
      have n6 : noLs (dTold.take 6) = true := by decide +kernel
      obtain ⟨xs2, gx2, sz2, t2⟩ := (tl.mono s10).push (v := y) n6 (by decide +kernel) f10.dp (by decide)
      obtain ⟨ys, gy, dy⟩ := (tm.mono s10).get
      have nLM : M ≠ L := fun z => by
        rw [z, gx2] at gy
        cases gy
        have h1 := dps_len dy
        have h2 := dps_len (dps_same s10 _ _ dx)
        have e : xs2 = xs := by
          have := s10 _ _ gx
          rw [gx2] at this
          cases this
          rfl
        rw [e] at h1
        rw [h1] at h2
        cases h2
      exact ⟨L, xs2, _, rfl, rfl, gx2, sz2, t2, ⟨ys, (upd_ne nLM).trans gy, dps_upd gx2 _ _ (by decide +kernel) dy⟩, rfl⟩
    clear tl tm db
    rintro σ H10 ⟨tl, ⟨ys, gy, dy⟩, rfl⟩
    obtain ⟨xs, gx, dx⟩ := tl.get
    refine ⟨_, rfl, _, rfl, fun vs H11 s11 d11 => ⟨Nat.le_of_lt (small_line (by rw [dps_len d11]; decide)), fun q hq => ?_⟩⟩
    have s2 := s11.trans (same_new (o := .lst vs) hq)
    refine ⟨M, q, ys, vs, rfl, rfl, s2 _ _ gy, upd_same, Nat.le_of_lt (small_line (by rw [dps_len d11, dps_len dy]; decide)), fun q2 hq2 => ?_⟩
    have s3 := same_new (o := .lst (ys ++ vs)) hq2
    refine ⟨.list dTold, .list dTold, .lst (SqL.of ((s2.trans s3) _ _ gx)) (dps_same (s2.trans s3) _ _ dx), .lst (SqL.of upd_same) (dps_app (ds := dTold.take 4) (es := dTold.drop 4) (dps_same (s2.trans s3) _ _ dy) (dps_same ((same_new hq).trans s3) _ _ d11)), by decide +kernel, by decide +kernel, ?_⟩
    rw [show PyData.eqv (.list dTold) (.list dTold) = true from by decide +kernel]
    exact kk _
end
end Rs


set_option Elab.async false
set_option linter.all false
set_option maxRecDepth 100000
set_option maxHeartbeats 1000000
namespace Rs
open PySem PySem.Spec PyProof.Rows L2 Bs Fq LamX RZ
theorem walk_zipT {K : PySem.W.Frag} {a b : Addr} {xs ys : List V} {n : Nat} (hn : n = min xs.length ys.length) : Walk (ItzT K a b) n (fun H => SqT K H a xs ∧ SqT K H b ys) (YPair (fun i => xs[i]?) (fun i => ys[i]?)) := by
  rw [hn]
  refine ⟨fun i _ hi q => ?_, fun _ q => ⟨xs, ys, q.1, q.2, by omega⟩, fun i H v H' _ q y => ?_⟩
  · have h1 : i < xs.length := by omega
    have h2 : i < ys.length := by omega
    exact ⟨xs, ys, xs[i], ys[i], q.1, q.2, List.getElem?_eq_getElem h1, List.getElem?_eq_getElem h2⟩
  · obtain ⟨T, x, z, e1, e2, e3, e4, e5⟩ := y
    exact ⟨T, x, z, e1, e2, e3, e4 xs q.1, e5 ys q.2⟩
end Rs


set_option Elab.async false
set_option linter.all false
set_option maxRecDepth 100000
set_option maxHeartbeats 1000000
namespace Rs
open PySem L2 Bs Fq LamX RZ
end Rs
namespace Fq
open Rs
end Fq
namespace Rs
open PySem L2 Bs Fq LamX RZ
theorem cut_tail {xs : List V} (h : 1 ≤ xs.length) : cutV xs (some 1) none = xs.tail := by
  cases xs with
  | nil => cases h
  | cons x r =>
    have e1 : HT.sIx (x :: r).length 0 (some 1) = 1 := by simp [HT.sIx]
    have e2 : HT.sIx (x :: r).length (x :: r).length none = (x :: r).length := by simp [HT.sIx]
    unfold cutV
    rw [e1, e2]
    simp
end Rs


set_option Elab.async false
set_option linter.all false
set_option maxRecDepth 100000
set_option maxHeartbeats 1000000
namespace Rs
open PySem L2 Bs Fq LamX LmD RZ TA2
def ex2 : List PyData := [.tuple [.none, .tuple []]]
end Rs


set_option Elab.async false
set_option linter.all false
set_option maxRecDepth 100000
set_option maxHeartbeats 1000000
namespace Rs
open PySem L2 Bs LamX Pg RZ
abbrev sParted : Stmt := top 31
abbrev sCross : Stmt := top 32
def spParted (K : PySem.W.Frag) : Sp := fun vs H Q _ => ∃ (v : V) (p : Prt) (lo hi : Int), vs = [v, .int lo, .int hi] ∧ Pt K H v p ∧ sizeB p = true ∧ ∀ H', Same H H' → Q (.bl (parted p lo hi)) H'
theorem prs_get {b : Blk} {i : Nat} {t u : Int} (h1 : b[i]? = some t) (h2 : b[i + 1]? = some u) : (prs b)[i]? = some (t, u) := by
  unfold prs
  rw [List.getElem?_zip_eq_some]
  refine ⟨h1, ?_⟩
  rw [List.getElem?_tail]
  exact h2
end Rs


set_option Elab.async false
set_option linter.all false
set_option maxRecDepth 100000
set_option maxHeartbeats 1000000
namespace Rs
open PySem L2 Bs LamX Pg RZ
/-- a pair of whole numbers -/
def Gp (K : PySem.W.Frag) (H : Hp) (v : V) (g : Int × Int) : Prop := ∃ a, v = .ref a ∧ SqT K H a [.int g.1, .int g.2]
theorem gp_mono {K : PySem.W.Frag} {H H' : Hp} {vs : List V} {gs : List (Int × Int)} (h : Al (Gp K H) vs gs) (e : Same H H') : Al (Gp K H') vs gs := h.imp fun _ _ ⟨a, e1, s⟩ => ⟨a, e1, Bs.Same.t e s⟩
theorem gp_off {K : PySem.W.Frag} {H : Hp} {D : Addr} {acc : List V} {o : HO} {vs : List V} {gs : List (Int × Int)} (h : Al (Gp K H) vs gs) (hD : H D = some (.lst acc)) : Al (Gp K (upd H D o)) vs gs := h.imp fun _ _ ⟨a, e1, s⟩ => ⟨a, e1, sqT_off hD s⟩
theorem any_one {α : Type} {f : α → Bool} {l : List α} {i : Nat} {x : α} (h : l[i]? = some x) (n : (l.take i).any f = false) : (l.take (i + 1)).any f = f x := by
  rw [take_one h, List.any_append, n, Bool.false_or]
  simp
abbrev NPd : List Str := ["parting", "low", "high", "block", "within", "number"]
abbrev NCr : List Str := ["parting", "gaps", "block", "low", "high"]
theorem gaps_step {p : Prt} {i : Nat} {b : Blk} (h : p[i]? = some b) : gaps (p.take (i + 1)) = gaps (p.take i) ++ (prs b).map fun q => (q.1 + 1, q.2) := by
  unfold gaps
  rw [take_one h, List.flatMap_append]
  simp
theorem prs_len (b : Blk) : (prs b).length ≤ b.length := by
  unfold prs
  rw [List.length_zip]
  omega
theorem gaps_len {p : Prt} (h : ∀ b ∈ p, b.length ≤ 8) : (gaps p).length ≤ 8 * p.length := by
  unfold gaps
  induction p with
  | nil => exact Nat.zero_le _
  | cons b p ih =>
    rw [List.flatMap_cons, List.length_append, List.length_map, List.length_cons]
    have h1 := h b List.mem_cons_self
    have h2 := prs_len b
    have := ih fun c hc => h c (List.mem_cons_of_mem _ hc)
    omega
section
variable {P : Program} {w : World} {K : PySem.W.Frag} {mg : Str → Option Value} {base : Heap} {f : Addr} {fd : FuncData}
theorem scParted : FnScope NPd ["parting", "low", "high"] (defScope sParted) := ⟨rfl, rfl, rfl, by decide +kernel, rfl, by decide +kernel, by decide +kernel⟩
theorem ok_parted (F : Fun K "is_parted" "is_parted" sParted f fd) (T : Blt mg) : FnOk P w K mg base CX0 1 f fd ["parting", "low", "high"] (spParted K) := by
  refine F.ok scParted (fun vs H Q E h => ?_) (fun cdv A outer s H vs Q E hr h => ?_)
  · obtain ⟨v, p, lo, hi, rfl, _⟩ := h
    rfl
  · obtain ⟨v, p, lo, hi, rfl, ⟨a, xs, rfl, sx, al⟩, sz, kk⟩ := h
    obtain ⟨l8, bl⟩ := size_blk sz
    have lx := al.len
    refine ⟨_, pss_cons (ps_for PassesOwn.never rfl (pi_tup (pv 0)) (pg_name (i := 3) scParted.nd rfl (.inl rfl))
        (C8.pss_cut (ps_set (i := 4) scParted.nd rfl (Or.inl rfl) (pe_callB call_len_seq (by rfl) T.len (by decide +kernel) (pa_cons (pe_lc (own := [("number", 5)]) (g := gName 5) rfl scParted.nd (pi_tup (pv 3)) (blkOk_by (N := NPd) (sc := defScope sParted) (by decide +kernel))
            (fun _ _ _ _ _ => pg_name (i := 5) scParted.nd rfl (Or.inl rfl)) (fun _ _ _ _ _ => pts_one (PW.pt (pw_and (pt_cmpR op_le (pv 1) (pv 5) (nomark _)) (pw_and1 (pt_cmpR op_lt (pv 5) (pv 2) (nomark _))))))
            (fun _ _ _ _ _ => pv 5)) pa_nil)))
        (pss_one (ps_if (PW.pt (pw_and (pt_cmpR op_lt pe_int (pv 4) (nomark _)) (pw_and1 (pt_cmpR op_lt (pv 4) (pe_callB call_len_seq (by rfl) T.len (by decide +kernel) (pa_cons (pv 3) pa_nil)) (nomark _))))) (pss_one (ps_ret pe_bl)) pss_nil))))
      (pss_one (ps_ret pe_bl)), ?_⟩
    refine ⟨_, rfl, a, rfl, ⟨_, sx⟩, for_tup (K := K) (a := a) (xs := xs) (fun i σ H1 => Same H H1 ∧ (p.take i).any (cutB lo hi) = false ∧ ∃ v3 v4, σ = [some (.ref a), some (.int lo), some (.int hi), v3, v4, none]) ⟨fun _ _ z => z, rfl, none, none, rfl⟩ (fun i σ H1 _ q => Bs.Same.t q.1 sx) ?_ ?_⟩
    · rintro i x σ H1 hx ⟨s1, no, v3, v4, rfl⟩
      obtain ⟨b, hb, ib⟩ := al.get hx
      have bb := bl b (List.mem_of_getElem? hb)
      obtain ⟨c, rfl, sc⟩ := id ib
      refine ⟨fun σ H2 => Same H H2 ∧ σ = [some (.ref a), some (.int lo), some (.int hi), some (.ref c), some (.int (within b lo hi)), none], ?_, ?_⟩
      · refine ⟨_, rfl, c, rfl, ⟨_, Bs.Same.t s1 sc⟩, fun D hD => lc_tup (K := K) (a := c) (xs := b.map V.int) (fun j H2 => Same H1 H2 ∧ H2 D = some (.lst (((b.take j).filter fun n => decide (lo ≤ n) && decide (n < hi)).map V.int))) ⟨same_new hD, upd_same⟩ (fun j H2 _ z => Bs.Same.t (s1.trans z.1) sc) ?_ ?_⟩
        · rintro j y H2 hy ⟨s2, hD2⟩
          obtain ⟨t, ht, rfl⟩ := some_int hy
          refine ⟨rfl, ?_⟩
          have lf : ((b.take j).filter fun n => decide (lo ≤ n) && decide (n < hi)).length ≤ b.length := Nat.le_trans (List.length_filter_le _ _) (List.length_take_le' _ _)
          have goF : (decide (lo ≤ t) && decide (t < hi)) = false → Same H1 H2 ∧ H2 D = some (.lst (((b.take (j + 1)).filter fun n => decide (lo ≤ n) && decide (n < hi)).map V.int)) := fun e => by
            refine ⟨s2, ?_⟩
            rw [hD2, take_one ht, List.filter_append, List.map_append, List.filter_cons_of_neg (by rw [e]; decide)]
            show _ = some (HO.lst (_ ++ []))
            rw [List.append_nil]
          refine ⟨_, rfl, _, rfl, _, _, rfl, rfl, _, rfl, ?_⟩
          refine ite2 (fun c1 => ?_) (fun c1 => ?_)
          · refine ⟨_, rfl, _, rfl, _, _, rfl, rfl, _, rfl, ?_⟩
            refine ite2 (fun c2 => ?_) (fun c2 => ?_)
            · refine ⟨_, rfl, _, hD2, small1000 (by rw [List.length_map]; omega), fun b' o e => (upd_ne (ne_of_none e hD)).trans (s2 b' o e), ?_⟩
              rw [upd_same, take_one ht, List.filter_append, List.map_append, List.filter_cons_of_pos (by rw [c1, c2]; rfl)]
              rfl
            · exact goF (by rw [c1, Bool.eq_false_iff.mpr c2]; rfl)
          · exact goF (by rw [Bool.eq_false_iff.mpr c1]; rfl)
        · rintro H2 ⟨s2, hD2⟩
          rw [List.length_map, List.take_length] at hD2
          refine ⟨D, _, rfl, .inl (SqL.of hD2), s1.trans s2, ?_⟩
          rw [List.length_map]
          rfl
      rintro σ H2 ⟨s2, rfl⟩
      have goF : cutB lo hi b = false → Same H H2 ∧ (p.take (i + 1)).any (cutB lo hi) = false ∧ ∃ v3 v4, [some (V.ref a), some (.int lo), some (.int hi), some (.ref c), some (.int (within b lo hi)), none] = [some (V.ref a), some (.int lo), some (.int hi), v3, v4, none] := fun e => ⟨s2, by rw [any_one hb no, e], _, _, rfl⟩
      refine ⟨_, rfl, _, _, rfl, rfl, _, rfl, ?_⟩
      refine ite2 (fun c1 => ?_) (fun c1 => goF ?_)
      · refine ⟨_, rfl, _, rfl, c, _, rfl, .inr (Bs.Same.t s2 sc), _, _, rfl, rfl, _, rfl, ?_⟩
        have d1 := of_decide_eq_true c1
        refine ite2 (fun c2 => ?_) (fun c2 => goF ?_)
        · have d2 := of_decide_eq_true c2
          rw [List.length_map] at d2
          have e : parted p lo hi = true := by
            unfold parted
            rw [List.any_eq_true]
            refine ⟨b, List.mem_of_getElem? hb, ?_⟩
            unfold cutB
            rw [decide_eq_true (by omega), decide_eq_true (by omega)]
            rfl
          have := kk H2 s2
          rw [e] at this
          exact this
        · unfold cutB
          rw [Bool.and_eq_false_iff]
          refine .inr (decide_eq_false fun z => c2 (decide_eq_true ?_))
          rw [List.length_map]
          omega
      · unfold cutB
        rw [Bool.and_eq_false_iff]
        exact .inl (decide_eq_false fun z => c1 (decide_eq_true (by omega)))
    · rintro σ H1 ⟨s1, no, v3, v4, rfl⟩
      rw [lx, List.take_length] at no
      have := kk H1 s1
      unfold parted at this
      rw [no] at this
      exact this
end
end Rs


set_option Elab.async false
set_option linter.all false
set_option maxRecDepth 100000
set_option maxHeartbeats 1000000
namespace Rs
open PySem L2 Bs LamX Pg RZ
theorem cut_tailK {xs : List V} : cutV xs (some 1) none = xs.drop 1 := by
  by_cases h : 1 ≤ xs.length
  · rw [cut_tail h]
    cases xs <;> rfl
  · have : xs = [] := List.eq_nil_of_length_eq_zero (by omega)
    subst this
    rfl
section
variable {P : Program} {w : World} {K : PySem.W.Frag} {mg : Str → Option Value} {base : Heap} {f : Addr} {fd : FuncData}
theorem scCross : FnScope NCr ["parting"] (defScope sCross) := ⟨rfl, rfl, rfl, by decide +kernel, rfl, by decide +kernel, by decide +kernel⟩
theorem ok_cross (F : Fun K "does_cross" "does_cross" sCross f fd) (zp : mg "zip" = none) (an : mg "any" = none) (IP : Cal P w K mg base 1 "is_parted" (spParted K)) : FnOk P w K mg base CX0 2 f fd ["parting"] (spPB K crosses) := by
  refine F.ok scCross (fun vs H Q E h => ?_) (fun cdv A outer s H vs Q E hr h => ?_)
  · obtain ⟨v, p, rfl, _⟩ := h
    rfl
  · obtain ⟨v, p, rfl, pp, sz, kk⟩ := h
    obtain ⟨a, xs, rfl, sx, al⟩ := id pp
    obtain ⟨l8, bl⟩ := size_blk sz
    have lx := al.len
    refine ⟨_, C8.pss_cut (ps_setLc2 (i := 1) (own := [("block", 2), ("low", 3), ("high", 4)]) (vs1 := [3, 4]) (g := gName 2) (tt := tYes) (g1 := gTup K 2 (gCons (gName 3) (gCons (gName 4) gNil))) (tt1 := tYes) (wi1 := iZipA K (tCons (tVar 2) (tCons (tSl (rSlA K) (tVar 2) (tPart (tC (.int 1))) tNoPart) tNil))) (te := tTup (tCons (tOp rAdd (tVar 3) (tC (.int 1))) (tCons (tVar 4) tNil))) (by rfl) scCross.nd rfl rfl (sw_true rfl rfl rfl (by decide +kernel)) (pi_tup (pv 0)) (blkOk_by (N := NCr) (sc := defScope sCross) (by decide +kernel)) (by decide)
        (fun _ _ _ _ _ => pg_name (i := 2) scCross.nd rfl (Or.inl rfl)) (fun _ _ _ _ _ => pts_nil)
        (fun _ _ _ _ _ => pi_zipA (by rfl) zp (pa_cons (pv 2) (pa_cons (pe_slice (r := rSlA K) sl_tupA (pv 2) (po_some pe_int) po_none) pa_nil)))
        (fun _ _ _ _ _ => pg_tup rfl (pgs_cons (pg_name (i := 3) scCross.nd rfl (Or.inl rfl)) (pgs_cons (pg_name (i := 4) scCross.nd rfl (Or.inl rfl)) pgs_nil))) (fun _ _ _ _ _ => pts_nil)
        (fun _ _ _ _ _ => pe_tup (pa_cons (pe_op (r := rAdd) op_add (pv 3) pe_int) (pa_cons (pv 4) pa_nil))))
      (pss_one (ps_ret (pe_callB (cr_any rfl) (by rfl) an (by decide +kernel) (pa_cons (pe_lc (own := [("low", 3), ("high", 4)]) (g := gTup K 2 (gCons (gName 3) (gCons (gName 4) gNil))) (tt := tYes) rfl scCross.nd (pi_list (pv 1)) (blkOk_by (N := NCr) (sc := defScope sCross) (by decide +kernel))
        (fun _ _ _ _ _ => pg_tup rfl (pgs_cons (pg_name (i := 3) scCross.nd rfl (Or.inl rfl)) (pgs_cons (pg_name (i := 4) scCross.nd rfl (Or.inl rfl)) pgs_nil))) (fun _ _ _ _ _ => pts_nil)
        (fun _ _ _ _ _ => pe_n IP hr (by decide) (by rfl) (pa_cons (pv 0) (pa_cons (pv 3) (pa_cons (pv 4) pa_nil))))) pa_nil)))), ?_⟩
    have gl := gaps_len fun b hb => (bl b hb).1
    refine ⟨fun σ H1 => Same H H1 ∧ ∃ (L : Addr) (gs : List V), H1 L = some (.lst gs) ∧ Al (Gp K H1) gs (gaps p) ∧ σ = [some (.ref a), some (.ref L), none, none, none], ?_, ?_⟩
    · refine ⟨_, rfl, a, rfl, ⟨_, sx⟩, fun D hD => ?_⟩
      refine lc2_out (walk_tup (K := K) (a := a) (xs := xs)) (fun i H2 => Same H H2 ∧ ∃ acc, H2 D = some (.lst acc) ∧ Al (Gp K H2) acc (gaps (p.take i))) ⟨same_new hD, [], upd_same, .nil⟩ (fun i H2 _ q => Bs.Same.t q.1 sx) ?_ ?_
      · rintro i x H2' H2 hi ⟨s2, acc, hD2, ga⟩ ⟨e2, hx⟩
        subst e2
        obtain ⟨b, hb, ib⟩ := al.get hx
        have bb := bl b (List.mem_of_getElem? hb)
        obtain ⟨c, rfl, sc⟩ := id ib
        refine ⟨rfl, ?_⟩
        refine iteT (B := Same H H2 ∧ ∃ acc, H2 D = some (.lst acc) ∧ Al (Gp K H2) acc (gaps (p.take (i + 1)))) ?_
        refine ⟨_, rfl, _, rfl, 1, rfl, ?_⟩
        unfold tNoPart
        refine sl_cut (Bs.Same.t s2 sc) cut_tailK fun c2 H3 s3 sc2 => ?_
        have s23 := s2.trans s3
        refine ⟨c, c2, b.map V.int, (b.map V.int).drop 1, rfl, .inr ⟨Bs.Same.t s23 sc, sc2, ?_⟩⟩
        refine lc2_in (walk_zipT (xs := b.map V.int) (ys := (b.map V.int).drop 1) (n := (prs b).length) (by unfold prs; rw [List.length_zip, List.length_map, List.length_drop, List.length_map, List.length_tail])) (fun j H4 => Same H H4 ∧ SqT K H4 c2 ((b.map V.int).drop 1) ∧ ∃ acc, H4 D = some (.lst acc) ∧ Al (Gp K H4) acc (gaps (p.take i) ++ ((prs b).take j).map fun q => (q.1 + 1, q.2))) ⟨s23, sc2, acc, s3 _ _ hD2, by rw [List.take_zero, List.map_nil, List.append_nil]; exact gp_mono ga s3⟩ (fun j H4 _ z => ⟨Bs.Same.t z.1 sc, z.2.1⟩) ?_ ?_
        · rintro j x H4 H5 hj ⟨s4, s34, acc, hD4, ga⟩ ⟨T', x', y', rfl, hT, rfl, h1, h2⟩
          have h1' : (b.map V.int)[j]? = some x' := h1
          have h2' : ((b.map V.int).drop 1)[j]? = some y' := h2
          obtain ⟨t, ht, rfl⟩ := some_int h1'
          rw [List.getElem?_drop, Nat.add_comm] at h2'
          obtain ⟨u, hu, rfl⟩ := some_int h2'
          have hp := prs_get ht hu
          have s5 := same_new (o := .tup [.int t, .int u]) hT
          have la := ga.len
          rw [List.length_append, List.length_map, List.length_take] at la
          have lg : (gaps (p.take i)).length ≤ 64 := by
            have := gaps_len (p := p.take i) fun b hb => (bl b (List.mem_of_mem_take hb)).1
            rw [List.length_take] at this
            omega
          have hl := prs_len b
          refine ⟨T', _, rfl, SqT.of upd_same, rfl, _, _, rfl, _, _, rfl, rfl, rfl, ?_⟩
          refine iteT (B := Same H (upd H4 T' (.tup [.int t, .int u])) ∧ SqT K (upd H4 T' (.tup [.int t, .int u])) c2 ((b.map V.int).drop 1) ∧ ∃ acc, upd H4 T' (.tup [.int t, .int u]) D = some (.lst acc) ∧ Al (Gp K (upd H4 T' (.tup [.int t, .int u]))) acc (gaps (p.take i) ++ ((prs b).take (j + 1)).map fun q => (q.1 + 1, q.2))) ?_
          refine ⟨_, rfl, _, _, rfl, rfl, _, rfl, (by show 2 ≤ sizeLine; decide), fun p1 hp1 => ?_⟩
          have s6 := same_new (o := .tup [.int (t + 1), .int u]) hp1
          have s56 := s5.trans s6
          have hD6 := s56 _ _ hD4
          refine ⟨acc, hD6, small1000 (by omega), fun c o e => (upd_ne (ne_of_none e hD)).trans (s56 c o (s4 c o e)), sqT_off hD6 (Bs.Same.t s56 s34), acc ++ [.ref p1], upd_same, ?_⟩
          · rw [take_one hp, List.map_append, ← List.append_assoc]
            exact (gp_off (gp_mono ga s56) hD6).snoc ⟨p1, rfl, sqT_off hD6 (SqT.of upd_same)⟩
        · rintro H4 ⟨s4, _, acc, hD4, ga⟩
          rw [List.take_length, ← gaps_step hb] at ga
          exact ⟨s4, acc, hD4, ga⟩
      · rintro H2 ⟨s2, acc, hD2, ga⟩
        rw [lx, List.take_length] at ga
        exact ⟨s2, D, acc, hD2, ga, rfl⟩
    rintro σ H1 ⟨s1, L, gs, gL, ga, rfl⟩
    have lg := ga.len
    refine ⟨_, rfl, L, rfl, ⟨_, SqL.of gL⟩, fun D hD => ?_⟩
    refine lc_list (K := K) (a := L) (xs := gs) (fun i H2 => Same H1 H2 ∧ H2 D = some (.lst ((((gaps p).take i).map fun g => parted p g.1 g.2).map V.bl))) ⟨same_new hD, upd_same⟩ (fun i H2 _ z => SqL.of (z.1 _ _ gL)) ?_ ?_
    · rintro i x H2 hx ⟨s2, hD2⟩
      obtain ⟨g, hg, c, rfl, sc⟩ := ga.get hx
      refine ⟨c, _, rfl, Bs.Same.t s2 sc, rfl, _, _, rfl, _, _, rfl, rfl, rfl, ?_⟩
      refine iteT (B := Same H1 H2 ∧ H2 D = some (.lst ((((gaps p).take (i + 1)).map fun g => parted p g.1 g.2).map V.bl))) ?_
      refine ⟨_, rfl, _, rfl, _, rfl, _, p, g.1, g.2, rfl, pp.mono (s1.trans s2), sz, fun H3 s3 => ?_⟩
      refine ⟨_, s3 _ _ hD2, small1000 (by rw [List.length_map, List.length_map, List.length_take]; omega), fun c o e => (upd_ne (ne_of_none e hD)).trans (s3 c o (s2 c o e)), ?_⟩
      rw [upd_same, take_one hg, List.map_append, List.map_append]
      rfl
    · rintro H2 ⟨s2, hD2⟩
      rw [lg, List.take_length] at hD2
      refine ⟨D, _, rfl, SqL.of hD2, ?_⟩
      have e : ((gaps p).map fun g => parted p g.1 g.2).any id = crosses p := by
        rw [List.any_map]
        rfl
      rw [e]
      exact kk H2 (s1.trans s2)
end
end Rs


set_option Elab.async false
set_option linter.all false
set_option maxRecDepth 100000
set_option maxHeartbeats 1000000
namespace Rs
open PySem PySem.Spec PyProof.Rows L2 Bs LamX Pg RZ HT
theorem noI_tuple_add : typeLookup (.type "tuple") (dunderI "add") = pure none := by rw [typeLookup_type, builtinLookup_eq_fast]; kernel_rfl
section
variable {prog : Program} {w : World} {A : Around} {E : Value → Shared → Prop} {s : Shared}
theorem icat_tup {t b : Addr} {vs ws : List Value} {Q : Value → Shared → Prop} (ht : IsTup s.heap t vs.toArray) (hb : IsTup s.heap b ws.toArray) (hv : vs ≠ []) (hw : ws ≠ [])
    (h2 : Q (.ref s.heap.objs.size) { s with heap := s.heap.push { cls := .type "tuple", data := .seq (vs ++ ws).toArray } })
    (hsz : vs.length + ws.length ≤ sizeLine) : wpAny (model prog w) A (inplaceOp .Add (.ref t) (.ref b)) Q E s := by
  obtain ⟨⟨cls, dd, data, sl⟩, ho, hc, n, hd⟩ := id ht
  obtain ⟨⟨cls2, dd2, data2, sl2⟩, ho2, hc2, n2, hd2⟩ := id hb
  simp only at hc hd hc2 hd2
  subst hc hd hc2 hd2
  have e : vs.toArray ++ ws.toArray = (vs ++ ws).toArray := by simp
  refine wpAny_inplaceOp_concat ⟨_, ho, rfl⟩ ⟨_, ho2, rfl⟩ noI_tuple_add noFill_tuple_add seq_tuple_add (call_meets PySem.F.slot_tuple_add ⟨_, ho, rfl⟩ PySem.F.entry_tuple_add (PySem.F.args_tuple_add_2 _ _)
    (tuple_addW2 t b vs.toArray ws.toArray n n2 dd dd2 sl sl2 (by simpa using hv) (by simpa using hw) (by rw [List.size_toArray, List.size_toArray]; exact hsz)) ⟨ho, ho2, ?_⟩)
  rw [e]
  exact h2
end
section
variable {X : Cx}
def ipCat (K : PySem.W.Frag) : TIp := fun x y H Q => ∃ a b xs ys, x = .ref a ∧ y = .ref b ∧ SqT K H a xs ∧ SqT K H b ys ∧ xs ≠ [] ∧ ys ≠ [] ∧ xs.length + ys.length ≤ sizeLine ∧ ∀ p, H p = none → Q (.ref p) (upd H p (.tup (xs ++ ys)))
theorem ip_catT : PIp X .Add (ipCat X.K) := by
  intro pins s σ H x y v u Q I rx ry h
  obtain ⟨a, b, xs, ys, rfl, rfl, ha, hb, hx, hy, hz, q⟩ := h
  cases rx
  cases ry
  obtain ⟨its, r1, p1, _⟩ := I.tuple ha
  obtain ⟨its2, r2, p2, _⟩ := I.tuple hb
  refine icat_tup p1 p2 (fun z => hx (r1.nil_iff.mp z)) (fun z => hy (r2.nil_iff.mp z)) ?_ (by rw [← r1.length, ← r2.length]; exact hz)
  refine ⟨.ref s.heap.objs.size, _, I.laid (t' := s.toks) (o := .tup (xs ++ ys)) (fun b ob q => Heap.get?_push_of_some _ q) (Nat.le_refl _) ?_, rfl, q _ (I.hok.fresh (Nat.le_refl _))⟩
  exact ⟨by rw [List.length_append]; exact hz, _, r1.append r2, IsTup.new _ _⟩
/-- xs[i], i a place -/
def gtL (K : PySem.W.Frag) : V → V → Hp → VK → Prop := fun x y H Q => ∃ p xs v, ∃ j : Nat, x = .ref p ∧ y = .int (j : Nat) ∧ SqL K H p xs ∧ xs[j]? = some v ∧ Q v H
theorem gt_list : PGet X (gtL X.K) := by
  intro pins s σ H x y v u Q I rx ry h
  obtain ⟨p, xs, z, j, rfl, rfl, hq, he, q⟩ := h
  cases rx
  obtain ⟨t, rfl⟩ := ry
  obtain ⟨its, r, pl, hz⟩ := I.list hq
  obtain ⟨w, ew, rw'⟩ := r.get he
  have hl := r.length
  have hn := line63
  have hj : j < xs.length := (List.getElem?_eq_some_iff.mp he).1
  exact wpAny_getItem_list pl.isList (by omega) (by omega) (by simpa using ew) ⟨z, H, I, rw', q⟩
end
end Rs


set_option Elab.async false
set_option linter.all false
set_option maxRecDepth 100000
set_option maxHeartbeats 1000000
namespace Pg
end Pg
namespace Rs
open PySem L2 Bs LamX Pg RZ
abbrev sTurned : Stmt := top 37
abbrev NTu : List Str := ["parting", "blocks", "number", "beside", "block", "k"]
theorem ixn {n j : Nat} (hj : j < n) : ixN n (j : Int) = some j := by
  unfold ixN
  rw [if_pos (by omega), if_pos (by omega)]
  simp
section
variable {P : Program} {w : World} {K : PySem.W.Frag} {mg : Str → Option Value} {base : Heap} {f : Addr} {fd : FuncData}
theorem scTurned : FnScope NTu ["parting"] (defScope sTurned) := ⟨rfl, rfl, rfl, by decide +kernel, rfl, by decide +kernel, by decide +kernel⟩
theorem ok_turned (F : Fun K "turned" "turned" sTurned f fd) (T : Blt mg) (en : mg "enumerate" = none) (su : mg "sum" = none) (IP : Cal P w K mg base 1 "is_parted" (spParted K)) : FnOk P w K mg base CX0 2 f fd ["parting"] (spTurned K) := by
  refine F.ok scTurned (fun vs H Q E h => ?_) (fun cdv A outer s H vs Q E hr h => ?_)
  · obtain ⟨v, p, rfl, _⟩ := h
    rfl
  · obtain ⟨v, p, rfl, pp, ok, kk⟩ := h
    refine ⟨_, pss_cons (ps_set (i := 1) scTurned.nd rfl (Or.inl rfl) (pe_lst pa_nil))
      (C8.pss_cut (ps_for PassesOwn.never rfl (pi_range1 rfl T.range (pa_cons (pe_callB (cr_sum rfl) (by rfl) su (by decide +kernel) (pa_cons (pe_lc (own := [("block", 4)]) (g := gName 4) (tt := tYes) rfl scTurned.nd (pi_tup (pv 0)) (blkOk_by (N := NTu) (sc := defScope sTurned) (by decide +kernel))
          (fun _ _ _ _ _ => pg_name (i := 4) scTurned.nd rfl (Or.inl rfl)) (fun _ _ _ _ _ => pts_nil)
          (fun _ _ _ _ _ => pe_callB (id := "len") (r := rLenK K) call_len_seq (by rfl) T.len (by decide +kernel) (pa_cons (pv 4) pa_nil))) pa_nil)) pa_nil)) (pg_name (i := 2) scTurned.nd rfl (Or.inr rfl))
        (C8.pss_cut (ps_setLc (i := 3) (own := [("k", 5), ("block", 4)]) (g := gTup K 2 (gCons (gName 5) (gCons (gName 4) gNil))) rfl scTurned.nd rfl rfl (sw_true rfl rfl rfl (by decide +kernel))
          (pi_enum (by rfl) en (pa_cons (pv 1) pa_nil)) (blkOk_by (N := NTu) (sc := defScope sTurned) (by decide +kernel))
          (fun _ _ _ _ _ => pg_tup rfl (pgs_cons (pg_name (i := 5) scTurned.nd rfl (Or.inl rfl)) (pgs_cons (pg_name (i := 4) scTurned.nd rfl (Or.inl rfl)) pgs_nil)))
          (fun _ _ _ _ _ => pts_one (pt_not (pt_val (pe_n IP hr (by decide) (by rfl) (pa_cons (pv 0) (pa_cons (pe_op (r := rAdd) op_add (pe_ix (r := rIxT K) ix_tup (pv 4) pe_int (fun _ _ => rfl)) pe_int) (pa_cons (pe_op (r := rAdd) op_add (pv 2) pe_int) pa_nil)))))))
          (fun _ _ _ _ _ => pv 5))
        (pss_one (ps_if (pt_truth (pv 3) (fun _ => rfl)) (pss_one (ps_augS (pv 1) (pe_ix ix_list (pv 3) pe_int (fun _ _ => rfl)) gt_list (pe_tup (pa_cons (pv 2) pa_nil)) ip_catT set_list))
          (pss_one (ps_expr (pe_bm PySem.F.plainAttrs_list PySem.F.slot_list_append PySem.F.type_list_append mt_append (pv 1) (pa_cons (pe_tup (pa_cons (pv 2) pa_nil)) pa_nil))))))))
      (pss_one (ps_ret (pe_callTy call_tuple_of (by rfl) T.tuple (by decide +kernel) (pa_cons (pv 1) pa_nil))))), ?_⟩
    obtain ⟨t8, szp, szm⟩ := turnOk_at ok
    obtain ⟨a, xs, rfl, sx, all⟩ := id pp
    obtain ⟨l8, bl⟩ := size_blk szp
    have lx := all.len
    refine ⟨(by show 0 ≤ sizeLine; decide), fun L hL => ?_⟩
    have s0 := same_new (o := .lst []) hL
    have gL0 : upd H L (.lst []) L = some (.lst []) := upd_same
    generalize upd H L (.lst []) = H0 at *
    have sx0 := Bs.Same.t s0 sx
    refine ⟨fun σ H1 => ∃ acc v2 v3, Same H H1 ∧ H1 L = some (.lst acc) ∧ Al (It K H1) acc (turnTo p (total p)) ∧ σ = [some (.ref a), some (.ref L), v2, v3, none, none], ?_, ?_⟩
    · refine ⟨_, rfl, a, rfl, ⟨_, sx0⟩, fun D hD => lc_tup (K := K) (a := a) (xs := xs) (fun i H2 => Same H0 H2 ∧ H2 D = some (.lst (((p.take i).map fun b => (b.length : Int)).map V.int))) ⟨same_new hD, upd_same⟩ (fun i H2 _ z => Bs.Same.t z.1 sx0) ?_ ?_⟩
      · rintro i x H2 hx ⟨s2, hD2⟩
        obtain ⟨b, hb, c, rfl, sc⟩ := all.get hx
        refine ⟨rfl, ?_⟩
        refine iteT (B := Same H0 H2 ∧ H2 D = some (.lst (((p.take (i + 1)).map fun b => (b.length : Int)).map V.int))) ?_
        refine ⟨_, rfl, c, _, rfl, .inr (Bs.Same.t (s0.trans s2) sc), _, hD2, small1000 (by rw [List.length_map, List.length_map, List.length_take]; omega), fun c o e => (upd_ne (ne_of_none e hD)).trans (s2 c o e), ?_⟩
        rw [upd_same, take_one hb, List.map_append, List.map_append, List.length_map]
        rfl
      rintro H2 ⟨s2, hD2⟩
      rw [lx, List.take_length] at hD2
      have et : (p.map fun b => (b.length : Int)).sum = (total p : Int) := by
        unfold total
        clear sx0 all lx kk ok t8 szm szp pp bl l8 hD2
        induction p with
        | nil => rfl
        | cons b p ih =>
          rw [List.map_cons, List.sum_cons, ih, List.map_cons, List.sum_cons]
          omega
      have gL2 := s2 _ _ gL0
      refine ⟨D, _, rfl, SqL.of hD2, _, rfl, ?_⟩
      rw [et]
      refine ⟨by omega, by omega, for_range (n := ((total p : Nat) : Int).toNat) (fun i σ H1 => ∃ acc v2 v3, Same H H1 ∧ H1 L = some (.lst acc) ∧ Al (It K H1) acc (turnTo p i) ∧ σ = [some (.ref a), some (.ref L), v2, v3, none, none])
        ⟨[], none, none, s0.trans s2, gL2, .nil, rfl⟩ ?_ ?_⟩
      · rintro i σ H1 hi ⟨acc, v2, v3, s1, gL, al, rfl⟩
        have im : i < total p := by omega
        obtain ⟨c8, cl⟩ := size_blk (szm i (by omega))
        obtain ⟨c9, cl9⟩ := size_blk (szm (i + 1) (by omega))
        have la := al.len
        rw [Int.zero_add]
        refine ⟨fun σ H2 => ∃ B, Same H1 H2 ∧ H2 B = some (.lst ((beside p (turnTo p i) i).map fun k : Nat => V.int (k : Nat))) ∧ σ = [some (.ref a), some (.ref L), some (.int (i : Nat)), some (.ref B), none, none], ?_, ?_⟩
        · refine ⟨_, rfl, L, acc, rfl, SqL.of gL, fun D hD => ?_⟩
          refine lc_it (walk_enum (xs := acc)) (fun j H2 => Same H1 H2 ∧ H2 D = some (.lst (((List.range j).filter fun k => !parted p (hdI ((turnTo p i).getD k []) + 1) ((i : Int) + 1)).map fun k : Nat => V.int (k : Nat)))) ⟨same_new hD, upd_same⟩ (fun j H2 _ z => SqL.of (z.1 _ _ gL)) ?_ ?_
          · rintro j x H2 H3 hj ⟨s2, hD2⟩ ⟨T', x', y', rfl, hT, rfl, h1, h2⟩
            cases h1
            have h2' : acc[j]? = some y' := h2
            obtain ⟨b, hb, c, rfl, sc⟩ := al.get h2'
            have bb := cl b (List.mem_of_getElem? hb)
            have s3 := same_new (o := .tup [.int (j : Nat), .ref c]) hT
            have s13 := s2.trans s3
            have g1 : (b.map V.int)[0]? = some (V.int (hdI b)) := by rw [List.getElem?_map, hd_at bb.2]; rfl
            have lf := List.length_filter_le (fun k => !parted p (hdI ((turnTo p i).getD k []) + 1) ((i : Int) + 1)) (List.range j)
            rw [List.length_range] at lf
            refine ⟨T', _, rfl, SqT.of upd_same, rfl, _, _, rfl, _, _, rfl, rfl, rfl, ?_⟩
            have gD3 := s3 _ _ hD2
            generalize upd H2 T' (.tup [.int (j : Nat), .ref c]) = H3 at *
            refine ⟨_, rfl, _, rfl, c, _, _, _, rfl, rfl, Bs.Same.t s13 sc, atI_nat (j := 0) g1, _, _, rfl, rfl, _, rfl, _, _, rfl, rfl, _, p, _, _, rfl, pp.mono (s1.trans s13), szp, fun H4 s4 => ?_⟩
            refine ⟨_, rfl, ?_⟩
            have eb : (turnTo p i).getD j [] = b := getD_some hb
            have gD4 := s4 _ _ gD3
            have fr : (List.range (j + 1)).filter (fun k => !parted p (hdI ((turnTo p i).getD k []) + 1) ((i : Int) + 1)) = (List.range j).filter (fun k => !parted p (hdI ((turnTo p i).getD k []) + 1) ((i : Int) + 1)) ++ (if (!parted p (hdI b + 1) ((i : Int) + 1)) = true then [j] else []) := by
              rw [List.range_succ, List.filter_append, List.filter_cons, eb]
              rfl
            rw [fr]
            refine ite2 (fun c => ?_) (fun c => ?_)
            · refine ⟨_, rfl, _, gD4, small1000 (by rw [List.length_map]; omega), fun c o e => (upd_ne (ne_of_none e hD)).trans (s4 c o (s13 c o e)), ?_⟩
              rw [upd_same, if_pos c, List.map_append]
              rfl
            · rw [if_neg c, List.append_nil]
              exact ⟨s13.trans s4, gD4⟩
          · rintro H2 ⟨s2, hD2⟩
            rw [la] at hD2
            exact ⟨D, s2, hD2, rfl⟩
        rintro σ H2 ⟨B, s2, gB, rfl⟩
        have s02 := s1.trans s2
        have gL2 := s2 _ _ gL
        have al2 : Al (It K H2) acc (turnTo p i) := alI_mono al s2
        have ts : turnTo p (i + 1) = turnS p (turnTo p i) i := rfl
        unfold turnS at ts
        refine ⟨_, rfl, _, .inl ⟨_, SqL.of gB, rfl⟩, ?_⟩
        cases eb : beside p (turnTo p i) i with
        | nil =>
          rw [eb] at ts gB
          refine iteF ?_
          refine ⟨_, rfl, .inl ⟨rfl, _, SqL.of gL2⟩, _, rfl, (by show 1 ≤ sizeLine; decide), fun p4 hp4 => ?_⟩
          have s4 := same_new (o := .tup [.int (i : Nat)]) hp4
          have gL4 := s4 _ _ gL2
          refine ⟨L, acc, _, rfl, rfl, gL4, small1000 (by omega), acc ++ [.ref p4], _, _, fun b' o e => (upd_ne (ne_of_none e hL)).trans (s4 b' o (s02 b' o e)), upd_same, ?_, rfl⟩
          have ts2 : turnTo p (i + 1) = turnTo p i ++ [[(i : Int)]] := ts
          rw [ts2]
          exact alI_off ((alI_mono al2 s4).snoc ⟨p4, rfl, SqT.of upd_same⟩) gL4
        | cons k ks =>
          rw [eb] at ts gB
          have ts2 : turnTo p (i + 1) = (turnTo p i).set k ((turnTo p i).getD k [] ++ [(i : Int)]) := ts
          have kb : k ∈ beside p (turnTo p i) i := by rw [eb]; exact List.mem_cons_self
          unfold beside at kb
          have kl : k < (turnTo p i).length := List.mem_range.mp (List.mem_filter.mp kb).1
          have hb : (turnTo p i)[k]? = some ((turnTo p i)[k]) := List.getElem?_eq_getElem kl
          obtain ⟨x, hx, ix⟩ := al2.at hb
          have bb := cl _ (List.mem_of_getElem? hb)
          rw [getD_some hb] at ts2
          generalize (turnTo p i)[k] = b at *
          obtain ⟨c, rfl, sc⟩ := id ix
          refine iteT ?_
          refine ⟨_, rfl, _, rfl, B, _, _, _, rfl, rfl, SqL.of gB, atI_nat (j := 0) rfl, L, acc, _, k, rfl, rfl, SqL.of gL2, hx, _, rfl, (by show 1 ≤ sizeLine; decide), fun p4 hp4 => ?_⟩
          have s4 := same_new (o := .tup [.int (i : Nat)]) hp4
          refine ⟨c, p4, b.map V.int, [.int (i : Nat)], rfl, rfl, Bs.Same.t s4 sc, SqT.of upd_same, (fun z => ?_), (by simp), Nat.le_of_lt (small1000 (by rw [List.length_map]; show _ + 1 ≤ 1000; omega)), fun q hq => ?_⟩
          · have := congrArg List.length z
            rw [List.length_map] at this
            have h0 : b.length = 0 := this
            omega
          have s5 := same_new (o := .tup (b.map V.int ++ [.int (i : Nat)])) hq
          have s45 := s4.trans s5
          have gL5 := s45 _ _ gL2
          refine ⟨L, acc, k, k, rfl, rfl, gL5, ixn (by omega), acc.set k (.ref q), _, _, fun b' o e => (upd_ne (ne_of_none e hL)).trans (s45 b' o (s02 b' o e)), upd_same, ?_, rfl⟩
          rw [ts2]
          exact alI_off ((alI_mono al2 s45).set k ⟨q, rfl, by rw [List.map_append]; exact SqT.of upd_same⟩) gL5
      · rintro σ H1 ⟨acc, v2, v3, s1, gL, al, rfl⟩
        exact ⟨acc, v2, v3, s1, gL, al, rfl⟩
    rintro σ H1 ⟨acc, v2, v3, s1, gL, al, rfl⟩
    refine ⟨_, rfl, L, acc, rfl, .inl ⟨SqL.of gL, fun l hl => ?_⟩⟩
    have s2 := same_new (o := .tup acc) hl
    exact kk _ l (s1.trans s2) ⟨l, acc, rfl, SqT.of upd_same, alI_mono al s2⟩
end
end Rs


set_option Elab.async false
set_option linter.all false
set_option maxRecDepth 100000
set_option maxHeartbeats 1000000
namespace Pg
end Pg
namespace Rs
open PySem L2 Bs LamX Pg RZ
abbrev sSigned : Stmt := top 38
section
variable {P : Program} {w : World} {K : PySem.W.Frag} {mg : Str → Option Value} {base : Heap} {f : Addr} {fd : FuncData}
theorem scSigned : FnScope ["whole", "many"] ["whole", "many"] (defScope sSigned) := ⟨rfl, rfl, rfl, by decide +kernel, rfl, by decide +kernel, by decide +kernel⟩
theorem ok_signed (F : Fun K "signed" "signed" sSigned f fd) : FnOk P w K mg base CX0 1 f fd ["whole", "many"] spSigned := by
  refine F.ok scSigned (fun vs H Q E h => ?_) (fun cdv A outer s H vs Q E hr h => ?_)
  · obtain ⟨x, m, rfl, _⟩ := h
    rfl
  · obtain ⟨x, m, rfl, kk⟩ := h
    refine ⟨_, pss_one (ps_ret (pe_ifExp (pt_truth (pe_op op_odd (pv 1) pe_int) (fun _ => rfl)) (pv 0) (pe_un un_neg (pv 0)))), ?_⟩
    refine ⟨_, rfl, m, rfl, rfl, _, rfl, ?_⟩
    unfold sgn at kk
    by_cases e : m % 2 = 1
    · rw [if_pos e] at kk
      rw [e]
      exact ⟨_, rfl, kk⟩
    · rw [if_neg e] at kk
      have e0 : m % 2 = 0 := by omega
      rw [e0]
      exact ⟨_, rfl, x, rfl, kk⟩
end
end Rs


set_option Elab.async false
set_option linter.all false
set_option maxRecDepth 100000
set_option maxHeartbeats 1000000
namespace Pg
end Pg
namespace Rs
open PySem L2 Bs LamX Pg RZ
abbrev sLParts : Stmt := top 72
abbrev NLp : List Str := ["many", "rows", "number", "longer", "blocks", "spot"]
section
variable {P : Program} {w : World} {K : PySem.W.Frag} {mg : Str → Option Value} {base : Heap} {f : Addr} {fd : FuncData}
theorem scLParts : FnScope NLp ["many"] (defScope sLParts) := ⟨rfl, rfl, rfl, by decide +kernel, rfl, by decide +kernel, by decide +kernel⟩
theorem ok_lparts (F : Fun K "_law_partings" "_law_partings" sLParts f fd) (T : Blt mg) (so : mg "sorted" = none) : FnOk P w K mg base CX0 1 f fd ["many"] (spLParts K) := by
  refine F.ok scLParts (fun vs H Q E h => ?_) (fun cdv A outer s H vs Q E hr h => ?_)
  · obtain ⟨n, rfl, _⟩ := h
    rfl
  · obtain ⟨n, rfl, n5, kk⟩ := h
    have ro := all_rows n (by simp; omega)
    refine ⟨_, pss_cons (ps_set (i := 1) scLParts.nd rfl (Or.inl rfl) (pe_lst (pa_cons (pe_tup pa_nil) pa_nil)))
      (C8.pss_cut (ps_for PassesOwn.never rfl (pi_range1 rfl T.range (pa_cons (pv 0) pa_nil)) (pg_name (i := 2) scLParts.nd rfl (Or.inl rfl))
        (pss_cons (ps_set (i := 3) scLParts.nd rfl (Or.inl rfl) (pe_lst pa_nil))
        (C8.pss_cut (ps_for PassesOwn.never rfl (pi_list (pv 1)) (pg_name (i := 4) scLParts.nd rfl (Or.inl rfl))
          (C8.pss_cut (ps_expr (pe_bm PySem.F.plainAttrs_list PySem.F.slot_list_append PySem.F.type_list_append mt_append (pv 3) (pa_cons (pe_op op_catA (pv 4) (pe_tup (pa_cons (pe_tup (pa_cons (pv 2) pa_nil)) pa_nil))) pa_nil)))
          (pss_one (ps_for PassesOwn.never rfl (pi_range1 rfl T.range (pa_cons (pe_callB call_len_seq (by rfl) T.len (by decide +kernel) (pa_cons (pv 4) pa_nil)) pa_nil)) (pg_name (i := 5) scLParts.nd rfl (Or.inl rfl))
            (pss_one (ps_expr (pe_bm PySem.F.plainAttrs_list PySem.F.slot_list_append PySem.F.type_list_append mt_append (pv 3) (pa_cons (pe_op op_catA (pe_op op_catA (pe_slice sl_tupA (pv 4) po_none (po_some (pv 5))) (pe_tup (pa_cons (pe_op op_catA (pe_ix ix_tup (pv 4) (pv 5) (fun _ _ => rfl)) (pe_tup (pa_cons (pv 2) pa_nil))) pa_nil))) (pe_slice sl_tupA (pv 4) (po_some (pe_op op_add (pv 5) pe_int)) po_none)) pa_nil))))))))
        (pss_one (ps_set (i := 1) scLParts.nd rfl (Or.inl rfl) (pe_callTy call_list_of (by rfl) T.list (by decide +kernel) (pa_cons (pv 3) pa_nil)))))))
      (pss_one (ps_ret (pe_callB (cr_sortedW hr.units) (by rfl) so (by decide +kernel) (pa_cons (pv 1) pa_nil))))), ?_⟩
    refine ⟨(by show 0 ≤ sizeLine; decide), fun p0 hp0 => ⟨(by show 1 ≤ sizeLine; decide), fun L0 hL0 => ?_⟩⟩
    have t1 := same_new (o := .tup []) hp0
    have t2 := same_new (o := .lst [.ref p0]) hL0
    have t12 := t1.trans t2
    have pt0 : Al (Pt K (upd (upd H p0 (.tup [])) L0 (.lst [.ref p0]))) [V.ref p0] (lawRows 0) := .cons ⟨p0, [], rfl, Bs.Same.t t2 (SqT.of upd_same), .nil⟩ .nil
    have gL0 : upd (upd H p0 (.tup [])) L0 (.lst [V.ref p0]) L0 = some (.lst [V.ref p0]) := upd_same
    generalize upd (upd H p0 (.tup [])) L0 (.lst [V.ref p0]) = H0 at *
    refine ⟨fun σ H1 => ∃ L acc v2 v3 v4 v5, Same H H1 ∧ H1 L = some (.lst acc) ∧ Al (Pt K H1) acc (lawRows n) ∧ σ = [some (.int (n : Nat)), some (.ref L), v2, v3, v4, v5], ?_, ?_⟩
    · refine ⟨_, rfl, _, rfl, by omega, by omega, for_range (n := ((n : Nat) : Int).toNat) (fun i σ H1 => ∃ L acc v2 v3 v4 v5, Same H H1 ∧ H1 L = some (.lst acc) ∧ Al (Pt K H1) acc (lawRows i) ∧ σ = [some (.int (n : Nat)), some (.ref L), v2, v3, v4, v5])
        ⟨L0, _, none, none, none, none, t12, gL0, pt0, rfl⟩ ?_ (fun σ H1 z => z)⟩
      rintro i σ H1 hi ⟨L, acc, v2, v3, v4, v5, s1, gL, al, rfl⟩
      obtain ⟨y1, y2, y3, y4⟩ := rows_at ro (show i ≤ n by omega)
      rw [Int.zero_add]
      refine ⟨(by show 0 ≤ sizeLine; decide), fun D hD => ?_⟩
      have s2 := same_new (o := .lst []) hD
      have gD0 : upd H1 D (.lst []) D = some (.lst []) := upd_same
      have gL1 := s2 _ _ gL
      have nL : L ≠ D := fun e => by
        rw [e, hD] at gL
        cases gL
      generalize upd H1 D (.lst []) = H2 at *
      refine ⟨fun σ H3 => ∃ bcc v4 v5, Same H1 H3 ∧ H3 D = some (.lst bcc) ∧ Al (Pt K H3) bcc (lawRows (i + 1)) ∧ σ = [some (.int (n : Nat)), some (.ref L), some (.int (i : Nat)), some (.ref D), v4, v5], ?_, ?_⟩
      · refine ⟨_, rfl, L, rfl, ⟨_, SqL.of gL1⟩, for_it (walk_list (K := K) (a := L) (xs := acc)) (fun j σ H3 => Same H1 H3 ∧ ∃ bcc v4 v5, H3 D = some (.lst bcc) ∧ Al (Pt K H3) bcc (((lawRows i).take j).flatMap fun p => withN p i) ∧ σ = [some (.int (n : Nat)), some (.ref L), some (.int (i : Nat)), some (.ref D), v4, v5])
          ⟨s2, [], v4, v5, gD0, .nil, rfl⟩ (fun j σ H3 _ q => SqL.of (q.1 _ _ gL)) ?_ ?_⟩
        · rintro j x σ H3' H3 hj ⟨s3, bcc, v4', v5', gD, ga, rfl⟩ ⟨e3, hx⟩
          subst e3
          obtain ⟨p, hp, a, xs, rfl, sx0, ai0⟩ := al.get hx
          have zp := size_blk (y2 p (List.mem_of_getElem? hp))
          have fl := flat_one (f := fun p => withN p (i : Int)) hp
          have ln := flat_take_len (f := fun p => withN p (i : Int)) (lawRows i) (j + 1)
          rw [fl, List.length_append] at ln
          have wl : (withN p (i : Int)).length = p.length + 1 := by
            unfold withN
            rw [List.length_cons, List.length_map, List.length_range]
          have sx := Bs.Same.t s3 sx0
          have ai : Al (It K H3) xs p := alI_mono ai0 s3
          have lx := ai.len
          have lb := ga.len
          refine ⟨fun σ H4 => ∃ bc2, Same H1 H4 ∧ H4 D = some (.lst bc2) ∧ Al (Pt K H4) bc2 (((lawRows i).take j).flatMap (fun p => withN p i) ++ [p ++ [[(i : Int)]]]) ∧ σ = [some (.int (n : Nat)), some (.ref L), some (.int (i : Nat)), some (.ref D), some (.ref a), v5'], ?_, ?_⟩
          · refine ⟨_, rfl, .inl ⟨rfl, _, SqL.of gD⟩, _, rfl, _, rfl, (by show 1 ≤ sizeLine; decide), fun p1 hp1 => ⟨(by show 1 ≤ sizeLine; decide), fun p2 hp2 => ?_⟩⟩
            have u1 := same_new (o := .tup [.int (i : Nat)]) hp1
            have u2 := same_new (o := .tup [.ref p1]) hp2
            have u12 := u1.trans u2
            refine cat_any (Bs.Same.t u12 sx) (SqT.of upd_same) (Nat.le_of_lt (small1000 (by show _ + 1 ≤ 1000; omega))) (fun c H5 u3 sc => ?_)
            have u13 := u12.trans u3
            have gD5 := u13 _ _ gD
            refine ⟨D, bcc, _, rfl, rfl, gD5, small1000 (by omega), bcc ++ [.ref c], fun b' o e => (upd_ne (ne_of_none e hD)).trans (u13 b' o (s3 b' o e)), upd_same, ?_, rfl⟩
            have pz : Pt K H5 (.ref c) (p ++ [[(i : Int)]]) := ⟨c, _, rfl, sc, (alI_mono ai u13).snoc ⟨p1, rfl, Bs.Same.t u3 (SqT.of (u2 _ _ upd_same))⟩⟩
            exact (alP_off (alP_mono ga u13) gD5).snoc (pz.off gD5)
          rintro σ H4 ⟨bc2, s4, gD4, ga4, rfl⟩
          have sx4 := Bs.Same.t s4 sx0
          refine ⟨_, rfl, a, xs, rfl, .inr sx4, _, rfl, by omega, by omega, for_range (n := ((xs.length : Nat) : Int).toNat) (fun l σ H5 => ∃ bc3 v5, Same H1 H5 ∧ H5 D = some (.lst bc3) ∧ Al (Pt K H5) bc3 (((lawRows i).take j).flatMap (fun p => withN p i) ++ ((p ++ [[(i : Int)]]) :: (List.range l).map (more p i))) ∧ σ = [some (.int (n : Nat)), some (.ref L), some (.int (i : Nat)), some (.ref D), some (.ref a), v5])
            ⟨bc2, v5', s4, gD4, ga4, rfl⟩ ?_ ?_⟩
          · rintro l σ H5 hl ⟨bc3, v5, s5, gD5, ga5, rfl⟩
            have ii : l < p.length := by omega
            have hb : p[l]? = some (p[l]) := List.getElem?_eq_getElem ii
            obtain ⟨y, hy, c, rfl, sc⟩ := ai0.at hb
            have bb := zp.2 _ (List.mem_of_getElem? hb)
            have gd := getD_some hb
            generalize p[l] = b at *
            have lb5 := ga5.len
            rw [List.length_append, List.length_cons, List.length_map, List.length_range] at lb5
            have sx5 := Bs.Same.t s5 sx0
            rw [Int.zero_add]
            refine ⟨_, rfl, .inl ⟨rfl, _, SqL.of gD5⟩, _, rfl, _, rfl, (l : Int), rfl, ?_⟩
            refine sl_cut sx5 (cut_to (by omega)) fun d1 H6 s6 sd1 => ?_
            have s56 := s5.trans s6
            refine ⟨_, rfl, _, rfl, a, xs, _, _, rfl, rfl, Bs.Same.t s56 sx0, atI_nat hy, _, rfl, (by show 1 ≤ sizeLine; decide), fun p5 hp5 => ?_⟩
            have s7 := same_new (o := .tup [.int (i : Nat)]) hp5
            have s57 := s56.trans s7
            refine cat_any (Bs.Same.t s57 sc) (SqT.of upd_same) (Nat.le_of_lt (small1000 (by rw [List.length_map]; show _ + 1 ≤ 1000; omega))) (fun d2 H8 s8 sd2 => ⟨(by show 1 ≤ sizeLine; decide), fun p7 hp7 => ?_⟩)
            have s9 := same_new (o := .tup [.ref d2]) hp7
            have s89 := s8.trans s9
            refine cat_any (Bs.Same.t (s7.trans s89) sd1) (SqT.of upd_same) (Nat.le_of_lt (small1000 (by rw [List.length_take]; show _ + 1 ≤ 1000; omega))) (fun d3 H10 s10 sd3 => ?_)
            have s610 := (s7.trans s89).trans s10
            refine ⟨_, rfl, _, rfl, _, _, rfl, rfl, (l : Int) + 1, rfl, ?_⟩
            unfold tNoPart
            refine sl_cut (ys := xs.drop (l + 1)) (Bs.Same.t (s56.trans s610) sx0) (by rw [show (l : Int) + 1 = ((l + 1 : Nat) : Int) by omega]; exact cut_from (by omega)) fun d4 H11 s11 sd4 => ?_
            refine cat_any (Bs.Same.t s11 sd3) sd4 (Nat.le_of_lt (small1000 (by rw [List.length_append, List.length_take, List.length_drop]; show _ + 1 + _ ≤ 1000; omega))) (fun d5 H12 s12 sd5 => ?_)
            have s1112 := s11.trans s12
            have s512 := (s6.trans s610).trans s1112
            have gD12 := s512 _ _ gD5
            refine ⟨D, bc3, _, rfl, rfl, gD12, small1000 (by omega), bc3 ++ [.ref d5], _, fun b' o e => (upd_ne (ne_of_none e hD)).trans (s512 b' o (s5 b' o e)), upd_same, ?_, rfl⟩
            have al12 := alI_mono ai0 (s5.trans s512)
            have i2 : It K H12 (.ref d2) (b ++ [(i : Int)]) := ⟨d2, rfl, Bs.Same.t (s9.trans (s10.trans s1112)) (by rw [List.map_append]; exact sd2)⟩
            have pm : Pt K H12 (.ref d5) (more p i l) := ⟨d5, _, rfl, sd5, by
              unfold more
              rw [gd]
              exact ((al12.take l).app (.cons i2 .nil)).app (al12.drop (l + 1))⟩
            rw [List.range_succ, List.map_append, ← List.cons_append, ← List.append_assoc]
            exact (alP_off (alP_mono ga5 s512) gD12).snoc (pm.off gD12)
          · rintro σ H5 ⟨bc3, v5, s5, gD5, ga5, rfl⟩
            rw [show ((xs.length : Nat) : Int).toNat = p.length by omega] at ga5
            refine ⟨s5, bc3, _, _, gD5, ?_, rfl⟩
            rw [fl]
            exact ga5
        · rintro σ H3 ⟨s3, bcc, v4, v5, gD, ga, rfl⟩
          rw [al.len, List.take_length] at ga
          exact ⟨bcc, v4, v5, s3, gD, ga, rfl⟩
      rintro σ H3 ⟨bcc, v4, v5, s3, gD, ga, rfl⟩
      refine ⟨_, rfl, D, bcc, rfl, .inl (SqL.of gD), fun L2 hL2 => ?_⟩
      have s4 := same_new (o := .lst bcc) hL2
      exact ⟨L2, bcc, _, _, _, _, (s1.trans s3).trans s4, upd_same, alP_mono ga s4, rfl⟩
    rintro σ H1 ⟨L, acc, v2, v3, v4, v5, s1, gL, al, rfl⟩
    obtain ⟨y1, y2, y3, y4⟩ := rows_at ro (Nat.le_refl n)
    refine ⟨_, rfl, L, acc, lawRows n, rfl, SqL.of gL, al, y4, fun ys p2 ai hp2 => ?_⟩
    have s2 := same_new (o := .lst ys) hp2
    exact kk _ p2 ys (s1.trans s2) (s1.free hp2) upd_same (alP_mono ai s2)
end
end Rs


set_option Elab.async false
set_option linter.all false
set_option maxRecDepth 100000
set_option maxHeartbeats 1000000
namespace Pg
theorem homes_at {p : Prt} (h : homesOk p = true) : total p ≤ 7 ∧ ∀ n, n < total p → (homes p (n : Nat)) ≠ [] := by
  unfold homesOk at h
  rw [Bool.and_eq_true, decide_eq_true_eq, List.all_eq_true] at h
  refine ⟨h.1, fun n hn e => ?_⟩
  have := h.2 n (List.mem_range.mpr hn)
  rw [e] at this
  cases this
/-- what breaks freeness -/
def hitB (h : List Nat) (near spot late : Nat) : Bool := decide (h.getD near 0 = h.getD late 0) && (decide (h.getD late 0 ≠ h.getD spot 0) && (h.drop (late + 1)).contains (h.getD spot 0))
theorem freeB_true {h : List Nat} (z : ∀ near, near < h.length → ∀ spot, spot < h.length → near < spot → ∀ late, late < h.length → spot < late → hitB h near spot late = false) : freeB h = true := by
  unfold freeB
  rw [List.all_eq_true]
  intro near h1
  rw [List.all_eq_true]
  intro spot h2
  rw [List.all_eq_true]
  intro late h3
  rw [List.mem_range] at h1 h2 h3
  by_cases c1 : near < spot
  · by_cases c2 : spot < late
    · have := z near h1 spot h2 c1 late h3 c2
      unfold hitB at this
      rw [this]
      simp
    · simp [c2]
  · simp [c1]
theorem freeB_false {h : List Nat} {near spot late : Nat} (h1 : near < h.length) (h2 : spot < h.length) (h3 : late < h.length) (c1 : near < spot) (c2 : spot < late) (hit : hitB h near spot late = true) : freeB h = false := by
  rw [Bool.eq_false_iff]
  intro q
  unfold freeB at q
  have q1 := List.all_eq_true.mp q near (List.mem_range.mpr h1)
  have q2 := List.all_eq_true.mp q1 spot (List.mem_range.mpr h2)
  have q3 := List.all_eq_true.mp q2 late (List.mem_range.mpr h3)
  unfold hitB at hit
  rw [hit] at q3
  simp [c1, c2] at q3
end Pg
namespace Rs
open PySem L2 Bs LamX Pg RZ
abbrev sLHome : Stmt := top 73
abbrev sLFree : Stmt := top 74
abbrev NLh : List Str := ["parting", "number", "spot", "block"]
abbrev NLf : List Str := ["parting", "many", "homes", "number", "near", "spot", "late"]
def spLHome (K : PySem.W.Frag) : Sp := fun vs H Q _ => ∃ (v : V) (p : Prt) (n : Int), vs = [v, .int n] ∧ Pt K H v p ∧ sizeB p = true ∧ homes p n ≠ [] ∧ ∀ H', Same H H' → Q (.int (home p n : Nat)) H'
def spLFree (K : PySem.W.Frag) : Sp := fun vs H Q _ => ∃ (v : V) (p : Prt), vs = [v, .int (total p : Nat)] ∧ Pt K H v p ∧ sizeB p = true ∧ homesOk p = true ∧ ∀ H', Same H H' → Q (.bl (lawFree p)) H'
theorem flat_ints : ∀ b : List Int, (b.map V.int).all flatV = true
  | [] => rfl
  | x :: b => by
    rw [List.map_cons, List.all_cons, flat_ints b]
    rfl
theorem inV_ints (n : Int) : ∀ b : List Int, inV (.int n) (b.map V.int) = b.contains n
  | [] => rfl
  | x :: b => by
    have := inV_ints n b
    unfold inV at this ⊢
    rw [List.map_cons, List.any_cons, this, List.contains_cons]
    congr 1
    show decide _ = _
    by_cases e : n = x
    · subst e
      simp
    · simp [e, Ne.symm e]
section
variable {P : Program} {w : World} {K : PySem.W.Frag} {mg : Str → Option Value} {base : Heap} {f : Addr} {fd : FuncData}
theorem scLHome : FnScope NLh ["parting", "number"] (defScope sLHome) := ⟨rfl, rfl, rfl, by decide +kernel, rfl, by decide +kernel, by decide +kernel⟩
theorem ok_lhome (F : Fun K "_law_home" "_law_home" sLHome f fd) (en : mg "enumerate" = none) : FnOk P w K mg base CX0 1 f fd ["parting", "number"] (spLHome K) := by
  refine F.ok scLHome (fun vs H Q E h => ?_) (fun cdv A outer s H vs Q E hr h => ?_)
  · obtain ⟨v, p, n, rfl, _⟩ := h
    rfl
  · obtain ⟨v, p, n, rfl, ⟨a, xs, rfl, sx, al⟩, sz, ne, kk⟩ := h
    obtain ⟨l8, bl⟩ := size_blk sz
    have lx := al.len
    refine ⟨_, pss_one (ps_ret (pe_ix ix_list (pe_lc (own := [("spot", 2), ("block", 3)]) (g := gTup K 2 (gCons (gName 2) (gCons (gName 3) gNil))) rfl scLHome.nd
          (EnT.pi_enumT (by rfl) en (pa_cons (pv 0) pa_nil)) (blkOk_by (N := NLh) (sc := defScope sLHome) (by decide +kernel))
          (fun _ _ _ _ _ => pg_tup rfl (pgs_cons (pg_name (i := 2) scLHome.nd rfl (Or.inl rfl)) (pgs_cons (pg_name (i := 3) scLHome.nd rfl (Or.inl rfl)) pgs_nil)))
          (fun _ _ _ _ _ => pts_one (pt_cmpR (r := rIn K false) op_in_seq (pv 1) (pv 3) (by rfl)))
          (fun _ _ _ _ _ => pv 2)) pe_int (fun _ _ => rfl))), ?_⟩
    refine ⟨_, rfl, a, xs, rfl, sx, fun D hD => ?_⟩
    refine lc_it (walk_enumT (xs := xs)) (fun j H2 => Same H H2 ∧ H2 D = some (.lst (((List.range j).filter fun k => (p.getD k []).contains n).map fun k : Nat => V.int (k : Nat)))) ⟨same_new hD, upd_same⟩ (fun j H2 _ z => Bs.Same.t z.1 sx) ?_ ?_
    · rintro j x H2 H3 hj ⟨s2, hD2⟩ ⟨T', x', y', rfl, hT, rfl, h1, h2⟩
      cases h1
      have h2' : xs[j]? = some y' := h2
      obtain ⟨b, hb, c, rfl, sc⟩ := al.get h2'
      have s3 := same_new (o := .tup [.int (j : Nat), .ref c]) hT
      have s13 := s2.trans s3
      have lf := List.length_filter_le (fun k => (p.getD k []).contains n) (List.range j)
      rw [List.length_range] at lf
      refine ⟨T', _, rfl, SqT.of upd_same, rfl, _, _, rfl, _, _, rfl, rfl, rfl, ?_⟩
      have gD3 := s3 _ _ hD2
      generalize upd H2 T' (.tup [.int (j : Nat), .ref c]) = H3 at *
      have eb : p.getD j [] = b := getD_some hb
      have fr : (List.range (j + 1)).filter (fun k => (p.getD k []).contains n) = (List.range j).filter (fun k => (p.getD k []).contains n) ++ (if (b.contains n) = true then [j] else []) := by
        rw [List.range_succ, List.filter_append, List.filter_cons, eb]
        rfl
      refine ⟨_, rfl, _, rfl, c, _, rfl, .inr (Bs.Same.t s13 sc), rfl, flat_ints b, _, rfl, ?_⟩
      rw [fr]
      show (if inV (.int n) (b.map V.int) = true then _ else _)
      rw [inV_ints]
      refine ite2 (fun c => ?_) (fun c => ?_)
      · refine ⟨_, rfl, _, gD3, small1000 (by rw [List.length_map]; omega), fun c o e => (upd_ne (ne_of_none e hD)).trans (s13 c o e), ?_⟩
        rw [upd_same, if_pos c, List.map_append]
        rfl
      · rw [if_neg c, List.append_nil]
        exact ⟨s13, gD3⟩
    · rintro H2 ⟨s2, hD2⟩
      rw [lx] at hD2
      have e : home p n = (homes p n).headD 0 := rfl
      cases eh : homes p n with
      | nil => exact absurd eh ne
      | cons k ks =>
        rw [eh] at e
        have k1 := kk H2 s2
        rw [e] at k1
        have eh2 : (List.range p.length).filter (fun k => (p.getD k []).contains n) = k :: ks := eh
        rw [eh2] at hD2
        exact ⟨D, _, _, _, rfl, rfl, SqL.of hD2, atI_nat (j := 0) rfl, k1⟩
end
end Rs


set_option Elab.async false
set_option linter.all false
set_option maxRecDepth 100000
set_option maxHeartbeats 1000000
namespace Rs
open PySem L2 Bs LamX Pg RZ
theorem flat_nats : ∀ b : List Nat, (b.map fun k : Nat => V.int (k : Nat)).all flatV = true
  | [] => rfl
  | x :: b => by
    rw [List.map_cons, List.all_cons, flat_nats b]
    rfl
theorem inV_nats (n : Nat) : ∀ b : List Nat, inV (.int (n : Nat)) (b.map fun k : Nat => V.int (k : Nat)) = b.contains n
  | [] => rfl
  | x :: b => by
    have := inV_nats n b
    unfold inV at this ⊢
    rw [List.map_cons, List.any_cons, this, List.contains_cons]
    congr 1
    show decide _ = _
    by_cases e : n = x
    · subst e
      simp
    · have e2 : (x : Int) ≠ (n : Int) := fun z => e (by omega)
      simp [e, e2]
theorem nat_get {hs : List Nat} {k : Nat} (h : k < hs.length) : (hs.map fun k : Nat => V.int (k : Nat))[k]? = some (V.int (hs.getD k 0 : Nat)) := by
  rw [List.getElem?_map, List.getElem?_eq_getElem h, List.getD_eq_getElem?_getD, List.getElem?_eq_getElem h]
  rfl
theorem take_map_range {α : Type} {f : Nat → α} (i : Nat) : (List.range (i + 1)).map f = (List.range i).map f ++ [f i] := by
  rw [List.range_succ, List.map_append]
  rfl
section
variable {P : Program} {w : World} {K : PySem.W.Frag} {mg : Str → Option Value} {base : Heap} {f : Addr} {fd : FuncData}
theorem scLFree : FnScope NLf ["parting", "many"] (defScope sLFree) := ⟨rfl, rfl, rfl, by decide +kernel, rfl, by decide +kernel, by decide +kernel⟩
theorem ok_lfree (F : Fun K "_law_is_free" "_law_is_free" sLFree f fd) (T : Blt mg) (HO_ : Cal P w K mg base 1 "_law_home" (spLHome K)) : FnOk P w K mg base CX0 2 f fd ["parting", "many"] (spLFree K) := by
  refine F.ok scLFree (fun vs H Q E h => ?_) (fun cdv A outer s H vs Q E hr h => ?_)
  · obtain ⟨v, p, rfl, _⟩ := h
    rfl
  · obtain ⟨v, p, rfl, pp, sz, ho, kk⟩ := h
    obtain ⟨m7, hne⟩ := homes_at ho
    refine ⟨_, C8.pss_cut (ps_setLc (i := 2) (own := [("number", 3)]) (g := gName 3) (tt := tYes) (by rfl) scLFree.nd rfl rfl (sw_true rfl rfl rfl (by decide +kernel)) (pi_range1 rfl T.range (pa_cons (pv 1) pa_nil)) (blkOk_by (N := NLf) (sc := defScope sLFree) (by decide +kernel))
        (fun _ _ _ _ _ => pg_name (i := 3) scLFree.nd rfl (Or.inl rfl)) (fun _ _ _ _ _ => pts_nil)
        (fun _ _ _ _ _ => pe_n HO_ hr (by decide) (by rfl) (pa_cons (pv 0) (pa_cons (pv 3) pa_nil))))
      (C8.pss_cut (ps_for PassesOwn.never rfl (pi_range1 rfl T.range (pa_cons (pv 1) pa_nil)) (pg_name (i := 4) scLFree.nd rfl (Or.inl rfl))
        (pss_one (ps_for PassesOwn.never rfl (pi_range2 rfl T.range (pa_cons (pe_op op_add (pv 4) pe_int) (pa_cons (pv 1) pa_nil))) (pg_name (i := 5) scLFree.nd rfl (Or.inl rfl))
          (pss_one (ps_for PassesOwn.never rfl (pi_range2 rfl T.range (pa_cons (pe_op op_add (pv 5) pe_int) (pa_cons (pv 1) pa_nil))) (pg_name (i := 6) scLFree.nd rfl (Or.inl rfl))
            (pss_one (ps_if (PW.pt (pw_and (pt_chain op_eq op_ne (pe_ix ix_list (pv 2) (pv 4) (fun _ _ => rfl)) (pe_ix ix_list (pv 2) (pv 6) (fun _ _ => rfl)) (pe_ix ix_list (pv 2) (pv 5) (fun _ _ => rfl)))
                (pw_and1 (pt_cmpR op_in_seq (pe_ix ix_list (pv 2) (pv 5) (fun _ _ => rfl)) (pe_slice sl_list (pv 2) (po_some (pe_op op_add (pv 6) pe_int)) po_none) (by rfl))))) (pss_one (ps_ret pe_bl)) pss_nil)))))))
      (pss_one (ps_ret pe_bl))), ?_⟩
    have lfe : lawFree p = freeB ((List.range (total p)).map fun n : Nat => home p n) := rfl
    have hl : ((List.range (total p)).map fun n : Nat => home p n).length = total p := by rw [List.length_map, List.length_range]
    refine ⟨fun σ H1 => ∃ L, Same H H1 ∧ H1 L = some (.lst (((List.range (total p)).map fun n : Nat => home p n).map fun k : Nat => V.int (k : Nat))) ∧ σ = [some v, some (.int (total p : Nat)), some (.ref L), none, none, none, none], ?_, ?_⟩
    · refine ⟨_, rfl, _, rfl, by omega, by omega, fun D hD => ?_⟩
      refine lc_it (walk_range (n := ((total p : Nat) : Int).toNat)) (fun i H2 => Same H H2 ∧ H2 D = some (.lst (((List.range i).map fun n : Nat => home p n).map fun k : Nat => V.int (k : Nat)))) ⟨same_new hD, upd_same⟩ (fun _ _ _ _ => trivial) ?_ ?_
      · rintro i x H2' H2 hi ⟨s2, hD2⟩ ⟨e2, ex⟩
        subst e2
        have ex2 : x = V.int (i : Nat) := by
          rw [ex]
          show V.int (0 + (i : Int)) = _
          rw [Int.zero_add]
        subst ex2
        have im : i < total p := by omega
        refine ⟨rfl, ?_⟩
        refine iteT (B := Same H H2 ∧ H2 D = some (.lst (((List.range (i + 1)).map fun n : Nat => home p n).map fun k : Nat => V.int (k : Nat)))) ?_
        refine ⟨_, rfl, _, rfl, v, p, (i : Nat), rfl, pp.mono s2, sz, hne i im, fun H3 s3 => ?_⟩
        refine ⟨_, s3 _ _ hD2, small1000 (by rw [List.length_map, List.length_map, List.length_range]; omega), fun c o e => (upd_ne (ne_of_none e hD)).trans (s3 c o (s2 c o e)), ?_⟩
        rw [upd_same, take_map_range, List.map_append]
        rfl
      · rintro H2 ⟨s2, hD2⟩
        exact ⟨D, s2, hD2, rfl⟩
    rintro σ H1 ⟨L, s1, gL, rfl⟩
    rw [lfe] at kk
    generalize ((List.range (total p)).map fun n : Nat => home p n) = hs at *
    generalize total p = m at *
    refine ⟨fun σ H2 => Same H1 H2 ∧ freeB hs = true, ?_, ?_⟩
    · refine ⟨_, rfl, _, rfl, by omega, by omega, for_range (n := ((m : Nat) : Int).toNat) (fun i σ H2 => Same H1 H2 ∧ (∀ near, near < i → ∀ spot, spot < m → near < spot → ∀ late, late < m → spot < late → hitB hs near spot late = false) ∧ ∃ v4 v5 v6, σ = [some v, some (.int (m : Nat)), some (.ref L), none, v4, v5, v6])
        ⟨fun _ _ z => z, fun _ c => absurd c (by omega), none, none, none, rfl⟩ ?_ ?_⟩
      · rintro near σ H2 hn ⟨u2, no, v4, v5, v6, rfl⟩
        rw [Int.zero_add]
        refine ⟨_, rfl, _, _, rfl, rfl, _, rfl, _, _, rfl, ⟨by omega, by omega, by omega, by omega⟩, for_range (lo := (near : Int) + 1) (n := ((m : Int) - ((near : Int) + 1)).toNat) (fun j σ H3 => Same H1 H3 ∧ (∀ spot, spot < near + 1 + j → near < spot → ∀ late, late < m → spot < late → hitB hs near spot late = false) ∧ ∃ v5 v6, σ = [some v, some (.int (m : Nat)), some (.ref L), none, some (.int (near : Nat)), v5, v6])
          ⟨u2, fun _ c1 c2 => absurd c1 (by omega), v5, v6, rfl⟩ ?_ ?_⟩
        · rintro j σ H3 hj ⟨u3, no2, v5, v6, rfl⟩
          have es : (near : Int) + 1 + (j : Nat) = ((near + 1 + j : Nat) : Int) := by omega
          rw [es]
          have sm : near + 1 + j < m := by omega
          have sn : near < near + 1 + j := by omega
          generalize esp : near + 1 + j = spot at *
          refine ⟨_, rfl, _, _, rfl, rfl, _, rfl, _, _, rfl, ⟨by omega, by omega, by omega, by omega⟩, for_range (lo := (spot : Int) + 1) (n := ((m : Int) - ((spot : Int) + 1)).toNat) (fun l σ H4 => Same H1 H4 ∧ (∀ late, late < spot + 1 + l → spot < late → hitB hs near spot late = false) ∧ ∃ v6, σ = [some v, some (.int (m : Nat)), some (.ref L), none, some (.int (near : Nat)), some (.int (spot : Nat)), v6])
            ⟨u3, fun _ c1 c2 => absurd c1 (by omega), v6, rfl⟩ ?_ ?_⟩
          · rintro l σ H4 hl2 ⟨u4, no3, v6, rfl⟩
            have es : (spot : Int) + 1 + (l : Nat) = ((spot + 1 + l : Nat) : Int) := by omega
            rw [es]
            have lm : spot + 1 + l < m := by omega
            have lsp : spot < spot + 1 + l := by omega
            have nxt : hitB hs near spot (spot + 1 + l) = false → ∀ late, late < spot + 1 + (l + 1) → spot < late → hitB hs near spot late = false := fun c1 late c2 c3 => by
              by_cases e : late = spot + 1 + l
              · rw [e]; exact c1
              · exact no3 late (by omega) c3
            have bad : hitB hs near spot (spot + 1 + l) = true → ∀ H5, Same H1 H5 → Q (.bl false) H5 := fun c H5 u5 => by
              have k1 := kk H5 (s1.trans u5)
              rw [freeB_false (by omega) (by omega) (by omega) sn lsp c] at k1
              exact k1
            generalize elt : spot + 1 + l = late at *
            have e1 := nat_get (hs := hs) (k := near) (by omega)
            have e2 := nat_get (hs := hs) (k := late) (by omega)
            have e3 := nat_get (hs := hs) (k := spot) (by omega)
            have g1 := SqL.of (K := K) (u4 _ _ gL)
            unfold hitB at nxt bad
            refine ⟨_, rfl, _, rfl, L, _, _, _, rfl, rfl, g1, atI_nat e1, _, rfl, _, rfl, L, _, _, _, rfl, rfl, g1, atI_nat e2, rfl, _, rfl, ?_⟩
            refine ite2 (fun c1 => ?_) (fun c1 => ?_)
            · have d1 : hs.getD near 0 = hs.getD late 0 := by
                have := V.int.inj (of_decide_eq_true c1)
                omega
              refine ⟨_, rfl, _, rfl, L, _, _, _, rfl, rfl, g1, atI_nat e3, rfl, _, rfl, ?_⟩
              refine ite2 (fun c2 => ?_) (fun c2 => ?_)
              · have d2 : hs.getD late 0 ≠ hs.getD spot 0 := fun z => by
                  rw [z] at c2
                  simp at c2
                refine ⟨_, rfl, _, rfl, L, _, _, _, rfl, rfl, g1, atI_nat e3, _, rfl, _, rfl, _, _, rfl, rfl, _, rfl, L, _, rfl, g1, fun q hq => ?_⟩
                have u5 := same_new (o := .lst (cutV (hs.map fun k : Nat => V.int (k : Nat)) (some ((late : Int) + 1)) none)) hq
                have ec : cutV (hs.map fun k : Nat => V.int (k : Nat)) (some ((late : Int) + 1)) none = (hs.drop (late + 1)).map fun k : Nat => V.int (k : Nat) := by
                  rw [show (late : Int) + 1 = ((late + 1 : Nat) : Int) by omega, cut_from (by rw [List.length_map]; omega), List.map_drop]
                rw [ec] at u5 ⊢
                refine ⟨q, _, rfl, .inl (SqL.of upd_same), rfl, flat_nats _, _, rfl, ?_⟩
                show (if inV _ _ = true then _ else _)
                rw [inV_nats]
                rw [decide_eq_true d1, decide_eq_true d2, Bool.true_and, Bool.true_and] at nxt bad
                refine ite2 (fun c3 => ?_) (fun c3 => ?_)
                · exact bad c3 _ (u4.trans u5)
                · exact ⟨u4.trans u5, nxt (Bool.eq_false_iff.mpr c3), _, rfl⟩
              · have d2 : hs.getD late 0 = hs.getD spot 0 := Decidable.byContradiction fun z => c2 (by
                  rw [Bool.not_eq_true', decide_eq_false_iff_not]
                  intro y
                  exact z (by have := V.int.inj y; omega))
                exact ⟨u4, nxt (by rw [decide_eq_false (p := hs.getD late 0 ≠ hs.getD spot 0) (fun z => z d2), Bool.false_and, Bool.and_false]), _, rfl⟩
            · have d1 : hs.getD near 0 ≠ hs.getD late 0 := fun z => c1 (by rw [z]; exact decide_eq_true rfl)
              exact ⟨_, rfl, u4, nxt (by rw [decide_eq_false d1, Bool.false_and]), _, rfl⟩
          · rintro σ H4 ⟨u4, no3, v6, rfl⟩
            refine ⟨u4, fun spot' c1 c2 late c3 c4 => ?_, _, _, rfl⟩
            by_cases e : spot' = spot
            · subst e
              exact no3 late (by omega) c4
            · exact no2 spot' (by omega) c2 late c3 c4
        · rintro σ H3 ⟨u3, no2, v5, v6, rfl⟩
          refine ⟨u3, fun near' c1 spot c2 c3 late c4 c5 => ?_, _, _, _, rfl⟩
          by_cases e : near' = near
          · subst e
            exact no2 spot (by omega) c3 late c4 c5
          · exact no near' (by omega) spot c2 c3 late c4 c5
      · rintro σ H2 ⟨u2, no, v4, v5, v6, rfl⟩
        exact ⟨u2, freeB_true fun near c1 spot c2 c3 late c4 c5 => no near (by omega) spot (by omega) c3 late (by omega) c5⟩
    rintro σ H2 ⟨u2, e⟩
    have k1 := kk H2 (s1.trans u2)
    rw [e] at k1
    exact k1
end
end Rs


set_option Elab.async false
set_option linter.all false
set_option maxRecDepth 100000
set_option maxHeartbeats 1000000
namespace Rs
open PySem L2 Bs LamX Pg RZ
abbrev sLKind : Stmt := top 75
abbrev NLk : List Str := ["kind", "parting", "many", "block"]
theorem sum_len (p : Prt) : (p.map fun b => (b.length : Int)).sum = (total p : Int) := by
  unfold total
  induction p with
  | nil => rfl
  | cons b p ih =>
    rw [List.map_cons, List.sum_cons, ih, List.map_cons, List.sum_cons]
    omega
theorem eqv_empty (ns : List Int) : PyData.eqv (.list (ns.map PyData.int)) (.list []) = ns.isEmpty := by
  cases ns <;> simp [PyData.eqv, PyData.eqvAll]
section
variable {P : Program} {w : World} {K : PySem.W.Frag} {mg : Str → Option Value} {base : Heap} {f : Addr} {fd : FuncData}
theorem scLKind : FnScope NLk ["kind", "parting"] (defScope sLKind) := ⟨rfl, rfl, rfl, by decide +kernel, rfl, by decide +kernel, by decide +kernel⟩
theorem ok_lkind (F : Fun K "_law_is_kind" "_law_is_kind" sLKind f fd) (T : Blt mg) (su : mg "sum" = none) (LF : Cal P w K mg base 2 "_law_is_free" (spLFree K)) : FnOk P w K mg base CX0 3 f fd ["kind", "parting"] (spLKind K) := by
  refine F.ok scLKind (fun vs H Q E h => ?_) (fun cdv A outer s H vs Q E hr h => ?_)
  · obtain ⟨k, v, p, rfl, _⟩ := h
    rfl
  · obtain ⟨k, v, p, rfl, pp, sz, ho, kk⟩ := h
    refine ⟨_, C8.pss_cut (ps_set (i := 2) scLKind.nd rfl (Or.inl rfl) (pe_callB (cr_sum rfl) (by rfl) su (by decide +kernel) (pa_cons (pe_lc (own := [("block", 3)]) (g := gName 3) (tt := tYes) rfl scLKind.nd (pi_tup (pv 1)) (blkOk_by (N := NLk) (sc := defScope sLKind) (by decide +kernel))
          (fun _ _ _ _ _ => pg_name (i := 3) scLKind.nd rfl (Or.inl rfl)) (fun _ _ _ _ _ => pts_nil)
          (fun _ _ _ _ _ => pe_callB (id := "len") (r := rLenK K) call_len_seq (by rfl) T.len (by decide +kernel) (pa_cons (pv 3) pa_nil))) pa_nil)))
      (pss_cons (ps_if (pt_cmpR op_eq (pv 0) pe_str (nomark _)) (pss_one (ps_ret (pe_n LF hr (by decide) (by rfl) (pa_cons (pv 1) (pa_cons (pv 2) pa_nil))))) pss_nil)
      (pss_one (ps_ret (pe_or (pe_cmpR op_eq (pv 0) pe_str (nomark _)) (pe_one (pe_cmpR (op_eqD hr.units) (pe_lc (own := [("block", 3)]) (g := gName 3) rfl scLKind.nd (pi_tup (pv 1)) (blkOk_by (N := NLk) (sc := defScope sLKind) (by decide +kernel))
          (fun _ _ _ _ _ => pg_name (i := 3) scLKind.nd rfl (Or.inl rfl))
          (fun _ _ _ _ _ => pts_one (pt_cmpR op_ge (pe_op (r := rSub) op_sub (pe_ix (r := rIxT K) ix_tup (pv 3) (pe_un (r := rU fun i => V.int (-i)) un_neg pe_int) (fun _ _ => rfl)) (pe_ix (r := rIxT K) ix_tup (pv 3) pe_int (fun _ _ => rfl))) (pe_callB (id := "len") (r := rLenK K) call_len_seq (by rfl) T.len (by decide +kernel) (pa_cons (pv 3) pa_nil)) (nomark _)))
          (fun _ _ _ _ _ => pe_int)) (pe_lst pa_nil) (nomark _))))))), ?_⟩
    obtain ⟨a, xs, rfl, sx, all⟩ := id pp
    obtain ⟨l8, bl⟩ := size_blk sz
    have lx := all.len
    refine ⟨fun σ H1 => Same H H1 ∧ σ = [some (.str (kdS k)), some (.ref a), some (.int (total p : Nat)), none], ?_, ?_⟩
    · refine ⟨_, rfl, a, rfl, ⟨_, sx⟩, fun D hD => lc_tup (K := K) (a := a) (xs := xs) (fun i H2 => Same H H2 ∧ H2 D = some (.lst (((p.take i).map fun b => (b.length : Int)).map V.int))) ⟨same_new hD, upd_same⟩ (fun i H2 _ z => Bs.Same.t z.1 sx) ?_ ?_⟩
      · rintro i x H2 hx ⟨s2, hD2⟩
        obtain ⟨b, hb, c, rfl, sc⟩ := all.get hx
        refine ⟨rfl, ?_⟩
        refine iteT (B := Same H H2 ∧ H2 D = some (.lst (((p.take (i + 1)).map fun b => (b.length : Int)).map V.int))) ?_
        refine ⟨_, rfl, c, _, rfl, .inr (Bs.Same.t s2 sc), _, hD2, small1000 (by rw [List.length_map, List.length_map, List.length_take]; omega), fun c o e => (upd_ne (ne_of_none e hD)).trans (s2 c o e), ?_⟩
        rw [upd_same, take_one hb, List.map_append, List.map_append, List.length_map]
        rfl
      · rintro H2 ⟨s2, hD2⟩
        rw [lx, List.take_length] at hD2
        refine ⟨D, _, rfl, SqL.of hD2, s2, ?_⟩
        rw [sum_len]
        rfl
    rintro σ H1 ⟨s1, rfl⟩
    have sx1 := Bs.Same.t s1 sx
    refine ⟨_, rfl, rfl, _, rfl, ?_⟩
    cases k with
    | free =>
      refine ite2 (fun _ => ?_) (fun c => absurd (decide_eq_true rfl) c)
      exact ⟨_, rfl, _, rfl, _, p, rfl, pp.mono s1, sz, ho, fun H2 s2 => kk H2 (s1.trans s2)⟩
    | all =>
      refine ite2 (fun c => absurd c (by decide +kernel)) (fun _ => ?_)
      refine ⟨_, rfl, rfl, _, rfl, ?_⟩
      refine ite2 (fun _ => ?_) (fun c => absurd (decide_eq_true rfl) c)
      exact kk H1 s1
    | str =>
      refine ite2 (fun c => absurd c (by decide +kernel)) (fun _ => ?_)
      refine ⟨_, rfl, rfl, _, rfl, ?_⟩
      refine ite2 (fun c => absurd c (by decide +kernel)) (fun _ => ?_)
      refine ⟨_, rfl, a, rfl, ⟨_, sx1⟩, fun D hD => lc_tup (K := K) (a := a) (xs := xs) (fun i H2 => Same H1 H2 ∧ H2 D = some (.lst ((((p.take i).filter fun b => decide ((b.length : Int) ≤ ltI b - hdI b)).map fun _ => (1 : Int)).map V.int))) ⟨same_new hD, upd_same⟩ (fun i H2 _ z => Bs.Same.t z.1 sx1) ?_ ?_⟩
      · rintro i x H2 hx ⟨s2, hD2⟩
        obtain ⟨b, hb, ib⟩ := all.get hx
        have bb := bl b (List.mem_of_getElem? hb)
        obtain ⟨c, rfl, sc⟩ := id ib
        have sc2 := Bs.Same.t (s1.trans s2) sc
        have ne : b.map V.int ≠ [] := fun z => by
          have := congrArg List.length z
          rw [List.length_map] at this
          have h0 : b.length = 0 := this
          omega
        have g0 : (b.map V.int)[0]? = some (V.int (hdI b)) := by rw [List.getElem?_map, hd_at bb.2]; rfl
        have g1 : (b.map V.int)[(b.map V.int).length - 1]? = some (V.int (ltI b)) := by rw [List.length_map, List.getElem?_map, lt_at bb.2]; rfl
        have lf := List.length_filter_le (fun b : Blk => decide ((b.length : Int) ≤ ltI b - hdI b)) (p.take i)
        rw [List.length_take] at lf
        refine ⟨rfl, ?_⟩
        refine ⟨_, rfl, _, rfl, c, _, _, _, rfl, rfl, sc2, atI_neg1 ne g1, _, rfl, c, _, _, _, rfl, rfl, sc2, atI_nat (j := 0) g0, _, _, rfl, rfl, _, rfl, c, _, rfl, .inr sc2, _, _, rfl, rfl, _, rfl, ?_⟩
        rw [take_one hb, List.filter_append, List.map_append, List.map_append, List.length_map]
        refine ite2 (fun c => ?_) (fun c => ?_)
        · refine ⟨_, hD2, small1000 (by rw [List.length_map, List.length_map]; omega), fun c o e => (upd_ne (ne_of_none e hD)).trans (s2 c o e), ?_⟩
          rw [upd_same, List.filter_cons_of_pos (p := fun b : Blk => decide ((b.length : Int) ≤ ltI b - hdI b)) c]
          rfl
        · rw [List.filter_cons_of_neg (p := fun b : Blk => decide ((b.length : Int) ≤ ltI b - hdI b)) c]
          show _ ∧ _ = some (HO.lst (_ ++ []))
          rw [List.append_nil]
          exact ⟨s2, hD2⟩
      · rintro H2 ⟨s2, hD2⟩
        rw [lx, List.take_length] at hD2
        refine ⟨(by show 0 ≤ sizeLine; decide), fun q hq => ?_⟩
        have s3 := same_new (o := .lst []) hq
        refine ⟨_, _, .lst (SqL.of (s3 _ _ hD2)) (dpInts _), .lst (SqL.of upd_same) .nil, shaped_ints _, rfl, ?_⟩
        rw [eqv_empty]
        have e : ((p.filter fun b => decide ((b.length : Int) ≤ ltI b - hdI b)).map fun _ => (1 : Int)).isEmpty = lawKind .str p := by
          rw [List.isEmpty_map]
          show _ = p.all fun b => !decide (ltI b - hdI b ≥ b.length)
          clear hD2 sx1 sx all lx kk pp sz ho l8 bl
          induction p with
          | nil => rfl
          | cons b p ih =>
            rw [List.filter_cons, List.all_cons, ← ih]
            by_cases c : (b.length : Int) ≤ ltI b - hdI b
            · rw [if_pos (decide_eq_true c), decide_eq_true (p := ltI b - hdI b ≥ b.length) c]
              rfl
            · rw [if_neg (by simpa using c), decide_eq_false (p := ltI b - hdI b ≥ b.length) c]
              rfl
        rw [e]
        exact kk _ ((s1.trans s2).trans s3)
end
end Rs


set_option Elab.async false
set_option linter.all false
set_option maxRecDepth 100000
set_option maxHeartbeats 1000000
/-! the end of a law with tables of lambdas, for a promise that wants no guards -/
namespace Rs
open PySem PySem.Spec PyProof.Rows L2 Bs LamX
/-- what is tracked at the law's call: the empty tables; the script, if t -/
def hof (ts : List Addr) (a : Addr) (t : Bool) (u : HO) : Hp := fun b => if b ∈ ts then some (.tbl #[]) else if b = a ∧ t = true then some u else none
section
variable {ts : List Addr} {a b : Addr} {t : Bool} {u x : HO}
theorem hof_some (h : hof ts a t u b = some x) : (b ∈ ts ∧ x = .tbl #[]) ∨ (b = a ∧ t = true ∧ x = u) := by
  unfold hof at h
  split at h
  · rename_i m
    cases h
    exact .inl ⟨m, rfl⟩
  · split at h
    · rename_i z
      cases h
      exact .inr ⟨z.1, z.2, rfl⟩
    · cases h
theorem hof_tab (m : b ∈ ts) : hof ts a t u b = some (.tbl #[]) := if_pos m
theorem hof_at (n : a ∉ ts) (e : t = true) : hof ts a t u a = some u := (if_neg n).trans (if_pos ⟨rfl, e⟩)
end
section
variable {P : Program} {w : World} {K : PySem.W.Frag} {mg mb : Str → Option Value} {k : Nat} {fa a : Addr} {cs : List (Addr × Addr)} {fd : FuncData} {x : Str} {sp : Sp} {s0 : Shared} {vs : List Value} {ns : List Int}
theorem callG (inK : K.In s0.heap) (gM : s0.heap.Ns mainGlobals mg) (gB : s0.heap.Ns builtinsNs mb) (gV : ∀ y : Str, y ≠ "__name__" → mb y = bootBuiltins y) (gL : s0.heap.NoLimit) (gG : s0.gens = #[])
    (tE : ∀ q ∈ cs, s0.heap.get? q.2 = some (PySem.W.tabObj #[])) (tK : ∀ q ∈ cs, K.lookup q.2 = none) (tH : ∀ q ∈ cs, PySem.W.codeHdIn K q.1 q.2 = true)
    (gb : ∃ (m : Addr) (o : Obj), mg "__builtins__" = some (.ref m) ∧ m ≠ builtinsNs ∧ s0.heap.get? m = some o ∧ o.cls = .type "module" ∧ o.dict = some builtinsNs ∧ o.data = .plain)
    (sc : s0.heap.get? a = some { cls := .type "list", data := .seq vs.toArray }) (si : IntsAre vs ns) (sl : ns.length ≤ sizeLine) (room : Room k callerA)
    (prom : ∀ base : Heap, K.In base → base.Ns mainGlobals mg → (∀ q ∈ cs, TabB base mg q.1 q.2) → FnG P w K mg base k fa fd [x] sp) (bnd : ∀ (s : Shared) (u : Value), BindsTo s fd ⟨[u], []⟩ [(x, u)])
    (wish : ∀ H : Hp, (∀ q ∈ cs, H q.2 = some (.tbl #[])) → SqL K H a (ns.map V.int) → sp [.ref a] H (fun v _ => v = .bl true) fun _ _ _ => False) :
    codeAny (model P w) callerA (.call (.ref fa) ⟨[.ref a], []⟩) (fun r s' => r = .ok (.ret (.bool true)) ∧ OldK s0.heap s'.heap ∧ s'.os = s0.os ∧ AllBare s'.gens) s0 := by
  have rv := vals_ints si
  have lv := si.length
  generalize hts : cs.map (·.2) = ts
  have inT : ∀ b ∈ ts, ∃ c, (c, b) ∈ cs := fun b hb => by
    rw [← hts] at hb
    obtain ⟨⟨c, b'⟩, h1, h2⟩ := List.mem_map.mp hb
    cases h2
    exact ⟨c, h1⟩
  have toT : ∀ q ∈ cs, q.2 ∈ ts := fun q hq => by
    rw [← hts]
    exact List.mem_map.mpr ⟨q, hq, rfl⟩
  have tab : ∀ b ∈ ts, s0.heap.get? b = some (PySem.W.tabObj #[]) := fun b hb => by
    obtain ⟨c, m⟩ := inT b hb
    exact tE _ m
  have aT : a ∉ ts := fun z => by
    have e := (tab a z).symm.trans sc
    cases e
  -- the script's own record
  generalize hso : ({ cls := .type "list", data := .seq vs.toArray } : Obj) = so at sc
  generalize hH : hof ts a (K.lookup a).isNone (.frz so (.lst (ns.map V.int))) = H
  have why : ∀ {b : Addr} {u : HO}, H b = some u → (b ∈ ts ∧ u = .tbl #[]) ∨ (b = a ∧ K.lookup a = none ∧ u = .frz so (.lst (ns.map V.int))) := fun {b u} e => by
    rw [← hH] at e
    rcases hof_some e with z | ⟨z1, z2, z3⟩
    · exact .inl z
    · exact .inr ⟨z1, Option.isNone_iff_eq_none.mp z2, z3⟩
  have hT : ∀ q ∈ cs, H q.2 = some (.tbl #[]) := fun q hq => by
    rw [← hH]
    exact hof_tab (toT q hq)
  have hS : SqL K H a (ns.map V.int) := by
    cases e : K.lookup a with
    | none =>
      refine .inl (.inr ⟨so, ?_⟩)
      rw [← hH]
      exact hof_at aT (by rw [e]; rfl)
    | some o =>
      have e2 := inK a o e
      rw [sc] at e2
      cases e2
      subst hso
      exact .inr ⟨_, vs.toArray, _, e, rfl, rfl, rfl, by rw [List.size_toArray, lv]; exact sl, by simpa using rv⟩
  have ok0 : HOk P w H s0.heap := fun b u e => by
    rcases why e with ⟨z, rfl⟩ | ⟨rfl, _, rfl⟩
    · exact tab b z
    · refine ⟨sc, ?_⟩
      subst hso
      exact ⟨by rw [List.length_map]; exact sl, vs, _, rv, sc⟩
  -- what is neither a list nor an empty table isn't tracked
  have off : ∀ {b : Addr} {o : Obj}, s0.heap.get? b = some o → (∀ (z : Array Value) (m : Nat), o.data ≠ .seq z m) → o.data ≠ .fields #[] → H b = none := fun {b o} e n1 n2 => by
    cases q : H b with
    | none => rfl
    | some u =>
      rcases why q with ⟨z, _⟩ | ⟨z, _, _⟩
      · rw [tab b z] at e
        cases e
        exact absurd rfl n2
      · rw [z, sc] at e
        cases e
        subst hso
        exact absurd rfl (n1 _ _)
  have low : ∀ {b : Addr} {o : Obj}, s0.heap.get? b = some o → H b = none → (hidT s0.heap H).get? b = some o := fun e n => hidT_get e n
  have offD : ∀ {b : Addr} {m : Str → Option Value}, s0.heap.Ns b m → (hidT s0.heap H).Ns b m := by
    rintro b m ⟨o, es, ep, e, d, r⟩
    exact ⟨o, es, ep, low e (off e (fun z m' q => by rw [d] at q; cases q) fun q => by rw [d] at q; cases q), d, r⟩
  have offK : K.In (hidT s0.heap H) := fun b o e => low (inK b o e) (by
    cases q : H b with
    | none => rfl
    | some u =>
      rcases why q with ⟨z, _⟩ | ⟨z, n, _⟩
      · obtain ⟨c, m⟩ := inT b z
        exact absurd (e.symm.trans (tK _ m)) (by simp)
      · rw [z, n] at e
        cases e)
  have M : L2.Mod K mg (hidT s0.heap H) := by
    obtain ⟨mc, c1, c2⟩ := gL
    exact ⟨offK, offD gM, ⟨mb, offD gB, gV⟩, mc, offD c1, c2⟩
  have TB : ∀ q ∈ cs, TabB (hidT s0.heap H) mg q.1 q.2 := fun q hq => by
    obtain ⟨m, o, m1, m2, m3, m4, m5, m6⟩ := gb
    have pl : ∀ {d : Data}, d = o.data → d = .plain := fun z => z.trans m6
    refine NdefX.tabB_of_K offK (tH q hq) ⟨m, o, m1, m2, fun z => ?_, fun z => ?_, low m3 (off m3 (fun z m' e => by rw [m6] at e; cases e) fun e => by rw [m6] at e; cases e), m4, m5, m6⟩ fun z => ?_
    · obtain ⟨o2, es, ep, e, d, _⟩ := gM
      rw [← z, m3] at e
      cases e
      rw [m6] at d
      cases d
    · have e := tE q hq
      rw [← z, m3] at e
      cases e
      cases m6
    · obtain ⟨o2, es, ep, e, d, _⟩ := gM
      rw [z, tE q hq] at e
      cases e
      cases d
  have E : Env0 P w K mg (hidT s0.heap H) callerA [] s0 H :=
    { frames := rfl, mod := M, bs := fun b o e => of_hidT e, bsz := Nat.le_of_eq (hidT_size _ _), funs := trivial, frf := (fun b hb => nomatch hb), hok := ok0, bare := .of_eq gG }
  refine codeAny_mono ((prom _ offK (offD gM) TB).run callerA [] s0 H ⟨[.ref a], []⟩ [.ref a] [.ref a] _ _ rfl room E (bnd s0 (.ref a)) (.cons rfl .nil) (wish H hT hS)) fun r s' h => ?_
  rcases r with e | fl
  · exact (show False from h).elim
  · cases fl with
    | next => exact (show False from h).elim
    | brk => exact (show False from h).elim
    | cont => exact (show False from h).elim
    | ret u =>
      obtain ⟨v, H2, os, bare, un, ok2, r2, rfl⟩ := h
      obtain rfl : u = Value.bool true := r2
      have more : ∀ b ∈ ts, ∃ m : Array Value, s'.heap.get? b = some (PySem.W.tabObj m) := fun b hb => by
        obtain ⟨c, hm⟩ := inT b hb
        obtain ⟨m, z⟩ := un.tbls b #[] (hT _ hm)
        exact ⟨_, ok2 b _ z⟩
      have same : ∀ b o, b ∉ ts → s0.heap.get? b = some o → s'.heap.get? b = some o := fun b o nb e => by
        cases q : H b with
        | none => exact un.keep b o e q (fun z => nomatch z) fun z => nomatch z
        | some u =>
          rcases why q with ⟨z, _⟩ | ⟨_, _, rfl⟩
          · exact absurd z nb
          · have g1 := (ok0 b _ q).1
            have g2 := (ok2 b _ (un.frzs b _ _ q)).1
            rw [e] at g1
            cases g1
            exact g2
      refine ⟨rfl, ⟨fun b o e => ?_, fun b o e => ?_⟩, os, bare⟩
      · by_cases hb : b ∈ ts
        · obtain ⟨c, hm⟩ := inT b hb
          obtain ⟨m, g⟩ := more b hb
          rw [tab b hb] at e
          cases e
          exact .inr (.inl ⟨((PySem.W.codeHd_of_K inK (tH _ hm)).tab (tab b hb)).isCodeTable, rfl, #[], m, rfl, by rw [Array.empty_append]; exact g⟩)
        · exact .inl (same b o hb e)
      · by_cases hb : b ∈ ts
        · obtain ⟨m, g⟩ := more b hb
          exact ⟨_, g⟩
        · exact ⟨o, same b o hb e⟩
end
end Rs


set_option Elab.async false
set_option linter.all false
set_option maxRecDepth 100000
set_option maxHeartbeats 1000000
namespace Rs
open PySem PySem.Spec PyProof.Rows L2 Bs LamX
section
variable {K : PySem.W.Frag} {h : Heap} {mg : Str → Option Value} {f C c P : Addr} {x q qual : Str} {st : Stmt} {ps : List Str} {oc kV doc pm cdv ct : Value} {od an : Option Addr} {sl : Array (Option Value)}
theorem defN_mk (X : K.In h) (G : h.Ns mainGlobals mg) (a : PySem.W.nsIn K mainGlobals x = some (some (.ref f)))
    (l : K.lookup f = some ⟨oc, od, .func (PySem.W.fnOf x x (defArgs st) (defBody st) (defScope st) .none kV doc pm an cdv ct), sl⟩) (c : PySem.W.codeIn K cdv x = true) (k : PySem.W.keepIn K (.ref f) = true)
    (b : ∀ (kV doc pm : Value) (an : Option Addr) (cdv ct : Value) (us : List Value), us.length = ps.length → bindArgs (PySem.W.fnOf x x (defArgs st) (defBody st) (defScope st) .none kV doc pm an cdv ct) ⟨us, []⟩ = pure (ps.zip us)) : DefN K mg x st ps :=
  ⟨f, _, fun_mk l c k, PySem.W.mg_of X G a, (fun_mk l c k).binds b⟩
end
section
variable {K : PySem.W.Frag} {mg : Str → Option Value}
structure Top0 (K : PySem.W.Frag) (mg : Str → Option Value)  : Prop where
  l_begin : DefN K mg "_law_begin" sBegin ["script"]
  l_mixed : DefN K mg "_law_mixed" sMixed ["cell", "k"]
  l_draw : DefN K mg "_law_draw" sDraw ["state", "many"]
  l_ratio : DefN K mg "_law_ratio" sLRatio ["top", "bottom"]
  l_under : DefN K mg "_law_under" sLUnder ["one", "other"]
  l_share : DefN K mg "_law_share" sLShare ["state", "few"]
  l_times : DefN K mg "_law_times" sLTimes ["one", "other"]
  l_power : DefN K mg "_law_power" sLPower ["one", "many"]
  l_plus : DefN K mg "_law_plus" sLPlus ["one", "other"]
  l_sum : DefN K mg "_law_sum" sLSum ["some"]
  l_moments : DefN K mg "_law_moments" sLMoms ["share_so", "top"]
  l_by_blocks : DefN K mg "_law_by_blocks" sLB ["some", "parting"]
  l_partings : DefN K mg "_law_partings" sLParts ["many"]
  l_home : DefN K mg "_law_home" sLHome ["parting", "number"]
  l_is_free : DefN K mg "_law_is_free" sLFree ["parting", "many"]
  l_is_kind : DefN K mg "_law_is_kind" sLKind ["kind", "parting"]
  l_of_kind : DefN K mg "_law_of_kind" sLOfKind ["kind", "many"]
  l_less : DefN K mg "_law_less" sLLess ["one", "other"]
  l_over : DefN K mg "_law_over" sLOver ["one", "other"]
  l_cumulants : DefN K mg "_law_cumulants" sLC ["kind", "row"]
  d_is_whole : DefN K mg "is_whole" sWhole ["thing"]
  d_is_fraction : DefN K mg "is_fraction" sFraction ["thing"]
  d_are_fractions : DefN K mg "are_fractions" sAreF ["thing", "most"]
  d_is_row : DefN K mg "is_row" sIsRow ["thing"]
  d_need_row : DefN K mg "need_row" sNeedRow ["thing"]
  d_reduced : DefN K mg "reduced" sReduced ["top", "bottom"]
  d_divided : DefN K mg "divided" sDivided ["one", "other"]
  d_unit_moments : DefN K mg "unit_moments" sUM ["row"]
  d_added : DefN K mg "added" sAdded ["one", "other"]
  d_timed : DefN K mg "timed" sTimed ["one", "other"]
  d_trimmed : DefN K mg "trimmed" sTrim ["some"]
  d_poly_timed : DefN K mg "poly_timed" sPTimed ["one", "other"]
  d_at_power : DefN K mg "at_power" sAt ["poly", "number"]
  d_power_part : DefN K mg "power_part" sPP ["moments", "number", "place"]
  d_beside : DefN K mg "beside" sBE ["kind", "moments", "number", "size"]
  d_moment_from : DefN K mg "moment_from" sMF ["kind", "moments", "cumulants", "number"]
  d_lessened : DefN K mg "lessened" sLessened ["one", "other"]
  d_cumulants_by : DefN K mg "cumulants_by" sCB ["row", "kind"]
  d_need_kind : DefN K mg "need_kind" sNeedKind ["kind"]
  d_cumulants_of : DefN K mg "cumulants_of" sCO ["row", "kind"]
  d_is_positive : DefN K mg "is_positive" sPosi ["thing"]
  d_need_positive : DefN K mg "need_positive" sNP ["thing"]
  d_need_cumulants : DefN K mg "need_cumulants" sNC ["thing"]
  d_moment_from2 : DefN K mg "moment_from" sMF ["kind", "moments", "cumulants", "number"]
  d_row_by_cumulants : DefN K mg "row_by_cumulants" sRB ["total", "cumulants", "kind"]
  d_row_of_cumulants : DefN K mg "row_of_cumulants" sRO ["total", "cumulants", "kind"]
  d_is_between : DefN K mg "is_between" sBetween ["thing", "low", "high"]
  d_need_between : DefN K mg "need_between" sNeedB ["thing", "low", "high"]
  d_with_next : DefN K mg "with_next" sWithN ["parting", "number"]
  d_is_parted : DefN K mg "is_parted" sParted ["parting", "low", "high"]
  d_does_cross : DefN K mg "does_cross" sCross ["parting"]
  d_is_stretched : DefN K mg "is_stretched" sStretch ["parting"]
  d_has_kind : DefN K mg "has_kind" sHasKind ["kind", "parting"]
  d_partings_of : DefN K mg "partings_of" sPartsOf ["kind", "many"]
  d_block_product : DefN K mg "block_product" sBP ["parting", "some"]
  d_turned : DefN K mg "turned" sTurned ["parting"]
  d_signed : DefN K mg "signed" sSigned ["whole", "many"]
  d_sign_by : DefN K mg "sign_by" sSignBy ["kind", "parting"]
  d_cumulant_by : DefN K mg "cumulant_by" sCY ["row", "kind", "many"]
  l_row_right : DefN K mg "_law_row_right" sRR ["row", "kind"]
  l_by_blocks2 : DefN K mg "_law_by_blocks" sLB ["some", "parting"]
  l_plain : DefN K mg "_law_plain" sLP ["kind", "cumulants_so"]
  d_block_product2 : DefN K mg "block_product" sBP ["parting", "some"]
  d_moment_by : DefN K mg "moment_by" sMB ["kind", "cumulants", "many"]
  l_back_right : DefN K mg "_law_back_right" sBR ["total", "cumulants_so", "kind"]
  law : DefN K mg "law" sLaw ["script"]
  z : Nou K mg
  t : Blt mg
  m9 : Most9 mg
  og : OneG K mg
  kg : KindsG K mg
  mc : MostC mg
  mn : MostN mg
  n_sorted : mg "sorted" = none
  n_sum : mg "sum" = none
  n_enumerate : mg "enumerate" = none
  n_all : mg "all" = none
  n_str : mg "str" = none
  n_zip : mg "zip" = none
  n_any : mg "any" = none
theorem law_prom {P : Program} {w : World} (D : Top0 K mg ) {fa : Addr} (hfa : mg "law" = some (.ref fa)) :
    ∃ fd : FuncData, (∀ (s : Shared) (u : Value), BindsTo s fd ⟨[u], []⟩ [("script", u)]) ∧
      ∀ base : Heap, FnG P w K mg base 10 fa fd ["script"] (spLaw K) := by
  obtain ⟨f, fd, F, m, bi⟩ := D.law.ex
  rw [hfa] at m
  cases m
  refine ⟨fd, ?_, fun base => ?_⟩
  · obtain ⟨oc, od, kV, doc, pm, an, cdv, ct, osl, rfl, _, _⟩ := F.ex
    exact fun s u => .of_eq rfl
  have T := D.t
  have l_begin := D.l_begin.cal (P := P) (w := w) (base := base) fun f fd F => ok_begin F T
  have l_mixed := D.l_mixed.cal (P := P) (w := w) (base := base) fun f fd F => ok_mixed F T
  have l_draw := D.l_draw.cal (P := P) (w := w) (base := base) fun f fd F => ok_draw F T l_mixed
  have l_ratio := D.l_ratio.cal (P := P) (w := w) (base := base) fun f fd F => ok_lratio F T
  have l_under := D.l_under.cal (P := P) (w := w) (base := base) fun f fd F => ok_lunder F
  have l_share := D.l_share.cal (P := P) (w := w) (base := base) fun f fd F => ok_lshare F T l_draw l_ratio l_under
  have l_times := D.l_times.cal (P := P) (w := w) (base := base) fun f fd F => ok_ltimes F l_ratio
  have l_power := D.l_power.cal (P := P) (w := w) (base := base) fun f fd F => ok_lpower F T l_times
  have l_plus := D.l_plus.cal (P := P) (w := w) (base := base) fun f fd F => ok_lplus F l_ratio
  have l_sum := D.l_sum.cal (P := P) (w := w) (base := base) fun f fd F => ok_lsum F l_plus
  have l_moments := D.l_moments.cal (P := P) (w := w) (base := base) fun f fd F => ok_lmoms F T l_times l_power l_sum
  have l_by_blocks := D.l_by_blocks.cal (P := P) (w := w) (base := base) fun f fd F => ok_lbL F T l_times
  have l_partings := D.l_partings.cal (P := P) (w := w) (base := base) fun f fd F => ok_lparts F T D.n_sorted
  have l_home := D.l_home.cal (P := P) (w := w) (base := base) fun f fd F => ok_lhome F D.n_enumerate
  have l_is_free := D.l_is_free.cal (P := P) (w := w) (base := base) fun f fd F => ok_lfree F T l_home
  have l_is_kind := D.l_is_kind.cal (P := P) (w := w) (base := base) fun f fd F => ok_lkind F T D.n_sum l_is_free
  have l_of_kind := D.l_of_kind.cal (P := P) (w := w) (base := base) fun f fd F => ok_lofKind F l_partings l_is_kind
  have l_less := D.l_less.cal (P := P) (w := w) (base := base) fun f fd F => ok_lless F l_ratio
  have l_over := D.l_over.cal (P := P) (w := w) (base := base) fun f fd F => ok_lover F l_ratio
  have l_cumulants := D.l_cumulants.cal (P := P) (w := w) (base := base) fun f fd F => ok_lc F T l_by_blocks l_sum l_of_kind l_less l_over
  have d_is_whole := D.d_is_whole.cal (P := P) (w := w) (base := base) fun f fd F => ok_whole F T
  have d_is_fraction := D.d_is_fraction.cal (P := P) (w := w) (base := base) fun f fd F => ok_fraction F T d_is_whole
  have d_are_fractions := D.d_are_fractions.cal (P := P) (w := w) (base := base) fun f fd F => ok_areF F T D.n_all d_is_fraction
  have d_is_row := D.d_is_row.cal (P := P) (w := w) (base := base) fun f fd F => ok_isRow F T D.m9 d_are_fractions
  have d_need_row := D.d_need_row.cal (P := P) (w := w) (base := base) fun f fd F => ok_needRow0 F d_is_row
  have d_reduced := D.d_reduced.cal (P := P) (w := w) (base := base) fun f fd F => ok_reduced F T
  have d_divided := D.d_divided.cal (P := P) (w := w) (base := base) fun f fd F => ok_divided F d_reduced
  have d_unit_moments := D.d_unit_moments.cal (P := P) (w := w) (base := base) fun f fd F => ok_um F d_divided
  have d_added := D.d_added.cal (P := P) (w := w) (base := base) fun f fd F => ok_added F d_reduced
  have d_timed := D.d_timed.cal (P := P) (w := w) (base := base) fun f fd F => ok_timed F d_reduced
  have d_trimmed := D.d_trimmed.cal (P := P) (w := w) (base := base) fun f fd F => ok_trim F T D.z
  have d_poly_timed := D.d_poly_timed.cal (P := P) (w := w) (base := base) fun f fd F => ok_ptimedL F T D.n_enumerate D.z d_added d_timed d_trimmed
  have d_at_power := D.d_at_power.cal (P := P) (w := w) (base := base) fun f fd F => ok_at F T D.z
  have d_power_part := D.d_power_part.cal (P := P) (w := w) (base := base) fun f fd F => ok_pp F T D.og d_poly_timed d_at_power
  have d_beside := D.d_beside.cal (P := P) (w := w) (base := base) fun f fd F => ok_be F T d_power_part d_timed
  have d_moment_from := D.d_moment_from.cal (P := P) (w := w) (base := base) fun f fd F => ok_mfL F T D.z D.n_enumerate d_added d_timed d_beside
  have d_lessened := D.d_lessened.cal (P := P) (w := w) (base := base) fun f fd F => ok_lessened F d_reduced
  have d_cumulants_by := D.d_cumulants_by.cal (P := P) (w := w) (base := base) fun f fd F => ok_cb F T d_unit_moments d_moment_from d_lessened
  have d_need_kind := D.d_need_kind.cal (P := P) (w := w) (base := base) fun f fd F => ok_needKind F T D.n_str D.kg
  have d_cumulants_of := D.d_cumulants_of.cal (P := P) (w := w) (base := base) fun f fd F => ok_co F d_need_row d_cumulants_by d_need_kind
  have d_is_positive := D.d_is_positive.cal (P := P) (w := w) (base := base) fun f fd F => ok_posi F d_is_fraction
  have d_need_positive := D.d_need_positive.cal (P := P) (w := w) (base := base) fun f fd F => ok_needPos0 F d_is_positive
  have d_need_cumulants := D.d_need_cumulants.cal (P := P) (w := w) (base := base) fun f fd F => ok_needCum0 F D.mc d_are_fractions
  have d_moment_from2 := D.d_moment_from2.cal (P := P) (w := w) (base := base) fun f fd F => ok_mfT F T D.z D.n_enumerate d_added d_timed d_beside
  have d_row_by_cumulants := D.d_row_by_cumulants.cal (P := P) (w := w) (base := base) fun f fd F => ok_rb F T D.og d_moment_from2 d_timed
  have d_row_of_cumulants := D.d_row_of_cumulants.cal (P := P) (w := w) (base := base) fun f fd F => ok_ro F d_need_positive d_need_cumulants d_row_by_cumulants d_need_kind
  have d_is_between := D.d_is_between.cal (P := P) (w := w) (base := base) fun f fd F => ok_between F d_is_whole
  have d_need_between := D.d_need_between.cal (P := P) (w := w) (base := base) fun f fd F => ok_needB0 F d_is_between
  have d_with_next := D.d_with_next.cal (P := P) (w := w) (base := base) fun f fd F => ok_withN F D.n_enumerate
  have d_is_parted := D.d_is_parted.cal (P := P) (w := w) (base := base) fun f fd F => ok_parted F T
  have d_does_cross := D.d_does_cross.cal (P := P) (w := w) (base := base) fun f fd F => ok_cross F D.n_zip D.n_any d_is_parted
  have d_is_stretched := D.d_is_stretched.cal (P := P) (w := w) (base := base) fun f fd F => ok_stretch F T D.n_all
  have d_has_kind := D.d_has_kind.cal (P := P) (w := w) (base := base) fun f fd F => ok_hasKind F d_does_cross d_is_stretched
  have d_partings_of := D.d_partings_of.cal (P := P) (w := w) (base := base) fun f fd F => ok_partsOf F T D.n_sorted d_with_next d_has_kind
  have d_block_product := D.d_block_product.cal (P := P) (w := w) (base := base) fun f fd F => ok_bpL F T D.og d_timed
  have d_turned := D.d_turned.cal (P := P) (w := w) (base := base) fun f fd F => ok_turned F T D.n_enumerate D.n_sum d_is_parted
  have d_signed := D.d_signed.cal (P := P) (w := w) (base := base) fun f fd F => ok_signed F
  have d_sign_by := D.d_sign_by.cal (P := P) (w := w) (base := base) fun f fd F => ok_signBy F T d_turned d_signed
  have d_cumulant_by := D.d_cumulant_by.cal (P := P) (w := w) (base := base) fun f fd F => ok_cy F T D.z D.mn d_need_row d_need_kind d_need_between d_unit_moments d_partings_of d_block_product d_sign_by d_added d_timed
  have l_row_right := D.l_row_right.calG (P := P) (w := w) (base := base) fun f fd F => ok_rr F T l_cumulants d_cumulants_of d_row_of_cumulants d_cumulant_by
  have l_by_blocks2 := D.l_by_blocks2.cal (P := P) (w := w) (base := base) fun f fd F => ok_lbT F T l_times
  have l_plain := D.l_plain.cal (P := P) (w := w) (base := base) fun f fd F => ok_lp F T l_by_blocks2 l_sum l_of_kind
  have d_block_product2 := D.d_block_product2.cal (P := P) (w := w) (base := base) fun f fd F => ok_bpT F T D.og d_timed
  have d_moment_by := D.d_moment_by.cal (P := P) (w := w) (base := base) fun f fd F => ok_mb F T D.og D.z D.mn d_need_kind d_need_cumulants d_need_between d_partings_of d_block_product2 d_added
  have l_back_right := D.l_back_right.cal (P := P) (w := w) (base := base) fun f fd F => ok_br F T D.n_enumerate l_plain d_cumulants_of d_row_of_cumulants d_moment_by l_times
  exact ok_law F T l_begin l_draw l_share l_moments l_ratio l_row_right l_back_right d_cumulants_of d_row_of_cumulants d_moment_by d_cumulant_by
theorem walkG {l : PySem.W.OpenLaw} {q : Program} {loose : List Str} {XP : (Str → Option Value) → Heap → Prop} {YP : World → Heap → Prop} {d : DefRec} {KK : Params → PySem.W.Frag} (hn : l.most = some 63) (hd : d.params.defaults = [])
    (hY : ∀ (w : World) (h : Heap), YP w h → (KK w.params).In h)
    (F : ∀ (w : World) (mg : Str → Option Value) (fa : Addr) (h : Heap), (KK w.params).In h → h.Ns mainGlobals mg → mg d.name = some (.ref fa) → Top0 (KK w.params) mg  ∧ mg "law" = some (.ref fa)) :
    PySem.W.WalkO q loose XP YP l.row.toRowW d [] (fun f vs => PySem.call f vs) := by
  refine Att.attach_callB hn hd fun w s9 s0 mg mb fa o pm cd doc a vs ns GG Y h1 h2 h3 hm hs hi hl hb hg => ?_
  have inK := hY w _ Y
  obtain ⟨D, m⟩ := F w mg fa _ inK GG.T.g hm
  obtain ⟨fd, bnd, pr⟩ := law_prom (P := l.prog) (w := w) D m
  refine callG (cs := []) inK GG.T.g GG.T.b GG.T.builtins GG.T.nolimit hg (fun r hr => by cases hr) (fun r hr => by cases hr) (fun r hr => by cases hr) GG.T.bmain hs hi (Nat.le_trans hl (by decide)) ⟨rfl, by decide, by decide⟩ (fun base _ _ _ => pr base) bnd fun H ht hq => ?_
  exact ⟨a, ns, rfl, hq, hl, fun _ => rfl⟩
end
end Rs


set_option Elab.async false
set_option linter.all false
set_option maxRecDepth 100000
set_option maxHeartbeats 1000000
namespace Rs
open PySem PySem.Spec PyProof.Rows L2 Bs LamX
section
variable {K : PySem.W.Frag} {h : Heap} {mg : Str → Option Value}
theorem nou_mk {a : Addr} {t1 t2 : Tok} {n : Nat} {sl : Array (Option Value)} (X : K.In h) (G : h.Ns mainGlobals mg) (e : PySem.W.nsIn K mainGlobals "NOUGHT" = some (some (.ref a)))
    (l : K.lookup a = some ⟨.type "tuple", none, .seq #[.int 0 t1, .int 1 t2] n, sl⟩) : Nou K mg :=
  ⟨a, PySem.W.mg_of X G e, fun H => .inr ⟨_, _, _, l, rfl, rfl, (by show 2 ≤ sizeLine; decide), .cons ⟨_, rfl⟩ (.cons ⟨_, rfl⟩ .nil)⟩⟩
theorem blt_mk (X : K.In h) (G : h.Ns mainGlobals mg) (h1 : PySem.W.nsIn K mainGlobals "isinstance" = some none) (h2 : PySem.W.nsIn K mainGlobals "len" = some none) (h3 : PySem.W.nsIn K mainGlobals "int" = some none) (h4 : PySem.W.nsIn K mainGlobals "bool" = some none) (h5 : PySem.W.nsIn K mainGlobals "tuple" = some none) (h6 : PySem.W.nsIn K mainGlobals "range" = some none) (h7 : PySem.W.nsIn K mainGlobals "list" = some none) (h8 : PySem.W.nsIn K mainGlobals "abs" = some none) (h9 : PySem.W.nsIn K mainGlobals "min" = some none) (h10 : PySem.W.nsIn K mainGlobals "repr" = some none) (h11 : PySem.W.nsIn K mainGlobals "gcd" = some (some (.builtin "math.gcd"))) (h12 : PySem.W.nsIn K mainGlobals "comb" = some (some (.builtin "math.comb"))) (h13 : PySem.W.nsIn K mainGlobals "factorial" = some (some (.builtin "math.factorial"))) : Blt mg :=
  ⟨PySem.W.mg_none_of X G h1, PySem.W.mg_none_of X G h2, PySem.W.mg_none_of X G h3, PySem.W.mg_none_of X G h4, PySem.W.mg_none_of X G h5, PySem.W.mg_none_of X G h6, PySem.W.mg_none_of X G h7, PySem.W.mg_none_of X G h8, PySem.W.mg_none_of X G h9, PySem.W.mg_none_of X G h10, PySem.W.mg_of X G h11, PySem.W.mg_of X G h12, PySem.W.mg_of X G h13⟩
theorem most9_mk {t1 : Tok} (X : K.In h) (G : h.Ns mainGlobals mg) (e1 : PySem.W.nsIn K mainGlobals "MOST_MOMENTS" = some (some (.int 9 t1))) : Most9 mg := ⟨⟨t1, PySem.W.mg_of X G e1⟩⟩
theorem one_mk {a : Addr} {t1 t2 : Tok} {n : Nat} {sl : Array (Option Value)} (X : K.In h) (G : h.Ns mainGlobals mg) (e : PySem.W.nsIn K mainGlobals "ONE" = some (some (.ref a)))
    (l : K.lookup a = some ⟨.type "tuple", none, .seq #[.int 1 t1, .int 1 t2] n, sl⟩) : OneG K mg :=
  ⟨a, PySem.W.mg_of X G e, fun H => .inr ⟨_, _, _, l, rfl, rfl, (by show 2 ≤ sizeLine; decide), .cons ⟨_, rfl⟩ (.cons ⟨_, rfl⟩ .nil)⟩⟩
theorem kinds_mk {a : Addr} {t1 t2 t3 : Tok} {n : Nat} {sl : Array (Option Value)} (X : K.In h) (G : h.Ns mainGlobals mg) (e : PySem.W.nsIn K mainGlobals "KINDS" = some (some (.ref a)))
    (l : K.lookup a = some ⟨.type "tuple", none, .seq #[.str "all" t1, .str "free" t2, .str "stretch" t3] n, sl⟩) : KindsG K mg :=
  ⟨a, PySem.W.mg_of X G e, fun H => .inr ⟨_, _, _, l, rfl, rfl, (by show 3 ≤ sizeLine; decide), .cons ⟨_, rfl⟩ (.cons ⟨_, rfl⟩ (.cons ⟨_, rfl⟩ .nil))⟩⟩
theorem mostc_mk {t1 : Tok} (X : K.In h) (G : h.Ns mainGlobals mg) (e1 : PySem.W.nsIn K mainGlobals "MOST" = some (some (.int 8 t1))) : MostC mg := ⟨⟨t1, PySem.W.mg_of X G e1⟩⟩
theorem mostn_mk {t1 : Tok} (X : K.In h) (G : h.Ns mainGlobals mg) (e1 : PySem.W.nsIn K mainGlobals "MOST_NUMBERS" = some (some (.int 7 t1))) : MostN mg := ⟨⟨t1, PySem.W.mg_of X G e1⟩⟩
end
/-- all of it -/
theorem all_mk {K : PySem.W.Frag} {h : Heap} {mg : Str → Option Value} {fa : Addr}
    (X : K.In h) (G : h.Ns mainGlobals mg) (hfa : mg "law" = some (.ref fa))
    (l_begin : DefN K mg "_law_begin" sBegin ["script"])
    (l_mixed : DefN K mg "_law_mixed" sMixed ["cell", "k"])
    (l_draw : DefN K mg "_law_draw" sDraw ["state", "many"])
    (l_ratio : DefN K mg "_law_ratio" sLRatio ["top", "bottom"])
    (l_under : DefN K mg "_law_under" sLUnder ["one", "other"])
    (l_share : DefN K mg "_law_share" sLShare ["state", "few"])
    (l_times : DefN K mg "_law_times" sLTimes ["one", "other"])
    (l_power : DefN K mg "_law_power" sLPower ["one", "many"])
    (l_plus : DefN K mg "_law_plus" sLPlus ["one", "other"])
    (l_sum : DefN K mg "_law_sum" sLSum ["some"])
    (l_moments : DefN K mg "_law_moments" sLMoms ["share_so", "top"])
    (l_by_blocks : DefN K mg "_law_by_blocks" sLB ["some", "parting"])
    (l_partings : DefN K mg "_law_partings" sLParts ["many"])
    (l_home : DefN K mg "_law_home" sLHome ["parting", "number"])
    (l_is_free : DefN K mg "_law_is_free" sLFree ["parting", "many"])
    (l_is_kind : DefN K mg "_law_is_kind" sLKind ["kind", "parting"])
    (l_of_kind : DefN K mg "_law_of_kind" sLOfKind ["kind", "many"])
    (l_less : DefN K mg "_law_less" sLLess ["one", "other"])
    (l_over : DefN K mg "_law_over" sLOver ["one", "other"])
    (l_cumulants : DefN K mg "_law_cumulants" sLC ["kind", "row"])
    (d_is_whole : DefN K mg "is_whole" sWhole ["thing"])
    (d_is_fraction : DefN K mg "is_fraction" sFraction ["thing"])
    (d_are_fractions : DefN K mg "are_fractions" sAreF ["thing", "most"])
    (d_is_row : DefN K mg "is_row" sIsRow ["thing"])
    (d_need_row : DefN K mg "need_row" sNeedRow ["thing"])
    (d_reduced : DefN K mg "reduced" sReduced ["top", "bottom"])
    (d_divided : DefN K mg "divided" sDivided ["one", "other"])
    (d_unit_moments : DefN K mg "unit_moments" sUM ["row"])
    (d_added : DefN K mg "added" sAdded ["one", "other"])
    (d_timed : DefN K mg "timed" sTimed ["one", "other"])
    (d_trimmed : DefN K mg "trimmed" sTrim ["some"])
    (d_poly_timed : DefN K mg "poly_timed" sPTimed ["one", "other"])
    (d_at_power : DefN K mg "at_power" sAt ["poly", "number"])
    (d_power_part : DefN K mg "power_part" sPP ["moments", "number", "place"])
    (d_beside : DefN K mg "beside" sBE ["kind", "moments", "number", "size"])
    (d_moment_from : DefN K mg "moment_from" sMF ["kind", "moments", "cumulants", "number"])
    (d_lessened : DefN K mg "lessened" sLessened ["one", "other"])
    (d_cumulants_by : DefN K mg "cumulants_by" sCB ["row", "kind"])
    (d_need_kind : DefN K mg "need_kind" sNeedKind ["kind"])
    (d_cumulants_of : DefN K mg "cumulants_of" sCO ["row", "kind"])
    (d_is_positive : DefN K mg "is_positive" sPosi ["thing"])
    (d_need_positive : DefN K mg "need_positive" sNP ["thing"])
    (d_need_cumulants : DefN K mg "need_cumulants" sNC ["thing"])
    (d_moment_from2 : DefN K mg "moment_from" sMF ["kind", "moments", "cumulants", "number"])
    (d_row_by_cumulants : DefN K mg "row_by_cumulants" sRB ["total", "cumulants", "kind"])
    (d_row_of_cumulants : DefN K mg "row_of_cumulants" sRO ["total", "cumulants", "kind"])
    (d_is_between : DefN K mg "is_between" sBetween ["thing", "low", "high"])
    (d_need_between : DefN K mg "need_between" sNeedB ["thing", "low", "high"])
    (d_with_next : DefN K mg "with_next" sWithN ["parting", "number"])
    (d_is_parted : DefN K mg "is_parted" sParted ["parting", "low", "high"])
    (d_does_cross : DefN K mg "does_cross" sCross ["parting"])
    (d_is_stretched : DefN K mg "is_stretched" sStretch ["parting"])
    (d_has_kind : DefN K mg "has_kind" sHasKind ["kind", "parting"])
    (d_partings_of : DefN K mg "partings_of" sPartsOf ["kind", "many"])
    (d_block_product : DefN K mg "block_product" sBP ["parting", "some"])
    (d_turned : DefN K mg "turned" sTurned ["parting"])
    (d_signed : DefN K mg "signed" sSigned ["whole", "many"])
    (d_sign_by : DefN K mg "sign_by" sSignBy ["kind", "parting"])
    (d_cumulant_by : DefN K mg "cumulant_by" sCY ["row", "kind", "many"])
    (l_row_right : DefN K mg "_law_row_right" sRR ["row", "kind"])
    (l_by_blocks2 : DefN K mg "_law_by_blocks" sLB ["some", "parting"])
    (l_plain : DefN K mg "_law_plain" sLP ["kind", "cumulants_so"])
    (d_block_product2 : DefN K mg "block_product" sBP ["parting", "some"])
    (d_moment_by : DefN K mg "moment_by" sMB ["kind", "cumulants", "many"])
    (l_back_right : DefN K mg "_law_back_right" sBR ["total", "cumulants_so", "kind"])
    (law : DefN K mg "law" sLaw ["script"])
    (z : Nou K mg) (t : Blt mg) (m9 : Most9 mg) (og : OneG K mg) (kg : KindsG K mg) (mc : MostC mg) (mn : MostN mg) (n_sorted : mg "sorted" = none) (n_sum : mg "sum" = none) (n_enumerate : mg "enumerate" = none) (n_all : mg "all" = none) (n_str : mg "str" = none) (n_zip : mg "zip" = none) (n_any : mg "any" = none) :
    Top0 K mg  ∧ mg "law" = some (.ref fa) :=
  ⟨⟨l_begin, l_mixed, l_draw, l_ratio, l_under, l_share, l_times, l_power, l_plus, l_sum, l_moments, l_by_blocks, l_partings, l_home, l_is_free, l_is_kind, l_of_kind, l_less, l_over, l_cumulants, d_is_whole, d_is_fraction, d_are_fractions, d_is_row, d_need_row, d_reduced, d_divided, d_unit_moments, d_added, d_timed, d_trimmed, d_poly_timed, d_at_power, d_power_part, d_beside, d_moment_from, d_lessened, d_cumulants_by, d_need_kind, d_cumulants_of, d_is_positive, d_need_positive, d_need_cumulants, d_moment_from2, d_row_by_cumulants, d_row_of_cumulants, d_is_between, d_need_between, d_with_next, d_is_parted, d_does_cross, d_is_stretched, d_has_kind, d_partings_of, d_block_product, d_turned, d_signed, d_sign_by, d_cumulant_by, l_row_right, l_by_blocks2, l_plain, d_block_product2, d_moment_by, l_back_right, law, z, t, m9, og, kg, mc, mn, n_sorted, n_sum, n_enumerate, n_all, n_str, n_zip, n_any⟩, hfa⟩
end Rs


set_option Elab.async false
set_option linter.all false
open PySem PySem.W PyProof.Rows
set_option maxRecDepth 100000 in
set_option maxHeartbeats 0 in
theorem PySem.Challenge.cw_rungshare_k37_whole_cumulants_holds : PySem.Challenge.rw_rungshare_k37_whole_cumulants.Holds := by
  w_on; o_law; k_head; (case hw => w_witness2)
  k_fill
  refine Rs.walkG (l := PySem.Challenge.rw_rungshare_k37_whole_cumulants) rfl rfl (fun w h Y => PySem.W.kIn_of Y) ?F
  case F =>
    intro w mg fa h KX G hmg'
    refine' Rs.all_mk KX G hmg' ?l_begin ?l_mixed ?l_draw ?l_ratio ?l_under ?l_share ?l_times ?l_power ?l_plus ?l_sum ?l_moments ?l_by_blocks ?l_partings ?l_home ?l_is_free ?l_is_kind ?l_of_kind ?l_less ?l_over ?l_cumulants ?d_is_whole ?d_is_fraction ?d_are_fractions ?d_is_row ?d_need_row ?d_reduced ?d_divided ?d_unit_moments ?d_added ?d_timed ?d_trimmed ?d_poly_timed ?d_at_power ?d_power_part ?d_beside ?d_moment_from ?d_lessened ?d_cumulants_by ?d_need_kind ?d_cumulants_of ?d_is_positive ?d_need_positive ?d_need_cumulants ?d_moment_from2 ?d_row_by_cumulants ?d_row_of_cumulants ?d_is_between ?d_need_between ?d_with_next ?d_is_parted ?d_does_cross ?d_is_stretched ?d_has_kind ?d_partings_of ?d_block_product ?d_turned ?d_signed ?d_sign_by ?d_cumulant_by ?l_row_right ?l_by_blocks2 ?l_plain ?d_block_product2 ?d_moment_by ?l_back_right ?law ?gz ?gt ?gm9 ?gog ?gkg ?gmc ?gmn ?gn_sorted ?gn_sum ?gn_enumerate ?gn_all ?gn_str ?gn_zip ?gn_any
    (case l_begin => refine' Rs.defN_mk KX G ?a ?l ?c ?k (fun _ _ _ _ _ _ us hl => match us, hl with | [_], _ => rfl); (case a => k_is); (case l => k_is); (case c => k_is); (case k => k_is))
    (case l_mixed => refine' Rs.defN_mk KX G ?a ?l ?c ?k (fun _ _ _ _ _ _ us hl => match us, hl with | [_, _], _ => rfl); (case a => k_is); (case l => k_is); (case c => k_is); (case k => k_is))
    (case l_draw => refine' Rs.defN_mk KX G ?a ?l ?c ?k (fun _ _ _ _ _ _ us hl => match us, hl with | [_, _], _ => rfl); (case a => k_is); (case l => k_is); (case c => k_is); (case k => k_is))
    (case l_ratio => refine' Rs.defN_mk KX G ?a ?l ?c ?k (fun _ _ _ _ _ _ us hl => match us, hl with | [_, _], _ => rfl); (case a => k_is); (case l => k_is); (case c => k_is); (case k => k_is))
    (case l_under => refine' Rs.defN_mk KX G ?a ?l ?c ?k (fun _ _ _ _ _ _ us hl => match us, hl with | [_, _], _ => rfl); (case a => k_is); (case l => k_is); (case c => k_is); (case k => k_is))
    (case l_share => refine' Rs.defN_mk KX G ?a ?l ?c ?k (fun _ _ _ _ _ _ us hl => match us, hl with | [_, _], _ => rfl); (case a => k_is); (case l => k_is); (case c => k_is); (case k => k_is))
    (case l_times => refine' Rs.defN_mk KX G ?a ?l ?c ?k (fun _ _ _ _ _ _ us hl => match us, hl with | [_, _], _ => rfl); (case a => k_is); (case l => k_is); (case c => k_is); (case k => k_is))
    (case l_power => refine' Rs.defN_mk KX G ?a ?l ?c ?k (fun _ _ _ _ _ _ us hl => match us, hl with | [_, _], _ => rfl); (case a => k_is); (case l => k_is); (case c => k_is); (case k => k_is))
    (case l_plus => refine' Rs.defN_mk KX G ?a ?l ?c ?k (fun _ _ _ _ _ _ us hl => match us, hl with | [_, _], _ => rfl); (case a => k_is); (case l => k_is); (case c => k_is); (case k => k_is))
    (case l_sum => refine' Rs.defN_mk KX G ?a ?l ?c ?k (fun _ _ _ _ _ _ us hl => match us, hl with | [_], _ => rfl); (case a => k_is); (case l => k_is); (case c => k_is); (case k => k_is))
    (case l_moments => refine' Rs.defN_mk KX G ?a ?l ?c ?k (fun _ _ _ _ _ _ us hl => match us, hl with | [_, _], _ => rfl); (case a => k_is); (case l => k_is); (case c => k_is); (case k => k_is))
    (case l_by_blocks => refine' Rs.defN_mk KX G ?a ?l ?c ?k (fun _ _ _ _ _ _ us hl => match us, hl with | [_, _], _ => rfl); (case a => k_is); (case l => k_is); (case c => k_is); (case k => k_is))
    (case l_partings => refine' Rs.defN_mk KX G ?a ?l ?c ?k (fun _ _ _ _ _ _ us hl => match us, hl with | [_], _ => rfl); (case a => k_is); (case l => k_is); (case c => k_is); (case k => k_is))
    (case l_home => refine' Rs.defN_mk KX G ?a ?l ?c ?k (fun _ _ _ _ _ _ us hl => match us, hl with | [_, _], _ => rfl); (case a => k_is); (case l => k_is); (case c => k_is); (case k => k_is))
    (case l_is_free => refine' Rs.defN_mk KX G ?a ?l ?c ?k (fun _ _ _ _ _ _ us hl => match us, hl with | [_, _], _ => rfl); (case a => k_is); (case l => k_is); (case c => k_is); (case k => k_is))
    (case l_is_kind => refine' Rs.defN_mk KX G ?a ?l ?c ?k (fun _ _ _ _ _ _ us hl => match us, hl with | [_, _], _ => rfl); (case a => k_is); (case l => k_is); (case c => k_is); (case k => k_is))
    (case l_of_kind => refine' Rs.defN_mk KX G ?a ?l ?c ?k (fun _ _ _ _ _ _ us hl => match us, hl with | [_, _], _ => rfl); (case a => k_is); (case l => k_is); (case c => k_is); (case k => k_is))
    (case l_less => refine' Rs.defN_mk KX G ?a ?l ?c ?k (fun _ _ _ _ _ _ us hl => match us, hl with | [_, _], _ => rfl); (case a => k_is); (case l => k_is); (case c => k_is); (case k => k_is))
    (case l_over => refine' Rs.defN_mk KX G ?a ?l ?c ?k (fun _ _ _ _ _ _ us hl => match us, hl with | [_, _], _ => rfl); (case a => k_is); (case l => k_is); (case c => k_is); (case k => k_is))
    (case l_cumulants => refine' Rs.defN_mk KX G ?a ?l ?c ?k (fun _ _ _ _ _ _ us hl => match us, hl with | [_, _], _ => rfl); (case a => k_is); (case l => k_is); (case c => k_is); (case k => k_is))
    (case d_is_whole => refine' Rs.defN_mk KX G ?a ?l ?c ?k (fun _ _ _ _ _ _ us hl => match us, hl with | [_], _ => rfl); (case a => k_is); (case l => k_is); (case c => k_is); (case k => k_is))
    (case d_is_fraction => refine' Rs.defN_mk KX G ?a ?l ?c ?k (fun _ _ _ _ _ _ us hl => match us, hl with | [_], _ => rfl); (case a => k_is); (case l => k_is); (case c => k_is); (case k => k_is))
    (case d_are_fractions => refine' Rs.defN_mk KX G ?a ?l ?c ?k (fun _ _ _ _ _ _ us hl => match us, hl with | [_, _], _ => rfl); (case a => k_is); (case l => k_is); (case c => k_is); (case k => k_is))
    (case d_is_row => refine' Rs.defN_mk KX G ?a ?l ?c ?k (fun _ _ _ _ _ _ us hl => match us, hl with | [_], _ => rfl); (case a => k_is); (case l => k_is); (case c => k_is); (case k => k_is))
    (case d_need_row => refine' Rs.defN_mk KX G ?a ?l ?c ?k (fun _ _ _ _ _ _ us hl => match us, hl with | [_], _ => rfl); (case a => k_is); (case l => k_is); (case c => k_is); (case k => k_is))
    (case d_reduced => refine' Rs.defN_mk KX G ?a ?l ?c ?k (fun _ _ _ _ _ _ us hl => match us, hl with | [_, _], _ => rfl); (case a => k_is); (case l => k_is); (case c => k_is); (case k => k_is))
    (case d_divided => refine' Rs.defN_mk KX G ?a ?l ?c ?k (fun _ _ _ _ _ _ us hl => match us, hl with | [_, _], _ => rfl); (case a => k_is); (case l => k_is); (case c => k_is); (case k => k_is))
    (case d_unit_moments => refine' Rs.defN_mk KX G ?a ?l ?c ?k (fun _ _ _ _ _ _ us hl => match us, hl with | [_], _ => rfl); (case a => k_is); (case l => k_is); (case c => k_is); (case k => k_is))
    (case d_added => refine' Rs.defN_mk KX G ?a ?l ?c ?k (fun _ _ _ _ _ _ us hl => match us, hl with | [_, _], _ => rfl); (case a => k_is); (case l => k_is); (case c => k_is); (case k => k_is))
    (case d_timed => refine' Rs.defN_mk KX G ?a ?l ?c ?k (fun _ _ _ _ _ _ us hl => match us, hl with | [_, _], _ => rfl); (case a => k_is); (case l => k_is); (case c => k_is); (case k => k_is))
    (case d_trimmed => refine' Rs.defN_mk KX G ?a ?l ?c ?k (fun _ _ _ _ _ _ us hl => match us, hl with | [_], _ => rfl); (case a => k_is); (case l => k_is); (case c => k_is); (case k => k_is))
    (case d_poly_timed => refine' Rs.defN_mk KX G ?a ?l ?c ?k (fun _ _ _ _ _ _ us hl => match us, hl with | [_, _], _ => rfl); (case a => k_is); (case l => k_is); (case c => k_is); (case k => k_is))
    (case d_at_power => refine' Rs.defN_mk KX G ?a ?l ?c ?k (fun _ _ _ _ _ _ us hl => match us, hl with | [_, _], _ => rfl); (case a => k_is); (case l => k_is); (case c => k_is); (case k => k_is))
    (case d_power_part => refine' Rs.defN_mk KX G ?a ?l ?c ?k (fun _ _ _ _ _ _ us hl => match us, hl with | [_, _, _], _ => rfl); (case a => k_is); (case l => k_is); (case c => k_is); (case k => k_is))
    (case d_beside => refine' Rs.defN_mk KX G ?a ?l ?c ?k (fun _ _ _ _ _ _ us hl => match us, hl with | [_, _, _, _], _ => rfl); (case a => k_is); (case l => k_is); (case c => k_is); (case k => k_is))
    (case d_moment_from => refine' Rs.defN_mk KX G ?a ?l ?c ?k (fun _ _ _ _ _ _ us hl => match us, hl with | [_, _, _, _], _ => rfl); (case a => k_is); (case l => k_is); (case c => k_is); (case k => k_is))
    (case d_lessened => refine' Rs.defN_mk KX G ?a ?l ?c ?k (fun _ _ _ _ _ _ us hl => match us, hl with | [_, _], _ => rfl); (case a => k_is); (case l => k_is); (case c => k_is); (case k => k_is))
    (case d_cumulants_by => refine' Rs.defN_mk KX G ?a ?l ?c ?k (fun _ _ _ _ _ _ us hl => match us, hl with | [_, _], _ => rfl); (case a => k_is); (case l => k_is); (case c => k_is); (case k => k_is))
    (case d_need_kind => refine' Rs.defN_mk KX G ?a ?l ?c ?k (fun _ _ _ _ _ _ us hl => match us, hl with | [_], _ => rfl); (case a => k_is); (case l => k_is); (case c => k_is); (case k => k_is))
    (case d_cumulants_of => refine' Rs.defN_mk KX G ?a ?l ?c ?k (fun _ _ _ _ _ _ us hl => match us, hl with | [_, _], _ => rfl); (case a => k_is); (case l => k_is); (case c => k_is); (case k => k_is))
    (case d_is_positive => refine' Rs.defN_mk KX G ?a ?l ?c ?k (fun _ _ _ _ _ _ us hl => match us, hl with | [_], _ => rfl); (case a => k_is); (case l => k_is); (case c => k_is); (case k => k_is))
    (case d_need_positive => refine' Rs.defN_mk KX G ?a ?l ?c ?k (fun _ _ _ _ _ _ us hl => match us, hl with | [_], _ => rfl); (case a => k_is); (case l => k_is); (case c => k_is); (case k => k_is))
    (case d_need_cumulants => refine' Rs.defN_mk KX G ?a ?l ?c ?k (fun _ _ _ _ _ _ us hl => match us, hl with | [_], _ => rfl); (case a => k_is); (case l => k_is); (case c => k_is); (case k => k_is))
    (case d_moment_from2 => refine' Rs.defN_mk KX G ?a ?l ?c ?k (fun _ _ _ _ _ _ us hl => match us, hl with | [_, _, _, _], _ => rfl); (case a => k_is); (case l => k_is); (case c => k_is); (case k => k_is))
    (case d_row_by_cumulants => refine' Rs.defN_mk KX G ?a ?l ?c ?k (fun _ _ _ _ _ _ us hl => match us, hl with | [_, _, _], _ => rfl); (case a => k_is); (case l => k_is); (case c => k_is); (case k => k_is))
    (case d_row_of_cumulants => refine' Rs.defN_mk KX G ?a ?l ?c ?k (fun _ _ _ _ _ _ us hl => match us, hl with | [_, _, _], _ => rfl); (case a => k_is); (case l => k_is); (case c => k_is); (case k => k_is))
    (case d_is_between => refine' Rs.defN_mk KX G ?a ?l ?c ?k (fun _ _ _ _ _ _ us hl => match us, hl with | [_, _, _], _ => rfl); (case a => k_is); (case l => k_is); (case c => k_is); (case k => k_is))
    (case d_need_between => refine' Rs.defN_mk KX G ?a ?l ?c ?k (fun _ _ _ _ _ _ us hl => match us, hl with | [_, _, _], _ => rfl); (case a => k_is); (case l => k_is); (case c => k_is); (case k => k_is))
    (case d_with_next => refine' Rs.defN_mk KX G ?a ?l ?c ?k (fun _ _ _ _ _ _ us hl => match us, hl with | [_, _], _ => rfl); (case a => k_is); (case l => k_is); (case c => k_is); (case k => k_is))
    (case d_is_parted => refine' Rs.defN_mk KX G ?a ?l ?c ?k (fun _ _ _ _ _ _ us hl => match us, hl with | [_, _, _], _ => rfl); (case a => k_is); (case l => k_is); (case c => k_is); (case k => k_is))
    (case d_does_cross => refine' Rs.defN_mk KX G ?a ?l ?c ?k (fun _ _ _ _ _ _ us hl => match us, hl with | [_], _ => rfl); (case a => k_is); (case l => k_is); (case c => k_is); (case k => k_is))
    (case d_is_stretched => refine' Rs.defN_mk KX G ?a ?l ?c ?k (fun _ _ _ _ _ _ us hl => match us, hl with | [_], _ => rfl); (case a => k_is); (case l => k_is); (case c => k_is); (case k => k_is))
    (case d_has_kind => refine' Rs.defN_mk KX G ?a ?l ?c ?k (fun _ _ _ _ _ _ us hl => match us, hl with | [_, _], _ => rfl); (case a => k_is); (case l => k_is); (case c => k_is); (case k => k_is))
    (case d_partings_of => refine' Rs.defN_mk KX G ?a ?l ?c ?k (fun _ _ _ _ _ _ us hl => match us, hl with | [_, _], _ => rfl); (case a => k_is); (case l => k_is); (case c => k_is); (case k => k_is))
    (case d_block_product => refine' Rs.defN_mk KX G ?a ?l ?c ?k (fun _ _ _ _ _ _ us hl => match us, hl with | [_, _], _ => rfl); (case a => k_is); (case l => k_is); (case c => k_is); (case k => k_is))
    (case d_turned => refine' Rs.defN_mk KX G ?a ?l ?c ?k (fun _ _ _ _ _ _ us hl => match us, hl with | [_], _ => rfl); (case a => k_is); (case l => k_is); (case c => k_is); (case k => k_is))
    (case d_signed => refine' Rs.defN_mk KX G ?a ?l ?c ?k (fun _ _ _ _ _ _ us hl => match us, hl with | [_, _], _ => rfl); (case a => k_is); (case l => k_is); (case c => k_is); (case k => k_is))
    (case d_sign_by => refine' Rs.defN_mk KX G ?a ?l ?c ?k (fun _ _ _ _ _ _ us hl => match us, hl with | [_, _], _ => rfl); (case a => k_is); (case l => k_is); (case c => k_is); (case k => k_is))
    (case d_cumulant_by => refine' Rs.defN_mk KX G ?a ?l ?c ?k (fun _ _ _ _ _ _ us hl => match us, hl with | [_, _, _], _ => rfl); (case a => k_is); (case l => k_is); (case c => k_is); (case k => k_is))
    (case l_row_right => refine' Rs.defN_mk KX G ?a ?l ?c ?k (fun _ _ _ _ _ _ us hl => match us, hl with | [_, _], _ => rfl); (case a => k_is); (case l => k_is); (case c => k_is); (case k => k_is))
    (case l_by_blocks2 => refine' Rs.defN_mk KX G ?a ?l ?c ?k (fun _ _ _ _ _ _ us hl => match us, hl with | [_, _], _ => rfl); (case a => k_is); (case l => k_is); (case c => k_is); (case k => k_is))
    (case l_plain => refine' Rs.defN_mk KX G ?a ?l ?c ?k (fun _ _ _ _ _ _ us hl => match us, hl with | [_, _], _ => rfl); (case a => k_is); (case l => k_is); (case c => k_is); (case k => k_is))
    (case d_block_product2 => refine' Rs.defN_mk KX G ?a ?l ?c ?k (fun _ _ _ _ _ _ us hl => match us, hl with | [_, _], _ => rfl); (case a => k_is); (case l => k_is); (case c => k_is); (case k => k_is))
    (case d_moment_by => refine' Rs.defN_mk KX G ?a ?l ?c ?k (fun _ _ _ _ _ _ us hl => match us, hl with | [_, _, _], _ => rfl); (case a => k_is); (case l => k_is); (case c => k_is); (case k => k_is))
    (case l_back_right => refine' Rs.defN_mk KX G ?a ?l ?c ?k (fun _ _ _ _ _ _ us hl => match us, hl with | [_, _, _], _ => rfl); (case a => k_is); (case l => k_is); (case c => k_is); (case k => k_is))
    (case law => refine' Rs.defN_mk KX G ?a ?l ?c ?k (fun _ _ _ _ _ _ us hl => match us, hl with | [_], _ => rfl); (case a => k_is); (case l => k_is); (case c => k_is); (case k => k_is))
    (case gz => refine' Rs.nou_mk KX G ?a ?l; (case a => k_is); (case l => k_is))
    (case gt => refine' Rs.blt_mk KX G ?h1 ?h2 ?h3 ?h4 ?h5 ?h6 ?h7 ?h8 ?h9 ?h10 ?h11 ?h12 ?h13; (case h1 => k_is); (case h2 => k_is); (case h3 => k_is); (case h4 => k_is); (case h5 => k_is); (case h6 => k_is); (case h7 => k_is); (case h8 => k_is); (case h9 => k_is); (case h10 => k_is); (case h11 => k_is); (case h12 => k_is); (case h13 => k_is))
    (case gm9 => refine' Rs.most9_mk KX G ?hm9; (case hm9 => k_is))
    (case gog => refine' Rs.one_mk KX G ?hoa ?hol; (case hoa => k_is); (case hol => k_is))
    (case gkg => refine' Rs.kinds_mk KX G ?hka ?hkl; (case hka => k_is); (case hkl => k_is))
    (case gmc => refine' Rs.mostc_mk KX G ?hmc8; (case hmc8 => k_is))
    (case gmn => refine' Rs.mostn_mk KX G ?hm7; (case hm7 => k_is))
    (case gn_sorted => refine' PySem.W.mg_none_of KX G ?hnn_sorted; k_is)
    (case gn_sum => refine' PySem.W.mg_none_of KX G ?hnn_sum; k_is)
    (case gn_enumerate => refine' PySem.W.mg_none_of KX G ?hnn_enumerate; k_is)
    (case gn_all => refine' PySem.W.mg_none_of KX G ?hnn_all; k_is)
    (case gn_str => refine' PySem.W.mg_none_of KX G ?hnn_str; k_is)
    (case gn_zip => refine' PySem.W.mg_none_of KX G ?hnn_zip; k_is)
    (case gn_any => refine' PySem.W.mg_none_of KX G ?hnn_any; k_is)


