import PyProof.Rows.All
import Wide.All
import OpenK.AllK
import Wide.FinOn
import HandS.ForMost
import HandS.ForExc
import HandS.Gcd
import HandS.Wide
import HandS.IsInst
import HandS.ExcInit
import HandS.Lambda
import HandS.OwnEq
import PySem.Challenge.RW_rungshare_k39_partings_as_marked_ways
import HandS.ExcField
import HandS.Codes
import HandS.TryMany
import HandS.TupAny
import KE.GoesMore
import HandS.Iter
import HandS.Rev
import HandS.Style
import HandS.Walk
import HandS.Zip
import HandS.Deep
import HandS.Defaults
import HandS.TupMul
import HandS.WordsExc
import HandS.RaiseMore
import KE.DataCmp
import HandS.SortInts
import KE.SortData
import HandS.Conv
import HandS.WideBits
import KE.KMathGC
import PyProof.ExcBaseAll.LookupError
import HandS.RevRange
import HandS.ExcOwn
import HandS.TupLe
import KE.GoesZip
import HandS.SetFor
import KE.KTupSum
import HandS.EndTab
import HandS.NestedK
set_option Elab.async false
set_option linter.all false
set_option maxRecDepth 100000
set_option maxHeartbeats 2000000
namespace Bs
open PySem PySem.Spec PyProof.Rows L2
theorem same_new {H : Hp} {p : Addr} {o : HO} (h : H p = none) : Same H (upd H p o) := fun b u e => (upd_ne (ne_of_none e h)).trans e
theorem Same.t {K : PySem.W.Frag} {H H' : Hp} {a : Addr} {xs : List V} (e : Same H H') (h : SqT K H a xs) : SqT K H' a xs := by
  rcases h with (h | ⟨o, h⟩) | h
  · exact .inl (.inl (e _ _ h))
  · exact .inl (.inr ⟨o, e _ _ h⟩)
  · exact .inr h
section
variable {X : Cx}
/-- x *= e, both ints, together below a million bits -/
def ipM : TIp := fun x y H Q => ∃ i j, x = .int i ∧ y = .int j ∧ CMulW i j ∧ Q (.int (i * j)) H
theorem ip_mul : PIp X .Mult ipM := by
  rintro pins s σ H x y v u Q I r1 r2 ⟨i, j, rfl, rfl, c, q⟩
  obtain ⟨t, rfl⟩ := r1
  obtain ⟨t', rfl⟩ := r2
  exact imul_int ⟨.int _, H, I.tok _, ⟨_, rfl⟩, q⟩ c.ok
end
structure CalX (P : Program) (w : World) (K : PySem.W.Frag) (mg : Str → Option Value) (base : Heap) (k : Nat) (x : Str) (sp : Sp) : Prop where
  ex : ∃ (f : Addr) (fd : FuncData) (ps : List Str), FnOk P w K mg base (L2.CX P w) k f fd ps sp ∧ mg x = some (.ref f) ∧ PySem.W.keepIn K (.ref f) = true ∧ Binds K fd ps []
structure Cal (P : Program) (w : World) (K : PySem.W.Frag) (mg : Str → Option Value) (base : Heap) (k : Nat) (x : Str) (sp : Sp) : Prop where
  ex : ∃ (f : Addr) (fd : FuncData) (ps : List Str), FnOk P w K mg base CX0 k f fd ps sp ∧ mg x = some (.ref f) ∧ PySem.W.keepIn K (.ref f) = true ∧ Binds K fd ps []
/-- a promise that is kept where no guard stands around -/
structure FnG (P : Program) (w : World) (K : PySem.W.Frag) (mg : Str → Option Value) (base : Heap) (k : Nat) (f : Addr) (fd : FuncData) (ps : List Str) (sp : Sp) : Prop where
  len : ∀ vs H Q E, sp vs H Q E → vs.length = ps.length
  run : ∀ (A : Around) (outer : List Env) (s : Shared) (H : Hp) (args : Args) (us : List Value) (vs : List V) (Q : VK) (E : XK), A.guards = some [] → Room k A → Env0 P w K mg base A outer s H →
    BindsTo s fd args (ps.zip us) → Vals vs us → sp vs H Q E → codeAny (model P w) A (.call (.ref f) args) (CR CX0 outer P w H s Q E) s
structure CalG (P : Program) (w : World) (K : PySem.W.Frag) (mg : Str → Option Value) (base : Heap) (k : Nat) (x : Str) (sp : Sp) : Prop where
  ex : ∃ (f : Addr) (fd : FuncData) (ps : List Str), FnG P w K mg base k f fd ps sp ∧ mg x = some (.ref f) ∧ PySem.W.keepIn K (.ref f) = true ∧ Binds K fd ps []
section
variable {P : Program} {w : World} {K : PySem.W.Frag} {mg : Str → Option Value} {base : Heap} {k : Nat} {f : Addr} {fd : FuncData} {sp : Sp} {x qual : Str} {st : Stmt} {N ps : List Str}
theorem FnG.ok (F : Fun K x qual st f fd) (S : FnScope N ps (defScope st)) (len : ∀ vs H Q E, sp vs H Q E → vs.length = ps.length)
    (hbody : ∀ (cdv : Value) (A : Around) (outer : List Env) (s : Shared) (H : Hp) (vs : List V) (Q : VK) (E : XK), A.guards = some [] → Room k (A.deeper (envOfC qual (defScope st) s.heap.objs.size f cdv)) → sp vs H Q E →
      ∃ t, PSs (cxOf CX0 P w K mg base N qual (defScope st) f cdv A outer s H E).nox (defBody st) t ∧ t { nx := fun _ H' => Q .non H', rt := Q } (start N vs) H) : FnG P w K mg base (k + 1) f fd ps sp := by
  obtain ⟨oc, od, kV, doc, pm, an, cdv, ct, osl, rfl, lk, hcd⟩ := F.ex
  refine ⟨len, fun A outer s H args us vs Q E hg hr e0 hb r h => ?_⟩
  refine LamX.run_ofS lk hcd S hr e0 hb r (len _ _ _ _ h) (fun hr' => ?_)
  obtain ⟨t, a, b⟩ := hbody cdv A outer s H vs Q E hg hr' h
  exact ⟨t, a.nox, b⟩
end
section
variable {X : Cx} {k j : Nat} {x : Str} {sp : Sp} {p pos : Pos} {e : Expr} {es : List Expr} {t : TA} {E : XK}
theorem pe_n (c : Cal X.prog X.w X.K X.mg X.base k x sp) (hr : Room j X.A) (hk : k ≤ j) (hg : Gl X x) (ha : PA X (e :: es) t)
    (hdb : (x == ("__debug__" : Str)) = false := by decide) (he : starEach (e :: es) X.env = (false, eval e X.env) :: starEach es X.env := by rfl) (hpl : (backTo pos (starEach es X.env)).any (·.1) = false := by rfl) :
    PE X (.Call (.Name x p) (e :: es) [] pos) (tCall sp [] E0 t) := by
  obtain ⟨f, fd, ps, F, hm, kp, b⟩ := c.ex
  exact pe_call F (hr.mono hk) hg hm kp b .nil pass0 ha hdb he hpl
end
end Bs


namespace Fq
abbrev F := Int × Int
def gI (a b : Int) : Int := ((Nat.gcd a.natAbs b.natAbs : Nat) : Int)
/-- least terms, the bottom above nought -/
def red (a b : Int) : F := (a / gI a b, b / gI a b)
/-- least terms, the bottom not nought -/
def redP (a b : Int) : F := if b < 0 then red (-a) (-b) else red a b
theorem gI_pos {a b : Int} (h : b ≠ 0) : 0 < gI a b := by
  have : 0 < Nat.gcd a.natAbs b.natAbs := Nat.gcd_pos_of_pos_right _ (by omega)
  unfold gI; omega
theorem gI_le {a b : Int} (h : b ≠ 0) : (gI a b).natAbs ≤ b.natAbs := by
  have : Nat.gcd a.natAbs b.natAbs ≤ b.natAbs := Nat.gcd_le_right _ (by omega)
  unfold gI; omega
/-- a fraction in least terms -/
def Ok (q : F) : Prop := 0 < q.2 ∧ Nat.gcd q.1.natAbs q.2.natAbs = 1
theorem gI_dvd_l (a b : Int) : gI a b ∣ a := by
  unfold gI
  exact Int.ofNat_dvd_left.mpr (Nat.gcd_dvd_left _ _)
theorem gI_dvd_r (a b : Int) : gI a b ∣ b := by
  unfold gI
  exact Int.ofNat_dvd_left.mpr (Nat.gcd_dvd_right _ _)
theorem red_ok {a b : Int} (h : 0 < b) : Ok (red a b) := by
  have hg := gI_pos (a := a) (b := b) (by omega)
  obtain ⟨x, hx⟩ := gI_dvd_l a b
  obtain ⟨y, hy⟩ := gI_dvd_r a b
  have e1 : a / gI a b = x := Int.ediv_eq_of_eq_mul_right (by omega) hx
  have e2 : b / gI a b = y := Int.ediv_eq_of_eq_mul_right (by omega) hy
  refine ⟨?_, ?_⟩
  · show 0 < b / gI a b
    rw [e2]
    apply Int.pos_of_mul_pos_right (a := gI a b) (b := y) ?_ hg |> id
    rw [← hy]; exact h
  · show Nat.gcd (a / gI a b).natAbs (b / gI a b).natAbs = 1
    rw [e1, e2]
    have q1 : a.natAbs = (gI a b).natAbs * x.natAbs := by
      have := congrArg Int.natAbs hx
      rwa [Int.natAbs_mul] at this
    have q2 : b.natAbs = (gI a b).natAbs * y.natAbs := by
      have := congrArg Int.natAbs hy
      rwa [Int.natAbs_mul] at this
    have q3 : (gI a b).natAbs = Nat.gcd a.natAbs b.natAbs := by unfold gI; omega
    have q4 : Nat.gcd a.natAbs b.natAbs = (gI a b).natAbs * Nat.gcd x.natAbs y.natAbs := by
      rw [q1, q2, Nat.gcd_mul_left]
    have hp : 0 < (gI a b).natAbs := by omega
    have : (gI a b).natAbs * 1 = (gI a b).natAbs * Nat.gcd x.natAbs y.natAbs := by rw [← q4, q3]; omega
    exact (Nat.eq_of_mul_eq_mul_left hp this).symm
theorem red_of {q : F} (h : Ok q) : red q.1 q.2 = q := by
  have : gI q.1 q.2 = 1 := by unfold gI; rw [h.2]; rfl
  unfold red
  rw [this, Int.ediv_one, Int.ediv_one]
/-- sums, differences, products, quotients -/
def add (q r : F) : F := red (q.1 * r.2 + r.1 * q.2) (q.2 * r.2)
def sub (q r : F) : F := red (q.1 * r.2 - r.1 * q.2) (q.2 * r.2)
def mul (q r : F) : F := red (q.1 * r.1) (q.2 * r.2)
def div (q r : F) : F := redP (q.1 * r.2) (q.2 * r.1)
def lt (q r : F) : Bool := decide (q.1 * r.2 < r.1 * q.2)
def pw (q : F) (n : Nat) : F := (q.1 ^ n, q.2 ^ n)
end Fq


set_option Elab.async false
set_option linter.all false
set_option maxRecDepth 100000
set_option maxHeartbeats 2000000
namespace Rs
open PySem L2 Bs Fq
def top (i : Nat) : Stmt := PySem.Challenge.pw_rungshare_k39_partings_as_marked_ways.main.body.getD i (.Pass ⟨0, 0, 0, 0⟩)
abbrev fr (q : F) : HO := .tup [.int q.1, .int q.2]
/-- a value that is a fraction's tuple -/
def Fr (K : PySem.W.Frag) (H : Hp) (v : V) (q : F) : Prop := ∃ a, v = .ref a ∧ SqT K H a [.int q.1, .int q.2]
theorem Fr.of {K : PySem.W.Frag} {H : Hp} {p : Addr} {q : F} (h : H p = some (fr q)) : Fr K H (.ref p) q := ⟨p, rfl, SqT.of h⟩
theorem Fr.mono {K : PySem.W.Frag} {H H' : Hp} {v : V} {q : F} (h : Fr K H v q) (e : Same H H') : Fr K H' v q := by
  obtain ⟨a, rfl, s⟩ := h
  exact ⟨a, rfl, Same.t e s⟩
def Lt2 (n : Nat) (x : Int) : Prop := x.natAbs < 2 ^ n
theorem Lt2.mono {m n : Nat} {x : Int} (h : Lt2 m x) (k : m ≤ n) : Lt2 n x := Nat.lt_of_lt_of_le h (Nat.pow_le_pow_right (by decide) k)
theorem Lt2.c {m n : Nat} {x y : Int} (h : Lt2 m x) (k : Lt2 n y) (h0 : 0 < m := by decide) (h1 : 0 < n := by decide) (h2 : m + n ≤ 1000000 := by decide) : CMulW x y := wide_mul h k h0 h1 h2
/-- what the program reckons with -/
structure Dm (q : F) : Prop where
  big : Lt2 4400 q.1
  pos : 0 < q.2
  low : Lt2 4400 q.2
theorem Dm.l2 {q : F} (h : Dm q) : Lt2 4400 q.2 := h.low
theorem lt2m {a b : Int} (h : Lt2 4400 a) (g : Lt2 4400 b) : Lt2 8800 (a * b) := by
  show (a * b).natAbs < 2 ^ (4400 + 4400)
  rw [Int.natAbs_mul, Nat.pow_add]
  exact Nat.mul_lt_mul'' h g
structure DefN (K : PySem.W.Frag) (mg : Str → Option Value) (x : Str) (st : Stmt) (ps : List Str) : Prop where
  ex : ∃ (f : Addr) (fd : FuncData), Fun K x x st f fd ∧ mg x = some (.ref f) ∧ Binds K fd ps []
structure Blt (mg : Str → Option Value) : Prop where
  isinstance : mg "isinstance" = none
  len : mg "len" = none
  int : mg "int" = none
  bool : mg "bool" = none
  tuple : mg "tuple" = none
  range : mg "range" = none
  list : mg "list" = none
  abs : mg "abs" = none
  min : mg "min" = none
  repr : mg "repr" = none
  gcd : mg "gcd" = some (.builtin "math.gcd")
  comb : mg "comb" = some (.builtin "math.comb")
section
variable {P : Program} {w : World} {K : PySem.W.Frag} {mg : Str → Option Value} {base : Heap} {k : Nat} {x : Str} {st : Stmt} {ps : List Str} {sp : Sp}
theorem DefN.cal (D : DefN K mg x st ps) (h : ∀ f fd, Fun K x x st f fd → FnOk P w K mg base CX0 k f fd ps sp) : Cal P w K mg base k x sp := by
  obtain ⟨f, fd, F, m, b⟩ := D.ex
  exact ⟨f, fd, ps, h f fd F, m, F.kp, b⟩
theorem DefN.calX (D : DefN K mg x st ps) (h : ∀ f fd, Fun K x x st f fd → FnOk P w K mg base (L2.CX P w) k f fd ps sp) : CalX P w K mg base k x sp := by
  obtain ⟨f, fd, F, m, b⟩ := D.ex
  exact ⟨f, fd, ps, h f fd F, m, F.kp, b⟩
theorem DefN.calG (D : DefN K mg x st ps) (h : ∀ f fd, Fun K x x st f fd → FnG P w K mg base k f fd ps sp) : CalG P w K mg base k x sp := by
  obtain ⟨f, fd, F, m, b⟩ := D.ex
  exact ⟨f, fd, ps, h f fd F, m, F.kp, b⟩
end
abbrev sReduced : Stmt := top 13
abbrev sAdded : Stmt := top 14
abbrev sLessened : Stmt := top 15
abbrev sTimed : Stmt := top 16
/-- reduced(top, bottom) -/
def spReduced : Sp := fun vs H Q _ => ∃ (a b : Int), vs = [.int a, .int b] ∧ 0 < b ∧ Lt2 8800 b ∧ ∀ p, H p = none → Q (.ref p) (upd H p (fr (red a b)))
/-- two fractions in, one out -/
def spOp (K : PySem.W.Frag) (op : F → F → F) (dom : F → F → Prop) : Sp := fun vs H Q _ => ∃ (x y : V) (q r : F), vs = [x, y] ∧ Fr K H x q ∧ Fr K H y r ∧ dom q r ∧ ∀ p, H p = none → Q (.ref p) (upd H p (fr (op q r)))
def dom2 (q r : F) : Prop := Dm q ∧ Dm r
def domD (q r : F) : Prop := Dm q ∧ Dm r ∧ r.1 ≠ 0 ∧ r.1.natAbs < 32768
def spLt (K : PySem.W.Frag) : Sp := fun vs H Q _ => ∃ (x y : V) (q r : F), vs = [x, y] ∧ Fr K H x q ∧ Fr K H y r ∧ dom2 q r ∧ Q (.bl (lt q r)) H
def spRaised (K : PySem.W.Frag) : Sp := fun vs H Q _ => ∃ (x : V) (q : F) (n : Int), vs = [x, .int n] ∧ Fr K H x q ∧ Lt2 6 q.1 ∧ Lt2 6 q.2 ∧ 0 ≤ n ∧ n ≤ 20 ∧ ∀ p, H p = none → Q (.ref p) (upd H p (fr (pw q n.toNat)))
section
variable {P : Program} {w : World} {K : PySem.W.Frag} {mg : Str → Option Value} {base : Heap} {f : Addr} {fd : FuncData}
theorem scReduced : FnScope ["top", "bottom", "common"] ["top", "bottom"] (defScope sReduced) := ⟨rfl, rfl, rfl, by decide +kernel, rfl, by decide +kernel, by decide +kernel⟩
theorem ok_reduced (F : Fun K "reduced" "reduced" sReduced f fd) (T : Blt mg) : FnOk P w K mg base CX0 1 f fd ["top", "bottom"] spReduced := by
  refine F.ok scReduced (fun vs H Q E h => ?_) (fun cdv A outer s H vs Q E hr h => ?_)
  · obtain ⟨a, b, rfl, _⟩ := h
    rfl
  · obtain ⟨a, b, rfl, hb, hw, k⟩ := h
    refine ⟨_, pss_cons (ps_set (i := 2) scReduced.nd rfl (Or.inl rfl) (pe_callBfun cr_gcd (by rfl) T.gcd (pa_cons (pv 0) (pa_cons (pv 1) pa_nil))))
      (pss_cons (ps_if (pt_cmpR op_lt (pv 1) pe_int (nomark _)) (pss_one (ps_set (i := 2) scReduced.nd rfl (Or.inl rfl) (pe_un un_neg (pv 2)))) pss_nil)
      (pss_one (ps_ret (pe_tup (pa_cons (pe_op op_fdivW (pv 0) (pv 2)) (pa_cons (pe_op op_fdivW (pv 1) (pv 2)) pa_nil)))))), ?_⟩
    refine ⟨_, rfl, _, rfl, a, b, rfl, ?_⟩
    refine ⟨_, rfl, _, _, rfl, rfl, _, rfl, ?_⟩
    have hp := gI_pos (a := a) (b := b) (by omega)
    have hle := gI_le (a := a) (b := b) (by omega)
    have hgw : Lt2 8800 (gI a b) := Nat.lt_of_le_of_lt hle hw
    refine ite2 (fun c => ?_) (fun c => ?_)
    · have := of_decide_eq_true c
      omega
    · exact ⟨_, rfl, _, rfl, _, _, rfl, rfl, wide_div hp hgw (by decide) (by decide), _, rfl, _, rfl, _, _, rfl, rfl, wide_div hp hgw (by decide) (by decide), (by show 2 ≤ sizeLine; decide), fun p hp => k p hp⟩
theorem scOp : ∀ i ∈ [14, 15, 16], FnScope ["one", "other"] ["one", "other"] (defScope (top i)) := by
  intro i hi
  simp only [List.mem_cons, List.not_mem_nil, or_false] at hi
  rcases hi with rfl | rfl | rfl <;> exact ⟨rfl, rfl, rfl, by decide +kernel, rfl, by decide +kernel, by decide +kernel⟩
/-- one[0] * other[1] and its like: two places, the rest -/
theorem ok_added (F : Fun K "added" "added" sAdded f fd) (C : Cal P w K mg base 1 "reduced" spReduced) : FnOk P w K mg base CX0 2 f fd ["one", "other"] (spOp K add dom2) := by
  refine F.ok (scOp 14 (by decide)) (fun vs H Q E h => ?_) (fun cdv A outer s H vs Q E hr h => ?_)
  · obtain ⟨x, y, q, r, rfl, _⟩ := h
    rfl
  · obtain ⟨x, y, q, r, rfl, ⟨a, rfl, h1⟩, ⟨b, rfl, h2⟩, ⟨d1, d2⟩, k⟩ := h
    refine ⟨_, pss_one (ps_ret (pe_n C hr (by decide) (by rfl) (pa_cons (pe_op op_add (pe_op op_mulW (pe_ix ix_tup (pv 0) pe_int (fun _ _ => rfl)) (pe_ix ix_tup (pv 1) pe_int (fun _ _ => rfl))) (pe_op op_mulW (pe_ix ix_tup (pv 1) pe_int (fun _ _ => rfl)) (pe_ix ix_tup (pv 0) pe_int (fun _ _ => rfl))))
      (pa_cons (pe_op op_mulW (pe_ix ix_tup (pv 0) pe_int (fun _ _ => rfl)) (pe_ix ix_tup (pv 1) pe_int (fun _ _ => rfl))) pa_nil)))), ?_⟩
    refine ⟨_, rfl, a, _, _, _, rfl, rfl, h1, atI_nat (j := 0) rfl, _, rfl, b, _, _, _, rfl, rfl, h2, atI_nat (j := 1) rfl, _, _, rfl, rfl, d1.big.c d2.l2,
      _, rfl, b, _, _, _, rfl, rfl, h2, atI_nat (j := 0) rfl, _, rfl, a, _, _, _, rfl, rfl, h1, atI_nat (j := 1) rfl, _, _, rfl, rfl, d2.big.c d1.l2, _, _, rfl, rfl,
      _, rfl, a, _, _, _, rfl, rfl, h1, atI_nat (j := 1) rfl, _, rfl, b, _, _, _, rfl, rfl, h2, atI_nat (j := 1) rfl, _, _, rfl, rfl, d1.l2.c d2.l2, ?_⟩
    exact ⟨_, _, rfl, Int.mul_pos d1.pos d2.pos, lt2m d1.low d2.low, fun p hp => k p hp⟩
theorem ok_lessened (F : Fun K "lessened" "lessened" sLessened f fd) (C : Cal P w K mg base 1 "reduced" spReduced) : FnOk P w K mg base CX0 2 f fd ["one", "other"] (spOp K sub dom2) := by
  refine F.ok (scOp 15 (by decide)) (fun vs H Q E h => ?_) (fun cdv A outer s H vs Q E hr h => ?_)
  · obtain ⟨x, y, q, r, rfl, _⟩ := h
    rfl
  · obtain ⟨x, y, q, r, rfl, ⟨a, rfl, h1⟩, ⟨b, rfl, h2⟩, ⟨d1, d2⟩, k⟩ := h
    refine ⟨_, pss_one (ps_ret (pe_n C hr (by decide) (by rfl) (pa_cons (pe_op op_sub (pe_op op_mulW (pe_ix ix_tup (pv 0) pe_int (fun _ _ => rfl)) (pe_ix ix_tup (pv 1) pe_int (fun _ _ => rfl))) (pe_op op_mulW (pe_ix ix_tup (pv 1) pe_int (fun _ _ => rfl)) (pe_ix ix_tup (pv 0) pe_int (fun _ _ => rfl))))
      (pa_cons (pe_op op_mulW (pe_ix ix_tup (pv 0) pe_int (fun _ _ => rfl)) (pe_ix ix_tup (pv 1) pe_int (fun _ _ => rfl))) pa_nil)))), ?_⟩
    refine ⟨_, rfl, a, _, _, _, rfl, rfl, h1, atI_nat (j := 0) rfl, _, rfl, b, _, _, _, rfl, rfl, h2, atI_nat (j := 1) rfl, _, _, rfl, rfl, d1.big.c d2.l2,
      _, rfl, b, _, _, _, rfl, rfl, h2, atI_nat (j := 0) rfl, _, rfl, a, _, _, _, rfl, rfl, h1, atI_nat (j := 1) rfl, _, _, rfl, rfl, d2.big.c d1.l2, _, _, rfl, rfl,
      _, rfl, a, _, _, _, rfl, rfl, h1, atI_nat (j := 1) rfl, _, rfl, b, _, _, _, rfl, rfl, h2, atI_nat (j := 1) rfl, _, _, rfl, rfl, d1.l2.c d2.l2, ?_⟩
    exact ⟨_, _, rfl, Int.mul_pos d1.pos d2.pos, lt2m d1.low d2.low, fun p hp => k p hp⟩
theorem ok_timed (F : Fun K "timed" "timed" sTimed f fd) (C : Cal P w K mg base 1 "reduced" spReduced) : FnOk P w K mg base CX0 2 f fd ["one", "other"] (spOp K mul dom2) := by
  refine F.ok (scOp 16 (by decide)) (fun vs H Q E h => ?_) (fun cdv A outer s H vs Q E hr h => ?_)
  · obtain ⟨x, y, q, r, rfl, _⟩ := h
    rfl
  · obtain ⟨x, y, q, r, rfl, ⟨a, rfl, h1⟩, ⟨b, rfl, h2⟩, ⟨d1, d2⟩, k⟩ := h
    refine ⟨_, pss_one (ps_ret (pe_n C hr (by decide) (by rfl) (pa_cons (pe_op op_mulW (pe_ix ix_tup (pv 0) pe_int (fun _ _ => rfl)) (pe_ix ix_tup (pv 1) pe_int (fun _ _ => rfl)))
      (pa_cons (pe_op op_mulW (pe_ix ix_tup (pv 0) pe_int (fun _ _ => rfl)) (pe_ix ix_tup (pv 1) pe_int (fun _ _ => rfl))) pa_nil)))), ?_⟩
    refine ⟨_, rfl, a, _, _, _, rfl, rfl, h1, atI_nat (j := 0) rfl, _, rfl, b, _, _, _, rfl, rfl, h2, atI_nat (j := 0) rfl, _, _, rfl, rfl, d1.big.c d2.big,
      _, rfl, a, _, _, _, rfl, rfl, h1, atI_nat (j := 1) rfl, _, rfl, b, _, _, _, rfl, rfl, h2, atI_nat (j := 1) rfl, _, _, rfl, rfl, d1.l2.c d2.l2, ?_⟩
    exact ⟨_, _, rfl, Int.mul_pos d1.pos d2.pos, lt2m d1.low d2.low, fun p hp => k p hp⟩
theorem pow_lt2 {x : Int} {n : Nat} (h : Lt2 6 x) (hn : n ≤ 20) : Lt2 121 (x ^ n) := by
  have h' : x.natAbs < 64 := h
  show (x ^ n).natAbs < 2 ^ 121
  rw [Int.natAbs_pow]
  have a := Nat.pow_le_pow_left (show x.natAbs ≤ 64 by omega) n
  have b := Nat.pow_le_pow_right (show 0 < 64 by decide) hn
  have c : (64 : Nat) ^ 20 < 2 ^ 121 := by decide
  omega
end
end Rs


set_option Elab.async false
set_option linter.all false
set_option maxRecDepth 100000
set_option maxHeartbeats 400000
namespace Rs
open PySem L2 Bs Fq
def dF (q : F) : PyData := .tuple [.int q.1, .int q.2]
theorem Fr.dp {K : PySem.W.Frag} {H : Hp} {v : V} {q : F} (h : Fr K H v q) : Dp K H v (dF q) := by
  obtain ⟨a, rfl, s⟩ := h
  exact .tup s (.cons (.int _) (.cons (.int _) .nil))
def tyD : PyData → String
  | .none => "NoneType" | .bool _ => "bool" | .int _ => "int" | .str _ => "str" | .list _ => "list" | .tuple _ => "tuple" | .dict _ => "dict"
theorem _root_.L2.Dp.ty {K : PySem.W.Frag} {H : Hp} {v : V} {d : PyData} (h : Dp K H v d) : TyX K H v (.type (tyD d)) := by
  cases h with
  | non => exact .base .non
  | bl b => exact .base (.bl b)
  | int i => exact .base (.int i)
  | str x => exact .base (.str x)
  | lst s _ =>
    rcases s with (s | ⟨o, s⟩) | ⟨o, its, n, e, c, _⟩
    · exact .base (.lst s)
    · exact .base (.frz s)
    · exact .kList e c
  | tup s _ =>
    rcases s with (s | ⟨o, s⟩) | ⟨o, its, n, e, c, _⟩
    · exact .base (.tup s)
    · exact .fTuple s
    · exact .kTuple e c
def wholeD : PyData → Bool
  | .int _ => true
  | _ => false
def fracD : PyData → Bool
  | .tuple [.int a, .int b] => decide (1 ≤ b) && decide (gI a b = 1)
  | _ => false
def betwD (lo hi : Int) : PyData → Bool
  | .int i => decide (lo ≤ i) && decide (i ≤ hi)
  | _ => false
theorem fracD_dF {q : F} (h : Ok q) : fracD (dF q) = true := by
  have : gI q.1 q.2 = 1 := by unfold gI; rw [h.2]; rfl
  simp only [fracD, dF, Bool.and_eq_true, decide_eq_true_eq]
  exact ⟨by have := h.1; omega, this⟩
theorem fracD_true {d : PyData} (h : fracD d = true) : ∃ q, d = dF q ∧ Ok q := by
  unfold fracD at h
  split at h
  · rename_i a b
    simp only [Bool.and_eq_true, decide_eq_true_eq] at h
    refine ⟨(a, b), rfl, by show 0 < b; omega, ?_⟩
    have := h.2
    unfold gI at this
    show Nat.gcd a.natAbs b.natAbs = 1
    omega
  · cases h
def isInt : PyData → Bool
  | .int _ => true
  | .bool _ => true
  | _ => false
theorem kitI (K : PySem.W.Frag) (d : PyData) : PySem.W.kitOne K (.type (tyD d)) (.type "int") = some (isInt d) := by
  cases d with
  | none => exact kit_ty (a := "NoneType") (b := "int") (r := false) (by decide +kernel)
  | bool _ => exact kit_ty (a := "bool") (b := "int") (r := true) (by decide +kernel)
  | int _ => exact kit_ty (a := "int") (b := "int") (r := true) (by decide +kernel)
  | str _ => exact kit_ty (a := "str") (b := "int") (r := false) (by decide +kernel)
  | list _ => exact kit_ty (a := "list") (b := "int") (r := false) (by decide +kernel)
  | tuple _ => exact kit_ty (a := "tuple") (b := "int") (r := false) (by decide +kernel)
  | dict _ => exact kit_ty (a := "dict") (b := "int") (r := false) (by decide +kernel)
def isBool : PyData → Bool
  | .bool _ => true
  | _ => false
theorem kitB' (K : PySem.W.Frag) (d : PyData) : PySem.W.kitOne K (.type (tyD d)) (.type "bool") = some (isBool d) := by
  cases d with
  | none => exact kit_ty (a := "NoneType") (b := "bool") (r := false) (by decide +kernel)
  | bool _ => exact kit_ty (a := "bool") (b := "bool") (r := true) (by decide +kernel)
  | int _ => exact kit_ty (a := "int") (b := "bool") (r := false) (by decide +kernel)
  | str _ => exact kit_ty (a := "str") (b := "bool") (r := false) (by decide +kernel)
  | list _ => exact kit_ty (a := "list") (b := "bool") (r := false) (by decide +kernel)
  | tuple _ => exact kit_ty (a := "tuple") (b := "bool") (r := false) (by decide +kernel)
  | dict _ => exact kit_ty (a := "dict") (b := "bool") (r := false) (by decide +kernel)
def isTup : PyData → Bool
  | .tuple _ => true
  | _ => false
theorem kitT (K : PySem.W.Frag) (d : PyData) : PySem.W.kitOne K (.type (tyD d)) (.type "tuple") = some (isTup d) := by
  cases d with
  | none => exact kit_ty (a := "NoneType") (b := "tuple") (r := false) (by decide +kernel)
  | bool _ => exact kit_ty (a := "bool") (b := "tuple") (r := false) (by decide +kernel)
  | int _ => exact kit_ty (a := "int") (b := "tuple") (r := false) (by decide +kernel)
  | str _ => exact kit_ty (a := "str") (b := "tuple") (r := false) (by decide +kernel)
  | list _ => exact kit_ty (a := "list") (b := "tuple") (r := false) (by decide +kernel)
  | tuple _ => exact kit_ty (a := "tuple") (b := "tuple") (r := true) (by decide +kernel)
  | dict _ => exact kit_ty (a := "dict") (b := "tuple") (r := false) (by decide +kernel)
abbrev sWhole : Stmt := top 22
abbrev sFraction : Stmt := top 24
def spWhole (K : PySem.W.Frag) : Sp := fun vs H Q _ => ∃ (v : V) (d : PyData), vs = [v] ∧ Dp K H v d ∧ Q (.bl (wholeD d)) H
def spBetween (K : PySem.W.Frag) : Sp := fun vs H Q _ => ∃ (v : V) (d : PyData) (lo hi : Int), vs = [v, .int lo, .int hi] ∧ Dp K H v d ∧ Q (.bl (betwD lo hi d)) H
def spFraction (K : PySem.W.Frag) : Sp := fun vs H Q _ => ∃ (v : V) (d : PyData), vs = [v] ∧ Dp K H v d ∧ Q (.bl (fracD d)) H
section
variable {P : Program} {w : World} {K : PySem.W.Frag} {mg : Str → Option Value} {base : Heap} {f : Addr} {fd : FuncData}
theorem sc15 : FnScope ["thing"] ["thing"] (defScope sWhole) := ⟨rfl, rfl, rfl, by decide +kernel, rfl, by decide +kernel, by decide +kernel⟩
theorem ok_whole (F : Fun K "is_whole" "is_whole" sWhole f fd) (T : Blt mg) : FnOk P w K mg base CX0 1 f fd ["thing"] (spWhole K) := by
  refine F.ok sc15 (fun vs H Q E h => ?_) (fun cdv A outer s H vs Q E hr h => ?_)
  · obtain ⟨v, d, rfl, _⟩ := h
    rfl
  · obtain ⟨v, d, rfl, hd, k⟩ := h
    refine ⟨_, pss_one (ps_ret (pe_and (pe_callB call_isi (by rfl) T.isinstance (by decide +kernel) (pa_cons (pv 0) (pa_cons (pe_bltn (v := .ty "int") (by rfl) T.int (by decide +kernel) rfl) pa_nil)))
      (pe_one (pe_not (pe_callB call_isi (by rfl) T.isinstance (by decide +kernel) (pa_cons (pv 0) (pa_cons (pe_bltn (v := .ty "bool") (by rfl) T.bool (by decide +kernel) rfl) pa_nil))))))), ?_⟩
    refine ⟨v, rfl, v, _, _, _, _, rfl, .ty _, hd.ty, kitI K d, _, rfl, ?_⟩
    have second : ∀ b : Bool, wholeD d = (!isBool d) → tNotV (tCB (rIsi K) (tCons (tVar 0) (tCons (tC (.ty "bool")) tNil))) (start ["thing"] [v]) H Q := fun b e => by
      refine ⟨v, rfl, v, _, _, _, _, rfl, .ty _, hd.ty, kitB' K d, _, rfl, ?_⟩
      rw [← e]
      exact k
    cases d with
    | int i => exact iteT (second true rfl)
    | bool b => exact iteT (second true rfl)
    | none => exact iteF k
    | str x => exact iteF k
    | list xs => exact iteF k
    | tuple xs => exact iteF k
    | dict xs => exact iteF k
theorem sc17 : FnScope ["thing", "top", "bottom"] ["thing"] (defScope sFraction) := ⟨rfl, rfl, rfl, by decide +kernel, rfl, by decide +kernel, by decide +kernel⟩
theorem fracD_not {d : PyData} (h : isTup d = false) : fracD d = false := by
  cases d <;> first | rfl | cases h
theorem fracD_len : ∀ {ds : List PyData}, ds.length ≠ 2 → fracD (.tuple ds) = false
  | [], _ => rfl
  | [d], _ => by cases d <;> rfl
  | [_, _], h => absurd rfl h
  | a :: b :: _ :: _, _ => by cases a <;> cases b <;> rfl
theorem fracD_first {d e : PyData} (h : wholeD d = false) : fracD (.tuple [d, e]) = false := by
  cases d <;> first | rfl | cases h
theorem fracD_second {d e : PyData} (h : wholeD e = false) : fracD (.tuple [d, e]) = false := by
  cases d <;> cases e <;> first | rfl | cases h
theorem wholeD_true {d : PyData} (h : wholeD d = true) : ∃ i, d = .int i := by
  cases d with
  | int i => exact ⟨i, rfl⟩
  | _ => cases h
theorem dpAll_len {K : PySem.W.Frag} {H : Hp} : ∀ {ds : List PyData} {xs : List V}, DpAll K H xs ds → xs.length = ds.length
  | [], _, .nil => rfl
  | _ :: _, _, .cons _ r => congrArg Nat.succ (dpAll_len r)
theorem two_of {K : PySem.W.Frag} {H : Hp} {xs : List V} {ds : List PyData} (h : DpAll K H xs ds) (l : xs.length = 2) : ∃ v1 v2 d1 d2, xs = [v1, v2] ∧ ds = [d1, d2] ∧ Dp K H v1 d1 ∧ Dp K H v2 d2 := by
  cases h with
  | nil => cases l
  | cons h1 h2 =>
    cases h2 with
    | nil => cases l
    | cons h3 h4 =>
      cases h4 with
      | nil => exact ⟨_, _, _, _, rfl, rfl, h1, h3⟩
      | cons h5 h6 => simp at l
theorem ok_fraction (F : Fun K "is_fraction" "is_fraction" sFraction f fd) (T : Blt mg) (W : Cal P w K mg base 1 "is_whole" (spWhole K)) : FnOk P w K mg base CX0 2 f fd ["thing"] (spFraction K) := by
  refine F.ok sc17 (fun vs H Q E h => ?_) (fun cdv A outer s H vs Q E hr h => ?_)
  · obtain ⟨v, d, rfl, _⟩ := h
    rfl
  · obtain ⟨v, d, rfl, hd, k⟩ := h
    refine ⟨_, pss_cons (ps_if (PW.pt (pw_or (pt_not (pt_val (pe_callB call_isi (by rfl) T.isinstance (by decide +kernel) (pa_cons (pv 0) (pa_cons (pe_bltn (v := .ty "tuple") (by rfl) T.tuple (by decide +kernel) rfl) pa_nil)))))
        (pw_or1 (pt_cmpR op_ne (pe_callB call_len_seq (by rfl) T.len PySem.boot_len (pa_cons (pv 0) pa_nil)) pe_int (nomark _))))) (pss_one (ps_ret pe_bl)) pss_nil)
      (pss_cons (ps_asg (pv 0) (pg_tup rfl (pgs_cons (pg_name (i := 1) sc17.nd rfl (.inl rfl)) (pgs_cons (pg_name (i := 2) sc17.nd rfl (.inl rfl)) pgs_nil))))
      (pss_one (ps_ret (pe_and (pe_n W hr (by decide) (by rfl) (pa_cons (pv 1) pa_nil)) (pe_and (pe_n W hr (by decide) (by rfl) (pa_cons (pv 2) pa_nil))
        (pe_and (pe_cmpR op_ge (pv 2) pe_int (nomark _)) (pe_one (pe_cmpR op_eq (pe_callBfun cr_gcd (by rfl) T.gcd (pa_cons (pv 1) (pa_cons (pv 2) pa_nil))) pe_int (nomark _))))))))), ?_⟩
    refine ⟨v, rfl, v, _, _, _, _, rfl, .ty _, hd.ty, kitT K d, _, rfl, ?_⟩
    cases ht : isTup d with
    | false =>
      rw [fracD_not ht] at k
      exact iteT (iteT k)
    | true =>
      refine iteF ?_
      cases hd with
      | tup hS hA =>
        rename_i a xs ds
        refine ⟨_, rfl, a, _, rfl, .inr hS, rfl, _, rfl, ?_⟩
        refine ite2 (fun c => ?_) (fun c => ?_)
        · have l := dpAll_len hA
          rw [fracD_len (fun z => by rw [← l] at z; simp [z] at c)] at k
          exact k
        · have l := dpAll_len hA
          have l2 : xs.length = 2 := by
            have c2 : ((xs.length : Nat) : Int) = 2 := by simpa using c
            omega
          obtain ⟨v1, v2, d1, d2, rfl, rfl, h1, h2⟩ := two_of hA l2
          refine ⟨_, rfl, a, [v1, v2], rfl, hS, rfl, v1, [v2], rfl, v2, [], rfl, rfl, ?_⟩
          refine ⟨_, rfl, v1, d1, rfl, h1, _, rfl, ?_⟩
          cases hw1 : wholeD d1 with
          | false =>
            rw [fracD_first hw1] at k
            exact iteF k
          | true =>
            refine iteT ⟨_, rfl, v2, d2, rfl, h2, _, rfl, ?_⟩
            cases hw2 : wholeD d2 with
            | false =>
              rw [fracD_second hw2] at k
              exact iteF k
            | true =>
              obtain ⟨i1, rfl⟩ := wholeD_true hw1
              obtain ⟨i2, rfl⟩ := wholeD_true hw2
              cases h1
              cases h2
              have e : fracD (.tuple [.int i1, .int i2]) = (decide (1 ≤ i2) && decide (gI i1 i2 = 1)) := rfl
              refine iteT ⟨_, rfl, _, _, rfl, rfl, _, rfl, ?_⟩
              refine ite2 (fun c1 => ⟨_, rfl, _, rfl, i1, i2, rfl, rfl, ?_⟩) (fun c1 => ?_)
              · rw [e, show decide (1 ≤ i2) = true from c1, Bool.true_and] at k
                have e3 : decide (V.int ((Nat.gcd i1.natAbs i2.natAbs : Nat) : Int) = V.int 1) = decide (gI i1 i2 = 1) := by
                  unfold gI
                  simp only [V.int.injEq]
                rw [← e3] at k
                exact k
              · rw [e, show decide (1 ≤ i2) = false from Bool.eq_false_iff.mpr c1, Bool.false_and] at k
                exact k
      | non => cases ht
      | bl b => cases ht
      | int b => cases ht
      | str b => cases ht
      | lst _ _ => cases ht
end
end Rs


set_option Elab.async false
set_option linter.all false
set_option maxRecDepth 100000
set_option maxHeartbeats 400000
namespace Rs
open PySem L2 Bs Fq
theorem heap_end {H : Hp} {a d : Addr} {o1 o2 o3 o4 : HO} (h : H a = none) (n : d ≠ a) : upd (del (upd (upd (upd H a o1) d o2) a o3) a) d o4 = upd H d o4 := by
  funext b
  by_cases e1 : b = d
  · subst e1
    rw [upd_same, upd_same]
  · rw [upd_ne e1, upd_ne e1]
    by_cases e2 : b = a
    · subst e2
      rw [del_same, h]
    · rw [del_ne e2, upd_ne e2, upd_ne e1, upd_ne e2]
theorem pe_weak {X : Cx} {e : Expr} {te : TE} (he : PE X e te) : PE X e (fun σ H Q => ∃ Q0 : VK, te σ H Q0 ∧ ∀ v H1, Q0 v H1 → Q v H1) :=
  ⟨fun pins s σ H Q I ⟨Q0, h, m⟩ => PySem.wpAny_mono (he.run pins s σ H Q0 I h) (fun u s' ⟨v, H1, I1, r, q⟩ => ⟨v, H1, I1, r, m _ _ q⟩) (fun _ _ z => z)⟩
end Rs


set_option Elab.async false
set_option linter.all false
set_option maxRecDepth 100000
set_option maxHeartbeats 400000
namespace Rs
open PySem L2 Bs Fq
theorem dp_fr {K : PySem.W.Frag} {H : Hp} {v : V} {q : F} (h : Dp K H v (dF q)) : Fr K H v q := by
  cases h with
  | tup s a =>
    cases a with
    | cons h1 h2 =>
      cases h2 with
      | cons h3 h4 =>
        cases h4
        cases h1
        cases h3
        exact ⟨_, rfl, s⟩
/-- the module's NOUGHT -/
structure Nou (K : PySem.W.Frag) (mg : Str → Option Value) : Prop where
  ex : ∃ a : Addr, mg "NOUGHT" = some (.ref a) ∧ ∀ H : Hp, SqT K H a [.int 0, .int 1]
end Rs


set_option Elab.async false
set_option linter.all false
set_option maxRecDepth 100000
set_option maxHeartbeats 400000
namespace Rs
open PySem L2 Bs Fq
abbrev sMixed : Stmt := top 72
def spMixed : Sp := fun vs H Q _ => ∃ (c k : Int), vs = [.int c, .int k] ∧ 0 ≤ k ∧ k ≤ 100000 ∧ ∀ r : Int, 0 ≤ r → r < 2147483629 → Q (.int r) H
/-- the law's own numbers: any size that a reckoning may have -/
structure Dl (q : F) : Prop where
  big : Lt2 4400 q.1
  pos : 0 < q.2
  low : Lt2 4400 q.2
/-- the law's quotient, the divisor above nought -/
def divL (q r : F) : F := red (q.1 * r.2) (q.2 * r.1)
section
variable {P : Program} {w : World} {K : PySem.W.Frag} {mg : Str → Option Value} {base : Heap} {f : Addr} {fd : FuncData}
theorem scMixed : FnScope ["cell", "k"] ["cell", "k"] (defScope sMixed) := ⟨rfl, rfl, rfl, by decide +kernel, rfl, by decide +kernel, by decide +kernel⟩
theorem ok_mixed (F : Fun K "_law_mixed" "_law_mixed" sMixed f fd) (T : Blt mg) : FnOk P w K mg base CX0 1 f fd ["cell", "k"] spMixed := by
  refine F.ok scMixed (fun vs H Q E h => ?_) (fun cdv A outer s H vs Q E hr h => ?_)
  · obtain ⟨c, k, rfl, _⟩ := h
    rfl
  · obtain ⟨c, k, rfl, k0, k1, g⟩ := h
    refine ⟨_, pss_cons (ps_set (i := 0) scMixed.nd rfl (Or.inl rfl) (pe_op op_mod (pe_callTy call_int1 (by rfl) T.int (by decide +kernel) (pa_cons (pv 0) pa_nil)) pe_int))
      (pss_one (ps_ret (pe_op op_mod (pe_op op_mul (pe_op op_mod (pe_op op_add (pe_op op_add (pe_op op_mul (pv 0) (pe_op op_add pe_int (pe_op op_mul (pe_op op_mul pe_int (pv 1)) (pv 1)))) (pe_op op_mul pe_int (pv 1))) pe_int) pe_int) pe_int) pe_int))), ?_⟩
    refine ⟨_, rfl, .inl ⟨c, rfl, _, _, rfl, rfl, (by show (0 : Int) < 2147483647; decide), ?_⟩⟩
    have m0 := Int.emod_nonneg c (b := 2147483647) (by decide)
    have m1 := Int.emod_lt_of_pos c (b := 2147483647) (by decide)
    refine ⟨_, rfl, _, rfl, _, _, rfl, rfl, .inl ⟨by decide, by decide⟩, _, rfl, _, _, rfl, rfl, .inr ⟨by omega, by omega⟩, _, _, rfl, rfl, _, _, rfl, rfl, .inl ⟨by omega, by omega⟩, _, rfl, _, _, rfl, rfl, .inl ⟨by decide, by decide⟩, _, _, rfl, rfl, _, _, rfl, rfl,
      _, _, rfl, rfl, (by show (0 : Int) < 2147483647; decide), _, _, rfl, rfl, .inr ⟨by decide, by decide⟩, _, _, rfl, rfl, (by show (0 : Int) < 2147483629; decide), ?_⟩
    exact g _ (Int.emod_nonneg _ (by decide)) (Int.emod_lt_of_pos _ (by decide))
end
end Rs


set_option Elab.async false
set_option linter.all false
set_option maxRecDepth 100000
set_option maxHeartbeats 400000
namespace Rs
open PySem L2 Bs Fq
abbrev sDivided : Stmt := top 17
def domP (q r : F) : Prop := Dm q ∧ Dm r ∧ 0 < r.1
section
variable {P : Program} {w : World} {K : PySem.W.Frag} {mg : Str → Option Value} {base : Heap} {f : Addr} {fd : FuncData}
theorem scDivided : FnScope ["one", "other"] ["one", "other"] (defScope sDivided) := ⟨rfl, rfl, rfl, by decide +kernel, rfl, by decide +kernel, by decide +kernel⟩
theorem ok_divided (F : Fun K "divided" "divided" sDivided f fd) (C : Cal P w K mg base 1 "reduced" spReduced) : FnOk P w K mg base CX0 2 f fd ["one", "other"] (spOp K divL domP) := by
  refine F.ok scDivided (fun vs H Q E h => ?_) (fun cdv A outer s H vs Q E hr h => ?_)
  · obtain ⟨x, y, q, r, rfl, _⟩ := h
    rfl
  · obtain ⟨x, y, q, r, rfl, ⟨a, rfl, h1⟩, ⟨b, rfl, h2⟩, ⟨d1, d2, n0⟩, k⟩ := h
    refine ⟨_, pss_one (ps_ret (pe_n C hr (by decide) (by rfl) (pa_cons (pe_op op_mulW (pe_ix ix_tup (pv 0) pe_int (fun _ _ => rfl)) (pe_ix ix_tup (pv 1) pe_int (fun _ _ => rfl)))
      (pa_cons (pe_op op_mulW (pe_ix ix_tup (pv 0) pe_int (fun _ _ => rfl)) (pe_ix ix_tup (pv 1) pe_int (fun _ _ => rfl))) pa_nil)))), ?_⟩
    refine ⟨_, rfl, a, _, _, _, rfl, rfl, h1, atI_nat (j := 0) rfl, _, rfl, b, _, _, _, rfl, rfl, h2, atI_nat (j := 1) rfl, _, _, rfl, rfl, d1.big.c d2.l2,
      _, rfl, a, _, _, _, rfl, rfl, h1, atI_nat (j := 1) rfl, _, rfl, b, _, _, _, rfl, rfl, h2, atI_nat (j := 0) rfl, _, _, rfl, rfl, d1.l2.c d2.big, ?_⟩
    exact ⟨_, _, rfl, Int.mul_pos d1.pos n0, lt2m d1.low d2.big, fun p hp => k p hp⟩
end
end Rs


set_option Elab.async false
set_option linter.all false
set_option maxRecDepth 100000
set_option maxHeartbeats 400000
namespace Rs
open PySem L2 Bs Fq
abbrev sBegin : Stmt := top 73
abbrev sDraw : Stmt := top 74
def dS (c l : Addr) (t : Int) : List (Key × V) := [(Sum.inr "cells", .ref c), (Sum.inr "lefts", .ref l), (Sum.inr "at", .int t), (Sum.inr "room", .int 0)]
theorem val_cells (c l : Addr) (t : Int) : valV (dS c l t) (Sum.inr "cells") = some (.ref c) := by rfl
theorem val_lefts (c l : Addr) (t : Int) : valV (dS c l t) (Sum.inr "lefts") = some (.ref l) := by rfl
theorem val_at (c l : Addr) (t : Int) : valV (dS c l t) (Sum.inr "at") = some (.int t) := by rfl
theorem put_at (c l : Addr) (t u : Int) : putK (dS c l t) (Sum.inr "at") (.int u) = dS c l u := by rfl
structure Sta (H : Hp) (p c l : Addr) (n : Nat) (t : Int) : Prop where
  d : H p = some (.dK (dS c l t))
  cs : ∃ cs : List Int, H c = some (.lst (cs.map V.int)) ∧ cs.length = n
  ls : ∃ ls : List Int, H l = some (.lst (ls.map V.int)) ∧ ls.length = n ∧ ∀ z ∈ ls, 0 ≤ z
  ne : c ≠ l
  n1 : 1 ≤ n
  n2 : n ≤ 63
  t0 : 0 ≤ t
section
variable {H H' : Hp} {p c l : Addr} {n : Nat} {t : Int}
theorem Sta.gCells (S : Sta H p c l n t) : DGet H p (.str "cells") (some (.ref c)) := by
  have := DGet.k (k := (Sum.inr "cells" : Key)) S.d
  rwa [val_cells] at this
theorem Sta.gLefts (S : Sta H p c l n t) : DGet H p (.str "lefts") (some (.ref l)) := by
  have := DGet.k (k := (Sum.inr "lefts" : Key)) S.d
  rwa [val_lefts] at this
theorem Sta.gAt (S : Sta H p c l n t) : DGet H p (.str "at") (some (.int t)) := by
  have := DGet.k (k := (Sum.inr "at" : Key)) S.d
  rwa [val_at] at this
theorem Sta.pc (S : Sta H p c l n t) : p ≠ c := by
  obtain ⟨cs, h, _⟩ := S.cs
  exact ne_of S.d h (by intro z; cases z)
theorem Sta.pl (S : Sta H p c l n t) : p ≠ l := by
  obtain ⟨ls, h, _⟩ := S.ls
  exact ne_of S.d h (by intro z; cases z)
theorem Sta.mono (S : Sta H p c l n t) (e : Same H H') : Sta H' p c l n t := by
  obtain ⟨cs, a1, a2⟩ := S.cs
  obtain ⟨ls, b1, b2⟩ := S.ls
  exact ⟨e _ _ S.d, ⟨cs, e _ _ a1, a2⟩, ⟨ls, e _ _ b1, b2⟩, S.ne, S.n1, S.n2, S.t0⟩
/-- the state alone was changed -/
def Kp (p l : Addr) (H H' : Hp) : Prop := ∀ b o, H b = some o → b ≠ p → b ≠ l → H' b = some o
theorem Kp.trans {H1 H2 H3 : Hp} (a : Kp p l H1 H2) (b : Kp p l H2 H3) : Kp p l H1 H3 := fun x o e n1 n2 => b x o (a x o e n1 n2) n1 n2
theorem Kp.of (e : Same H H') : Kp p l H H' := fun x o h _ _ => e x o h
theorem Kp.fr {K : PySem.W.Frag} {v : V} {q : F} (k : Kp p l H H') (S : Sta H p c l n t) (h : Fr K H v q) : Fr K H' v q := by
  obtain ⟨a, rfl, s⟩ := h
  obtain ⟨ls, b1, _⟩ := S.ls
  refine ⟨a, rfl, ?_⟩
  rcases s with (s | ⟨o, s⟩) | s
  · exact .inl (.inl (k a _ s (ne_of s S.d (by intro z; cases z)) (ne_of s b1 (by intro z; cases z))))
  · exact .inl (.inr ⟨o, k a _ s (ne_of s S.d (by intro z; cases z)) (ne_of s b1 (by intro z; cases z))⟩)
  · exact .inr s
end
/-- _law_draw(state, many) -/
def spDraw : Sp := fun vs H Q _ => ∃ (p c l : Addr) (n : Nat) (t m : Int), vs = [.ref p, .int m] ∧ Sta H p c l n t ∧ t ≤ 10000 ∧ 1 ≤ m ∧ m < 1000000 ∧
  ∀ (H' : Hp) (r : Int), 0 ≤ r → r < m → Sta H' p c l n (t + 1) → Kp p l H H' → Q (.int r) H'
section
variable {P : Program} {w : World} {K : PySem.W.Frag} {mg : Str → Option Value} {base : Heap} {f : Addr} {fd : FuncData}
theorem scDraw : FnScope ["state", "many", "at", "place", "left", "number"] ["state", "many"] (defScope sDraw) := ⟨rfl, rfl, rfl, by decide +kernel, rfl, by decide +kernel, by decide +kernel⟩
theorem int_at {cs : List Int} {i : Nat} (h : i < cs.length) : ∃ z, cs[i]? = some z ∧ (cs.map V.int)[i]? = some (V.int z) := by
  refine ⟨cs[i], List.getElem?_eq_getElem h, ?_⟩
  rw [List.getElem?_map, List.getElem?_eq_getElem h]
  rfl
theorem ok_draw (F : Fun K "_law_draw" "_law_draw" sDraw f fd) (T : Blt mg) (C : Cal P w K mg base 1 "_law_mixed" spMixed) : FnOk P w K mg base CX0 2 f fd ["state", "many"] spDraw := by
  refine F.ok scDraw (fun vs H Q E h => ?_) (fun cdv A outer s H vs Q E hr h => ?_)
  · obtain ⟨p, c, l, n, t, m, rfl, _⟩ := h
    rfl
  · obtain ⟨p, c, l, n, t, m, rfl, S, ht, m1, m2, k⟩ := h
    have hu := hu_of hr
    refine ⟨_, pss_cons (ps_set (i := 2) scDraw.nd rfl (Or.inl rfl) (pe_dget hu (pv 0) pe_str (fun _ _ => rfl)))
      (pss_cons (ps_dput hu (pv 0) pe_str (pe_op op_add (pv 2) pe_int) rfl)
      (pss_cons (ps_set (i := 3) scDraw.nd rfl (Or.inl rfl) (pe_op op_mod (pe_callTy call_int1 (by rfl) T.int (by decide +kernel) (pa_cons (pv 2) pa_nil)) (pe_callB call_len_seq (by rfl) T.len PySem.boot_len (pa_cons (pe_dget hu (pv 0) pe_str (fun _ _ => rfl)) pa_nil))))
      (pss_cons (ps_set (i := 4) scDraw.nd rfl (Or.inl rfl) (pe_ix ix_list (pe_dget hu (pv 0) pe_str (fun _ _ => rfl)) (pv 3) (fun _ _ => rfl)))
      (pss_cons (ps_if (pt_cmpR op_gt (pv 4) pe_int (nomark _))
        (pss_cons (ps_asg (pe_op op_fdivN (pv 4) (pv 1)) (pg_sub (pe_dget hu (pv 0) pe_str (fun _ _ => rfl)) (pv 3) set_list))
          (pss_one (ps_ret (pe_op op_mod (pe_callTy call_int1 (by rfl) T.int (by decide +kernel) (pa_cons (pv 4) pa_nil)) (pv 1))))) pss_nil)
      (pss_cons (ps_set (i := 5) scDraw.nd rfl (Or.inl rfl) (pe_n C hr (by decide) (by rfl) (pa_cons (pe_n C hr (by decide) (by rfl) (pa_cons (pe_ix ix_list (pe_dget hu (pv 0) pe_str (fun _ _ => rfl)) (pv 3) (fun _ _ => rfl)) (pa_cons (pv 2) pa_nil))) (pa_cons (pe_op op_add pe_int (pv 2)) pa_nil))))
      (pss_one (ps_ret (pe_op op_mod (pe_op op_fdiv (pe_callTy call_int1 (by rfl) T.int (by decide +kernel) (pa_cons (pe_op op_add (pe_op op_mul (pv 5) pe_int) (pe_n C hr (by decide) (by rfl) (pa_cons (pv 5) (pa_cons (pe_op op_add pe_int (pv 2)) pa_nil)))) pa_nil)) pe_int) (pv 1))))))))), ?_⟩
    refine ⟨_, rfl, p, _, rfl, S.gAt, ?_⟩
    have S1 : Sta (upd H p (.dK (dS c l (t + 1)))) p c l n (t + 1) := by
      obtain ⟨cs, a1, a2⟩ := S.cs
      obtain ⟨ls, b1, b2, b3⟩ := S.ls
      exact ⟨upd_same, ⟨cs, by rw [upd_ne S.pc.symm]; exact a1, a2⟩, ⟨ls, by rw [upd_ne S.pl.symm]; exact b1, b2, b3⟩, S.ne, S.n1, S.n2, by have := S.t0; omega⟩
    have k1 : Kp p l H (upd H p (.dK (dS c l (t + 1)))) := fun b o e n1 _ => (upd_ne n1).trans e
    refine ⟨_, rfl, _, _, rfl, rfl, _, rfl, p, _, rfl, DPut.k (k := Sum.inr "at") S.d (by show 4 < sizeLine; decide), ?_⟩
    rw [put_at]
    generalize upd H p (.dK (dS c l (t + 1))) = H1 at S1 k1 ⊢
    obtain ⟨cs, a1, a2⟩ := S1.cs
    obtain ⟨ls, b1, b2, b3⟩ := S1.ls
    have n1 := S.n1
    have t0 := S.t0
    have r0 := Int.emod_nonneg t (b := (n : Int)) (by omega)
    have r1 := Int.emod_lt_of_pos t (b := (n : Int)) (by omega)
    obtain ⟨i, hi⟩ : ∃ i : Nat, t % (n : Int) = (i : Int) := ⟨(t % (n : Int)).toNat, by omega⟩
    have hin : i < n := by omega
    obtain ⟨zc, c1, c2⟩ := int_at (cs := cs) (i := i) (by omega)
    obtain ⟨zl, l1, l2⟩ := int_at (cs := ls) (i := i) (by omega)
    have zl0 : 0 ≤ zl := b3 zl (List.mem_of_getElem? l1)
    refine ⟨_, rfl, .inl ⟨t, rfl, _, rfl, p, _, rfl, S1.gCells, c, _, rfl, .inl (SqL.of a1), _, _, rfl, rfl, ?_, ?_⟩⟩
    · show (0 : Int) < ((cs.map V.int).length : Nat)
      rw [List.length_map, a2]
      omega
    · rw [List.length_map, a2]
      have l3 : atI (ls.map V.int) (t % (n : Int)) = some (V.int zl) := by
        rw [hi]
        exact atI_nat l2
      have c3 : atI (cs.map V.int) (t % (n : Int)) = some (V.int zc) := by
        rw [hi]
        exact atI_nat c2
      have hix : ixN (ls.map V.int).length (t % (n : Int)) = some i := by
        rw [hi, List.length_map, b2]
        unfold ixN
        rw [if_pos (by omega), if_pos (by omega)]
        simp
      refine ⟨_, rfl, p, _, rfl, S1.gLefts, _, rfl, l, _, _, _, rfl, rfl, SqL.of b1, l3, ?_⟩
      refine ⟨_, rfl, _, _, rfl, rfl, _, rfl, ?_⟩
      refine ite2 (fun q => ?_) (fun q => ?_)
      · refine ⟨_, rfl, _, rfl, _, _, rfl, rfl, ⟨by omega, by omega⟩, ?_⟩
        refine ⟨_, rfl, p, _, rfl, S1.gLefts, _, rfl, l, _, _, i, rfl, rfl, b1, hix, ?_⟩
        refine ⟨_, rfl, .inl ⟨zl, rfl, _, rfl, _, _, rfl, rfl, (by show (0 : Int) < m; omega), ?_⟩⟩
        refine k _ _ (Int.emod_nonneg _ (by omega)) (Int.emod_lt_of_pos _ (by omega)) ⟨?_, ⟨cs, ?_, a2⟩, ⟨ls.set i (zl.fdiv m), ?_, ?_, ?_⟩, S1.ne, S1.n1, S1.n2, S1.t0⟩ (k1.trans (fun b o e _ n2 => (upd_ne n2).trans e))
        · rw [upd_ne S1.pl]
          exact S1.d
        · rw [upd_ne S1.ne]
          exact a1
        · rw [upd_same, List.map_set]
        · rw [List.length_set, b2]
        · intro z hz
          rcases List.mem_or_eq_of_mem_set hz with h | h
          · exact b3 z h
          · rw [h, Int.fdiv_eq_ediv_of_nonneg _ (by omega)]
            exact Int.ediv_nonneg zl0 (by omega)
      · refine ⟨_, rfl, p, _, rfl, S1.gCells, _, rfl, c, _, _, _, rfl, rfl, SqL.of a1, c3, _, rfl, zc, t, rfl, t0, by omega, fun x x0 x1 => ?_⟩
        refine ⟨_, rfl, _, _, rfl, rfl, x, 40 + t, rfl, by omega, by omega, fun y y0 y1 => ?_⟩
        refine ⟨_, rfl, _, _, rfl, rfl, .inl ⟨by omega, by omega⟩, _, rfl, _, rfl, _, _, rfl, rfl, y, 7 + t, rfl, by omega, by omega, fun z z0 z1 => ?_⟩
        refine ⟨_, _, rfl, rfl, .inl ⟨_, rfl, _, _, rfl, rfl, ⟨by decide, by decide⟩, _, rfl, _, _, rfl, rfl, (by show (0 : Int) < m; omega), ?_⟩⟩
        exact k _ _ (Int.emod_nonneg _ (by omega)) (Int.emod_lt_of_pos _ (by omega)) S1 k1
end
end Rs


set_option Elab.async false
set_option linter.all false
set_option maxRecDepth 100000
set_option maxHeartbeats 400000
namespace Rs
open PySem L2 Bs Fq
/-- _law_begin(script) -/
def spBegin (K : PySem.W.Frag) : Sp := fun vs H Q _ => ∃ (a : Addr) (ns : List Int), vs = [.ref a] ∧ SqL K H a (ns.map V.int) ∧ ns.length ≤ 63 ∧
  ∀ (H' : Hp) (p c l : Addr) (n : Nat), Same H H' → H p = none → H l = none → Sta H' p c l n 0 → Q (.ref p) H'
section
variable {P : Program} {w : World} {K : PySem.W.Frag} {mg : Str → Option Value} {base : Heap} {f : Addr} {fd : FuncData}
theorem scBegin : FnScope ["script", "cells", "cell"] ["script"] (defScope sBegin) := ⟨rfl, rfl, rfl, by decide +kernel, rfl, by decide +kernel, by decide +kernel⟩
theorem dp_ints {K : PySem.W.Frag} {H : Hp} : ∀ ns : List Int, DpAll K H (ns.map V.int) (ns.map PyData.int)
  | [] => .nil
  | n :: ns => .cons (.int n) (dp_ints ns)
def left (z : Int) : Int := if z ≥ 10 ^ 18 then z else 0
theorem left_nonneg (z : Int) : 0 ≤ left z := by
  unfold left
  split
  · have : (0 : Int) ≤ 10 ^ 18 := by decide
    omega
  · omega
theorem can_ints : ∀ ns : List Int, PyData.canLayAll0 (ns.map PyData.int) = true
  | [] => by simp [PyData.canLayAll0]
  | n :: ns => by
    have := can_ints ns
    simp [PyData.canLayAll0, PyData.canLay0, this]
theorem dep_ints : ∀ ns : List Int, PyData.depthAll (ns.map PyData.int) ≤ 1
  | [] => by simp [PyData.depthAll]
  | n :: ns => by
    have := dep_ints ns
    simp only [List.map_cons, PyData.depthAll, PyData.depth]
    omega
theorem shaped_ints (ns : List Int) : SeqAt.shaped (.list (ns.map PyData.int)) = true := by
  unfold SeqAt.shaped
  rw [Bool.and_eq_true_iff]
  refine ⟨?_, decide_eq_true ?_⟩
  · simpa [PyData.canLay0] using can_ints ns
  · have := dep_ints ns
    simp only [PyData.depth]
    omega
theorem some_int {cs : List Int} {i : Nat} {x : V} (h : (cs.map V.int)[i]? = some x) : ∃ z, cs[i]? = some z ∧ x = V.int z := by
  rw [List.getElem?_map] at h
  cases e : cs[i]? with
  | none =>
    rw [e] at h
    cases h
  | some z =>
    rw [e] at h
    exact ⟨z, rfl, (Option.some.inj h).symm⟩
theorem take_one {α : Type} {l : List α} {i : Nat} {x : α} (h : l[i]? = some x) : l.take (i + 1) = l.take i ++ [x] := by
  rw [List.take_add_one, h]
  rfl
theorem ok_begin (F : Fun K "_law_begin" "_law_begin" sBegin f fd) (T : Blt mg) : FnOk P w K mg base CX0 2 f fd ["script"] (spBegin K) := by
  refine F.ok scBegin (fun vs H Q E h => ?_) (fun cdv A outer s H vs Q E hr h => ?_)
  · obtain ⟨a, ns, rfl, _⟩ := h
    rfl
  · obtain ⟨a, ns, rfl, hS, hl, k⟩ := h
    refine ⟨_, C8.pss_cut (ps_set (i := 1) scBegin.nd rfl (Or.inl rfl) (pe_ifExp (pt_cmpR (op_neD hr.units) (pv 0) (pe_lst pa_nil) (nomark _)) (pe_callTy call_list_of (by rfl) T.list (by decide +kernel) (pa_cons (pv 0) pa_nil)) (pe_lst (pa_cons pe_int pa_nil))))
      (pss_one (ps_ret (pe_disp (pps_cons pe_str (pv 1) (pps_cons pe_str (pe_lc (own := [("cell", 2)]) (g := gName 2) (tt := tYes) rfl scBegin.nd (pi_list (pv 1)) (blkOk_by (N := ["script", "cells", "cell"]) (sc := defScope sBegin) (by decide +kernel))
          (fun _ _ _ _ _ => pg_name (i := 2) scBegin.nd rfl (Or.inl rfl)) (fun _ _ _ _ _ => pts_nil) (fun _ _ _ _ _ => pe_ifExp (pt_cmpR op_ge (pv 2) (pe_op op_pow pe_int pe_int) (nomark _)) (pv 2) pe_int))
        (pps_cons pe_str pe_int (pps_cons pe_str pe_int pps_nil)))) (by rfl) (by rfl) (fun z => by cases z) (by decide)))), ?_⟩
    refine ⟨fun σ H1 => ∃ (c : Addr) (cs : List Int), Same H H1 ∧ H1 c = some (.lst (cs.map V.int)) ∧ 1 ≤ cs.length ∧ cs.length ≤ 63 ∧ σ = [some (V.ref a), some (V.ref c), none], ?_, ?_⟩
    · refine ⟨_, rfl, (by show 0 ≤ sizeLine; decide), fun p0 hp0 => ?_⟩
      have s0 : Same H (upd H p0 (.lst [])) := same_new hp0
      refine ⟨.list (ns.map PyData.int), .list [], .lst (s0.seq hS) (dp_ints ns), .lst (SqL.of upd_same) .nil, ?_, rfl, _, rfl, ?_⟩
      · exact shaped_ints ns
      · have e : PyData.eqv (.list (ns.map PyData.int)) (.list []) = ns.isEmpty := by
          cases ns <;> rfl
        show if (!PyData.eqv (.list (ns.map PyData.int)) (.list [])) = true then _ else _
        rw [e]
        cases hn : ns with
        | nil =>
          refine iteF ⟨(by show 1 ≤ sizeLine; decide), fun p1 hp1 => ?_⟩
          exact ⟨p1, [0], s0.trans (same_new hp1), upd_same, Nat.le_refl _, (by show 1 ≤ 63; decide), rfl⟩
        | cons n ns' =>
          refine iteT ⟨_, rfl, a, _, rfl, .inl (s0.seq hS), fun p1 hp1 => ?_⟩
          exact ⟨p1, ns, s0.trans (same_new hp1), upd_same, by rw [hn]; exact Nat.succ_le_succ (Nat.zero_le _), hl, rfl⟩
    · rintro σ H1 ⟨c, cs, s1, hc, l1, l2, rfl⟩
      intro p hp
      have sp : Same H1 (upd H1 p (.dK [])) := same_new hp
      refine ⟨_, rfl, ?_⟩
      have np : H1 p = none := hp
      have hpc : c ≠ p := ne_of_none hc np
      refine ⟨_, rfl, c, rfl, ⟨_, SqL.of (sp _ _ hc)⟩, fun D hD => lc_list (K := K) (a := c) (xs := cs.map V.int)
        (fun i H2 => Same (upd H1 p (.dK [])) H2 ∧ H2 D = some (.lst ((cs.take i).map (fun z => V.int (left z))))) ⟨same_new hD, upd_same⟩ (fun i H2 _ z => SqL.of (z.1 _ _ (sp _ _ hc))) ?_ ?_⟩
      · rintro i x H2 hx ⟨s2, hD2⟩
        obtain ⟨z, hz, rfl⟩ := some_int hx
        have ln : (cs.take i).length ≤ 63 := by rw [List.length_take]; omega
        have fin : ∀ u : Int, u = left z → ∃ acc, H2 D = some (.lst acc) ∧ acc.length < sizeLine ∧ (Same (upd H1 p (.dK [])) (upd H2 D (.lst (acc ++ [V.int u]))) ∧ upd H2 D (.lst (acc ++ [V.int u])) D = some (.lst ((cs.take (i + 1)).map (fun z => V.int (left z))))) := by
          rintro u rfl
          refine ⟨_, hD2, by rw [List.length_map]; exact small1000 (by omega), fun b o e => ?_, ?_⟩
          · have : b ≠ D := ne_of_none e hD
            exact (upd_ne this).trans (s2 b o e)
          · rw [upd_same, take_one hz, List.map_append]
            rfl
        refine ⟨rfl, ?_⟩
        refine iteT (B := Same (upd H1 p (.dK [])) H2 ∧ H2 D = some (.lst ((cs.take (i + 1)).map (fun z => V.int (left z))))) ?_
        refine ⟨_, rfl, _, _, rfl, rfl, ⟨by decide, by decide, by decide⟩, _, _, rfl, rfl, _, rfl, ?_⟩
        refine ite2 (fun q => ⟨_, rfl, ?_⟩) (fun q => ?_)
        · have q' : z ≥ 10 ^ 18 := of_decide_eq_true q
          exact fin z (show z = left z from (if_pos q').symm)
        · have q' : ¬ z ≥ 10 ^ 18 := fun w => q (decide_eq_true w)
          exact fin 0 (show 0 = left z from (if_neg q').symm)
      · rintro H2 ⟨s2, hD2⟩
        have hpD : p ≠ D := by
          intro z
          rw [← z, upd_same] at hD
          cases hD
        rw [List.length_map, List.take_length] at hD2
        refine ⟨s2 _ _ upd_same, dS c D 0, rfl, (by show 4 ≤ 15; decide), ?_⟩
        have hDn : H1 D = none := by
          rw [upd_ne hpD.symm] at hD
          exact hD
        refine k _ p c D cs.length ?_ ?_ ?_ ⟨upd_same, ⟨cs, ?_, rfl⟩, ⟨cs.map left, ?_, by rw [List.length_map], ?_⟩, ne_of_none hc hDn, l1, l2, Int.le_refl _⟩
        · intro b o e
          have nb : b ≠ p := ne_of_none (s1 b o e) np
          rw [upd_ne nb]
          exact s2 b o (sp b o (s1 b o e))
        · exact s1.free np
        · exact s1.free hDn
        · rw [upd_ne hpc]
          exact s2 _ _ (sp _ _ hc)
        · rw [upd_ne hpD.symm, hD2, List.map_map]
          rfl
        · intro z hz
          obtain ⟨y, _, rfl⟩ := List.mem_map.mp hz
          exact left_nonneg y
end
end Rs


set_option Elab.async false
set_option linter.all false
set_option maxRecDepth 100000
set_option maxHeartbeats 400000
namespace Rs
open PySem L2 Bs Fq
theorem Kp.lst {K : PySem.W.Frag} {H H' : Hp} {p c l b : Addr} {n : Nat} {t : Int} {xs : List V} (k : Kp p l H H') (S : Sta H p c l n t) (h : SqL K H b xs) (nb : b ≠ l) : SqL K H' b xs := by
  rcases h with (s | ⟨o, s⟩) | s
  · exact .inl (.inl (k b _ s (ne_of s S.d (by intro z; cases z)) nb))
  · exact .inl (.inr ⟨o, k b _ s (ne_of s S.d (by intro z; cases z)) nb⟩)
  · exact .inr s
end Rs


set_option linter.all false
namespace Fq
/-- worth a divided by b -/
def Vl (q : F) (a b : Int) : Prop := q.1 * b = a * q.2
theorem vl_red {a b : Int} (h : 0 < b) : Vl (red a b) a b := by
  have hg := gI_pos (a := a) (b := b) (by omega)
  obtain ⟨x, hx⟩ := gI_dvd_l a b
  obtain ⟨y, hy⟩ := gI_dvd_r a b
  have e1 : a / gI a b = x := Int.ediv_eq_of_eq_mul_right (by omega) hx
  have e2 : b / gI a b = y := Int.ediv_eq_of_eq_mul_right (by omega) hy
  show (a / gI a b) * b = a * (b / gI a b)
  rw [e1, e2]
  generalize gI a b = g at *
  subst hx hy
  grind
theorem mul_cancel {a b m : Int} (hm : m ≠ 0) (h : a * m = b * m) : a = b := Int.eq_of_mul_eq_mul_right hm h
theorem vl_add {q r : F} {a b c d : Int} (hq : 0 < q.2) (hr : 0 < r.2) (h1 : Vl q a b) (h2 : Vl r c d) : Vl (add q r) (a * d + c * b) (b * d) := by
  have hm : 0 < q.2 * r.2 := Int.mul_pos hq hr
  have v := vl_red (a := q.1 * r.2 + r.1 * q.2) hm
  unfold Vl at *
  show (red _ _).1 * _ = _ * (red _ _).2
  generalize red (q.1 * r.2 + r.1 * q.2) (q.2 * r.2) = s at *
  refine mul_cancel (m := q.2 * r.2) (by omega) ?_
  generalize q.1 = q1 at *; generalize q.2 = q2 at *; generalize r.1 = r1 at *; generalize r.2 = r2 at *; generalize s.1 = s1 at *; generalize s.2 = s2 at *
  have e : s1 * (b * d) * (q2 * r2) = (s1 * (q2 * r2)) * (b * d) := by grind
  rw [e, v]
  have e2 : (q1 * r2 + r1 * q2) * s2 * (b * d) = s2 * ((q1 * b) * r2 * d + (r1 * d) * q2 * b) := by grind
  rw [e2, h1, h2]
  grind
theorem vl_mul {q r : F} {a b c d : Int} (hq : 0 < q.2) (hr : 0 < r.2) (h1 : Vl q a b) (h2 : Vl r c d) : Vl (mul q r) (a * c) (b * d) := by
  have hm : 0 < q.2 * r.2 := Int.mul_pos hq hr
  have v := vl_red (a := q.1 * r.1) hm
  unfold Vl at *
  show (red _ _).1 * _ = _ * (red _ _).2
  generalize red (q.1 * r.1) (q.2 * r.2) = s at *
  refine mul_cancel (m := q.2 * r.2) (by omega) ?_
  generalize q.1 = q1 at *; generalize q.2 = q2 at *; generalize r.1 = r1 at *; generalize r.2 = r2 at *; generalize s.1 = s1 at *; generalize s.2 = s2 at *
  have e : s1 * (b * d) * (q2 * r2) = (s1 * (q2 * r2)) * (b * d) := by grind
  rw [e, v]
  have e2 : (q1 * r1) * s2 * (b * d) = s2 * ((q1 * b) * (r1 * d)) := by grind
  rw [e2, h1, h2]
  grind
theorem vl_times {q : F} {a b : Int} (k : Int) (h : Vl q a b) : Vl q (a * k) (b * k) := by
  unfold Vl at *
  have : q.1 * (b * k) = (q.1 * b) * k := by grind
  rw [this, h]
  grind
theorem cop_dvd {x y z : Int} (h : Nat.gcd x.natAbs y.natAbs = 1) (d : y ∣ x * z) : y ∣ z := by
  rw [← Int.natAbs_dvd_natAbs] at *
  rw [Int.natAbs_mul] at d
  exact Nat.Coprime.dvd_of_dvd_mul_left (Nat.Coprime.symm h) d
theorem vl_dvd {q : F} {a b : Int} (o : Ok q) (h : Vl q a b) : q.2 ∣ b := cop_dvd o.2 ⟨a, by unfold Vl at h; rw [h, Int.mul_comm]⟩
theorem vl_uniq {q r : F} {a b : Int} (o : Ok q) (o' : Ok r) (hb : b ≠ 0) (h1 : Vl q a b) (h2 : Vl r a b) : q = r := by
  have e : q.1 * r.2 = r.1 * q.2 := by
    unfold Vl at h1 h2
    refine mul_cancel hb ?_
    have : q.1 * r.2 * b = (q.1 * b) * r.2 := by grind
    rw [this, h1]
    have : r.1 * q.2 * b = (r.1 * b) * q.2 := by grind
    rw [this, h2]
    grind
  have d1 : q.2 ∣ r.2 := cop_dvd o.2 ⟨r.1, by rw [e, Int.mul_comm]⟩
  have d2 : r.2 ∣ q.2 := cop_dvd o'.2 ⟨q.1, by rw [← e, Int.mul_comm]⟩
  have p1 := o.1
  have p2 := o'.1
  have e2 : q.2 = r.2 := Int.le_antisymm (Int.le_of_dvd p2 d1) (Int.le_of_dvd p1 d2)
  have e1 : q.1 = r.1 := by
    rw [e2] at e
    exact mul_cancel (by omega) e
  exact Prod.ext e1 e2
theorem ok_add' {q r : F} (hq : 0 < q.2) (hr : 0 < r.2) : Ok (add q r) := red_ok (Int.mul_pos hq hr)
theorem ok_sub' {q r : F} (hq : 0 < q.2) (hr : 0 < r.2) : Ok (sub q r) := red_ok (Int.mul_pos hq hr)
theorem ok_mul' {q r : F} (hq : 0 < q.2) (hr : 0 < r.2) : Ok (mul q r) := red_ok (Int.mul_pos hq hr)
theorem ok01 : Ok (0, 1) := ⟨by decide, by decide⟩
theorem vl_self (q : F) : Vl q q.1 q.2 := rfl
theorem add_zero : add (0, 1) (0, 1) = (0, 1) := by decide
theorem sub_zero : sub (0, 1) (0, 1) = (0, 1) := by decide
/-- the bottom of a sum where both divide one number -/
theorem dvd_add {q r : F} {D : Int} (o : Ok q) (o' : Ok r) (hD : D ≠ 0) (h1 : q.2 ∣ D) (h2 : r.2 ∣ D) : (add q r).2 ∣ D := by
  obtain ⟨x, hx⟩ := h1
  obtain ⟨y, hy⟩ := h2
  have v1 : Vl q (q.1 * x) D := by unfold Vl; rw [hx]; grind
  have v2 : Vl r (r.1 * y) D := by unfold Vl; rw [hy]; grind
  have v := vl_add o.1 o'.1 v1 v2
  have v' : Vl (add q r) (q.1 * x + r.1 * y) D := by
    unfold Vl at *
    refine mul_cancel hD ?_
    rw [Int.mul_assoc, v]
    grind
  exact vl_dvd (ok_add' o.1 o'.1) v'
theorem dvd_mul {q r : F} {D E : Int} (o : Ok q) (o' : Ok r) (h1 : q.2 ∣ D) (h2 : r.2 ∣ E) : (mul q r).2 ∣ D * E :=
  Int.dvd_trans (vl_dvd (ok_mul' o.1 o'.1) (vl_mul o.1 o'.1 (vl_self q) (vl_self r))) (Int.mul_dvd_mul h1 h2)
end Fq
namespace Rs
open Fq
/-- what it has at a power -/
def co (qs : List F) (k : Nat) : F := qs.getD k (0, 1)
/-- noughts at the end left out -/
def trimN (qs : List F) : Nat → List F
  | 0 => []
  | n + 1 => if co qs n = (0, 1) then trimN qs n else qs.take (n + 1)
def trim (qs : List F) : List F := trimN qs qs.length
theorem trimN_is (qs : List F) : ∀ n, n ≤ qs.length → ∃ k, k ≤ n ∧ trimN qs n = qs.take k
  | 0, _ => ⟨0, Nat.le_refl _, by simp [trimN]⟩
  | n + 1, h => by
    unfold trimN
    split
    · obtain ⟨k, h1, h2⟩ := trimN_is qs n (by omega)
      exact ⟨k, by omega, h2⟩
    · exact ⟨n + 1, Nat.le_refl _, rfl⟩
theorem co_get {qs : List F} {k : Nat} {q : F} (h : qs[k]? = some q) : co qs k = q := by
  unfold co
  rw [List.getD_eq_getElem?_getD, h]
  rfl
theorem co_lt {qs : List F} {k : Nat} (h : k < qs.length) : qs[k]? = some (co qs k) := by
  rw [List.getElem?_eq_getElem h, co_get (List.getElem?_eq_getElem h)]
theorem co_ge {qs : List F} {k : Nat} (h : qs.length ≤ k) : co qs k = (0, 1) := by
  unfold co
  rw [List.getD_eq_getElem?_getD, List.getElem?_eq_none h]
  rfl
theorem co_mem {qs : List F} {k : Nat} (h : k < qs.length) : co qs k ∈ qs := List.mem_of_getElem? (co_lt h)
theorem co_all {P : F → Prop} {qs : List F} (h : ∀ q ∈ qs, P q) (h0 : P (0, 1)) (k : Nat) : P (co qs k) := by
  by_cases c : k < qs.length
  · exact h _ (co_mem c)
  · rw [co_ge (by omega)]
    exact h0
theorem co_snoc {ws : List F} {z : F} {k : Nat} (h : k < ws.length) : co (ws ++ [z]) k = co ws k := by
  refine co_get ?_
  rw [List.getElem?_append_left h, co_lt h]
theorem trimN_snoc {ws : List F} {z : F} : ∀ n, n ≤ ws.length → trimN (ws ++ [z]) n = trimN ws n
  | 0, _ => rfl
  | n + 1, h => by
    unfold trimN
    rw [co_snoc (by omega), trimN_snoc n (by omega), List.take_append_of_le_length h]
theorem trim_snoc (ws : List F) : trim (ws ++ [(0, 1)]) = trim ws := by
  unfold trim
  rw [List.length_append, List.length_singleton]
  show (if co (ws ++ [(0, 1)]) ws.length = (0, 1) then _ else _) = _
  rw [if_pos (co_get (by simp)), trimN_snoc _ (Nat.le_refl _)]
theorem trim_rep : ∀ n : Nat, trim (List.replicate n (0, 1)) = []
  | 0 => rfl
  | n + 1 => by
    rw [List.replicate_succ', trim_snoc, trim_rep n]
theorem trimN_nz (qs : List F) : ∀ n, n ≤ qs.length → trimN qs n = [] ∨ ∃ k, k < n ∧ trimN qs n = qs.take (k + 1) ∧ co qs k ≠ (0, 1)
  | 0, _ => .inl rfl
  | n + 1, h => by
    unfold trimN
    split
    · rcases trimN_nz qs n (by omega) with e | ⟨k, h1, h2, h3⟩
      · exact .inl e
      · exact .inr ⟨k, by omega, h2, h3⟩
    · rename_i c
      exact .inr ⟨n, by omega, rfl, c⟩
/-- a polynomial: the last one not nought -/
def Pn (qs : List F) : Prop := qs = [] ∨ co qs (qs.length - 1) ≠ (0, 1)
theorem trim_pn (qs : List F) : Pn (trim qs) := by
  rcases trimN_nz qs qs.length (Nat.le_refl _) with e | ⟨k, h1, h2, h3⟩
  · exact .inl e
  · right
    have l : (trim qs).length = k + 1 := by
      show (trimN _ _).length = _
      rw [h2, List.length_take]
      omega
    rw [l, Nat.add_sub_cancel]
    have : co (trim qs) k = co qs k := by
      refine co_get ?_
      show (trimN _ _)[k]? = _
      rw [h2, List.getElem?_take_of_lt (by omega), co_lt h1]
    rw [this]
    exact h3
theorem trim_mem {qs : List F} {q : F} (h : q ∈ trim qs) : q ∈ qs := by
  obtain ⟨k, _, e⟩ := trimN_is qs qs.length (Nat.le_refl _)
  rw [trim, e] at h
  exact List.mem_of_mem_take h
theorem trim_len (qs : List F) : (trim qs).length ≤ qs.length := by
  obtain ⟨k, h, e⟩ := trimN_is qs qs.length (Nat.le_refl _)
  rw [trim, e, List.length_take]
  omega
theorem trim_of {qs : List F} (h : Pn qs) : trim qs = qs := by
  unfold trim
  rcases h with rfl | h
  · rfl
  · cases e : qs.length with
    | zero => rw [List.eq_nil_of_length_eq_zero e]; rfl
    | succ n =>
      rw [e, Nat.add_sub_cancel] at h
      unfold trimN
      rw [if_neg h, ← e, List.take_length]
/-- power by power -/
def byPower (op : F → F → F) (qs rs : List F) (n : Nat) : List F := (List.range n).map fun k => op (co qs k) (co rs k)
theorem byPower_succ (op : F → F → F) (qs rs : List F) (n : Nat) : byPower op qs rs (n + 1) = byPower op qs rs n ++ [op (co qs n) (co rs n)] := by
  rw [byPower, List.range_succ, List.map_append]
  rfl
theorem byPower_len (op : F → F → F) (qs rs : List F) (n : Nat) : (byPower op qs rs n).length = n := by
  rw [byPower, List.length_map, List.length_range]
theorem byPower_trim {op : F → F → F} (h0 : op (0, 1) (0, 1) = (0, 1)) {qs rs : List F} {m : Nat} (h1 : qs.length ≤ m) (h2 : rs.length ≤ m) : ∀ d, trim (byPower op qs rs (m + d)) = trim (byPower op qs rs m)
  | 0 => rfl
  | d + 1 => by
    rw [← Nat.add_assoc, byPower_succ, co_ge (by omega), co_ge (by omega), h0, trim_snoc, byPower_trim h0 h1 h2 d]
theorem byPower_mem {op : F → F → F} {qs rs : List F} {n : Nat} {q : F} (h : q ∈ byPower op qs rs n) : ∃ k, q = op (co qs k) (co rs k) := by
  obtain ⟨k, _, rfl⟩ := List.mem_map.mp h
  exact ⟨k, rfl⟩
def stepJ (w : List F) (i : Nat) (p : F) (rs : List F) : Nat → List F
  | 0 => w
  | j + 1 => (stepJ w i p rs j).set (i + j) (add (co (stepJ w i p rs j) (i + j)) (mul p (co rs j)))
def stepI (w : List F) (qs rs : List F) : Nat → List F
  | 0 => w
  | i + 1 => stepJ (stepI w qs rs i) i (co qs i) rs rs.length
def prodN (n : Nat) (qs rs : List F) : List F := stepI (List.replicate n (0, 1)) qs rs qs.length
theorem stepJ_len (w : List F) (i : Nat) (p : F) (rs : List F) : ∀ j, (stepJ w i p rs j).length = w.length
  | 0 => rfl
  | j + 1 => by
    show (List.set _ _ _).length = _
    rw [List.length_set, stepJ_len w i p rs j]
theorem stepI_len (w qs rs : List F) : ∀ i, (stepI w qs rs i).length = w.length
  | 0 => rfl
  | i + 1 => by
    show (stepJ _ _ _ _ _).length = _
    rw [stepJ_len, stepI_len w qs rs i]
theorem prodN_len (n : Nat) (qs rs : List F) : (prodN n qs rs).length = n := by
  rw [prodN, stepI_len, List.length_replicate]
theorem stepJ_snoc (w : List F) (z : F) (i : Nat) (p : F) (rs : List F) : ∀ j, i + j ≤ w.length → stepJ (w ++ [z]) i p rs j = stepJ w i p rs j ++ [z]
  | 0, _ => rfl
  | j + 1, h => by
    have l := stepJ_len w i p rs j
    show (stepJ (w ++ [z]) i p rs j).set _ _ = (stepJ w i p rs j).set _ _ ++ [z]
    rw [stepJ_snoc w z i p rs j (by omega), co_snoc (by omega), List.set_append_left _ _ (by omega)]
theorem stepI_snoc (w : List F) (z : F) (qs rs : List F) : ∀ i, i + rs.length ≤ w.length + 1 → stepI (w ++ [z]) qs rs i = stepI w qs rs i ++ [z]
  | 0, _ => rfl
  | i + 1, h => by
    have l := stepI_len w qs rs i
    show stepJ (stepI (w ++ [z]) qs rs i) _ _ _ _ = stepJ (stepI w qs rs i) _ _ _ _ ++ [z]
    rw [stepI_snoc w z qs rs i (by omega), stepJ_snoc _ _ _ _ _ _ (by omega)]
def prodL (qs rs : List F) : List F := if qs = [] ∨ rs = [] then [] else prodN (qs.length + rs.length - 1) qs rs
theorem prodN_nil (n : Nat) (qs : List F) : prodN n qs [] = List.replicate n (0, 1) := by
  have : ∀ (w : List F) i, stepI w qs [] i = w := fun w i => by
    induction i with
    | zero => rfl
    | succ i h =>
      show stepJ (stepI w qs [] i) i (co qs i) [] 0 = _
      exact h
  exact this _ _
theorem prod_all (qs rs : List F) : trim (prodN (qs.length + rs.length) qs rs) = trim (prodL qs rs) := by
  unfold prodL
  split
  · rename_i c
    rcases c with rfl | rfl
    · show trim (List.replicate _ _) = _
      rw [trim_rep]
      rfl
    · rw [prodN_nil, trim_rep]
      rfl
  · rename_i c
    have h1 : qs ≠ [] := fun z => c (.inl z)
    have h2 : rs ≠ [] := fun z => c (.inr z)
    have l1 := List.length_pos_iff.mpr h1
    have l2 := List.length_pos_iff.mpr h2
    obtain ⟨n, e⟩ : ∃ n, qs.length + rs.length = n + 1 := ⟨qs.length + rs.length - 1, by omega⟩
    rw [e, Nat.add_sub_cancel]
    unfold prodN
    rw [List.replicate_succ', stepI_snoc _ _ _ _ _ (by rw [List.length_replicate]; omega), trim_snoc]
/-- small fractions -/
structure S3 (q : F) : Prop where
  ok : Fq.Ok q
  b : q.2 ≤ 3
  a : q.1.natAbs < 16
theorem S3.zero : S3 (0, 1) := ⟨Fq.ok01, by decide, by decide⟩
theorem S3.cases {q : F} (h : S3 q) : q.2 = 1 ∨ q.2 = 2 ∨ q.2 = 3 := by
  have := h.ok.1
  have := h.b
  omega
theorem S3.d6 {q : F} (h : S3 q) : q.2 ∣ 6 := by
  rcases h.cases with e | e | e <;> rw [e] <;> decide
/-- what a product's parts may be, behind so many steps -/
structure Pb (k : Nat) (q : F) : Prop where
  ok : Fq.Ok q
  b : q.2 ∣ 36
  a : q.1.natAbs < 2 ^ (20 + 8 * k)
theorem Pb.zero : Pb 0 (0, 1) := ⟨Fq.ok01, by decide, by decide⟩
theorem Pb.mono {k m : Nat} {q : F} (h : Pb k q) (e : k ≤ m) : Pb m q := ⟨h.ok, h.b, Nat.lt_of_lt_of_le h.a (Nat.pow_le_pow_right (by decide) (by omega))⟩
theorem Pb.le {k : Nat} {q : F} (h : Pb k q) : q.2 ≤ 36 := Int.le_of_dvd (by decide) h.b
theorem red_top {a b : Int} (h : 0 < b) : (red a b).1.natAbs ≤ a.natAbs := by
  have hg := gI_pos (a := a) (b := b) (by omega)
  show (a / gI a b).natAbs ≤ a.natAbs
  obtain ⟨x, hx⟩ := gI_dvd_l a b
  have e1 : a / gI a b = x := Int.ediv_eq_of_eq_mul_right (by omega) hx
  rw [e1]
  have q1 : a.natAbs = (gI a b).natAbs * x.natAbs := by
    have := congrArg Int.natAbs hx
    rwa [Int.natAbs_mul] at this
  rw [q1]
  exact Nat.le_mul_of_pos_left _ (by omega)
theorem mul_s3 {p r : F} (hp : S3 p) (hr : S3 r) : Fq.Ok (mul p r) ∧ (mul p r).2 ∣ 36 ∧ (mul p r).1.natAbs < 256 := by
  refine ⟨ok_mul' hp.ok.1 hr.ok.1, dvd_mul hp.ok hr.ok hp.d6 hr.d6, ?_⟩
  refine Nat.lt_of_le_of_lt (red_top (Int.mul_pos hp.ok.1 hr.ok.1)) ?_
  rw [Int.natAbs_mul]
  have := hp.a
  have := hr.a
  have : p.1.natAbs * r.1.natAbs ≤ 15 * 15 := Nat.mul_le_mul (by omega) (by omega)
  omega
theorem Pb.step {k : Nat} {q p r : F} (h : Pb k q) (hp : S3 p) (hr : S3 r) : Pb (k + 1) (add q (mul p r)) := by
  obtain ⟨o, d, l⟩ := mul_s3 hp hr
  refine ⟨ok_add' h.ok.1 o.1, dvd_add h.ok o (by decide) h.b d, ?_⟩
  refine Nat.lt_of_le_of_lt (red_top (Int.mul_pos h.ok.1 o.1)) ?_
  have b1 := h.le
  have b2 : (mul p r).2 ≤ 36 := Int.le_of_dvd (by decide) d
  have p1 := h.ok.1
  have p2 := o.1
  have := Int.natAbs_add_le (q.1 * (mul p r).2) ((mul p r).1 * q.2)
  rw [Int.natAbs_mul, Int.natAbs_mul] at this
  have m1 : q.1.natAbs * (mul p r).2.natAbs ≤ q.1.natAbs * 36 := Nat.mul_le_mul (Nat.le_refl _) (by omega)
  have m2 : (mul p r).1.natAbs * q.2.natAbs ≤ 255 * 36 := Nat.mul_le_mul (by omega) (by omega)
  have e : 2 ^ (20 + 8 * (k + 1)) = 2 ^ (20 + 8 * k) * 256 := by
    rw [show 20 + 8 * (k + 1) = (20 + 8 * k) + 8 by omega, Nat.pow_add]
  have := h.a
  have : 2 ^ 20 ≤ 2 ^ (20 + 8 * k) := Nat.pow_le_pow_right (by decide) (by omega)
  have : (2 : Nat) ^ 20 = 1048576 := by decide
  rw [e]
  omega
theorem stepJ_pb {k i : Nat} {w : List F} {p : F} {rs : List F} (hw : ∀ q ∈ w, Pb k q) (hp : S3 p) (hr : ∀ r ∈ rs, S3 r) : ∀ j, i + j ≤ w.length → ∀ q ∈ stepJ w i p rs j, Pb (k + j) q
  | 0, _ => hw
  | j + 1, h => fun q hq => by
    have ih := stepJ_pb (i := i) hw hp hr j (by omega)
    have l := stepJ_len w i p rs j
    rcases List.mem_or_eq_of_mem_set hq with m | rfl
    · exact (ih q m).mono (by omega)
    · exact (ih _ (co_mem (by omega))).step hp (co_all hr S3.zero j)
theorem stepI_pb {k : Nat} {w qs rs : List F} (hw : ∀ q ∈ w, Pb k q) (hp : ∀ q ∈ qs, S3 q) (hr : ∀ r ∈ rs, S3 r) : ∀ i, i + rs.length ≤ w.length + 1 → ∀ q ∈ stepI w qs rs i, Pb (k + i * rs.length) q
  | 0, _ => by
    rw [Nat.zero_mul]
    exact hw
  | i + 1, h => fun q hq => by
    have ih := stepI_pb (qs := qs) hw hp hr i (by omega)
    have l := stepI_len w qs rs i
    have := stepJ_pb (i := i) ih (co_all hp S3.zero i) hr rs.length (by omega) q hq
    rw [Nat.succ_mul, ← Nat.add_assoc]
    exact this
theorem rep_pb (n : Nat) : ∀ q ∈ List.replicate n ((0, 1) : F), Pb 0 q := fun q h => by
  rw [(List.mem_replicate.mp h).2]
  exact Pb.zero
def hor (m : F) : List F → F
  | [] => (0, 1)
  | c :: cs => add (mul (hor m cs) m) c
def wat (m : F) : List Int → Int × Int
  | [] => (0, 1)
  | v :: vs => ((wat m vs).1 * m.1 + v * (wat m vs).2, (wat m vs).2 * m.2)
/-- each is g times the integer, divided by B -/
inductive HV (g B : Int) : List F → List Int → Prop
  | nil : HV g B [] []
  | cons {q : F} {qs : List F} {v : Int} {vs : List Int} : Fq.Ok q → Vl q (g * v) B → HV g B qs vs → HV g B (q :: qs) (v :: vs)
theorem HV.len {g B : Int} {qs : List F} {vs : List Int} (h : HV g B qs vs) : qs.length = vs.length := by
  induction h with
  | nil => rfl
  | cons _ _ _ ih => rw [List.length_cons, List.length_cons, ih]
theorem wat_pow (m : F) : ∀ vs : List Int, (wat m vs).2 = m.2 ^ vs.length
  | [] => by rw [List.length_nil, Int.pow_zero]; rfl
  | v :: vs => by
    show (wat m vs).2 * m.2 = _
    rw [wat_pow m vs, List.length_cons, Int.pow_succ]
theorem hor_vl {m : F} (hm : 0 < m.2) {g B : Int} (hB : 0 < B) {qs : List F} {vs : List Int} (h : HV g B qs vs) :
    Fq.Ok (hor m qs) ∧ Vl (hor m qs) (g * (wat m vs).1 * m.2) (B * (wat m vs).2) ∧ 0 < (wat m vs).2 := by
  induction h with
  | nil => exact ⟨ok01, by show (0 : Int) * _ = g * 0 * m.2 * 1; rw [Int.mul_zero, Int.zero_mul, Int.zero_mul, Int.zero_mul], Int.zero_lt_one⟩
  | cons o hv h ih =>
    rename_i q qs v vs
    obtain ⟨i1, i2, i3⟩ := ih
    have om := ok_mul' i1.1 hm
    refine ⟨ok_add' om.1 o.1, ?_, Int.mul_pos i3 hm⟩
    have t := vl_add om.1 o.1 (vl_mul i1.1 hm i2 (vl_self m)) hv
    show Vl (add (mul (hor m qs) m) q) (g * ((wat m vs).1 * m.1 + v * (wat m vs).2) * m.2) (B * ((wat m vs).2 * m.2))
    generalize add (mul (hor m qs) m) q = s at *
    generalize (wat m vs).1 = W at *
    generalize (wat m vs).2 = b at *
    unfold Vl at *
    refine mul_cancel (m := B) (by omega) ?_
    have e : s.1 * (B * (b * m.2)) * B = s.1 * (B * b * m.2 * B) := by grind
    rw [e, t]
    grind
theorem worth_eq {m : F} (hm : 0 < m.2) {g B : Int} (hB : 0 < B) {qs : List F} {vs : List Int} (h : HV g B qs vs) :
    mul (red g B) (red (wat m vs).1 (m.2 ^ (vs.length - 1))) = hor m qs := by
  obtain ⟨i1, i2, i3⟩ := hor_vl hm hB h
  have hp : 0 < m.2 ^ (vs.length - 1) := Int.pow_pos hm
  have o1 := red_ok (a := g) hB
  have o2 := red_ok (a := (wat m vs).1) hp
  have t := vl_mul o1.1 o2.1 (vl_red hB) (vl_red hp)
  refine vl_uniq (ok_mul' o1.1 o2.1) i1 (Int.ne_of_gt (Int.mul_pos hB i3)) ?_ i2
  cases vs with
  | nil =>
    have e : (wat m []).1 = 0 := rfl
    have e2 : (wat m []).2 = 1 := rfl
    rw [e] at t ⊢
    rw [e2]
    have e3 : m.2 ^ (([] : List Int).length - 1) = 1 := by rw [List.length_nil, Nat.zero_sub, Int.pow_zero]
    rw [e3] at t ⊢
    rw [Int.mul_zero] at t ⊢
    rw [Int.zero_mul]
    exact t
  | cons v vs =>
    have e : m.2 ^ ((v :: vs).length - 1) * m.2 = (wat m (v :: vs)).2 := by
      rw [wat_pow, List.length_cons, Nat.add_sub_cancel, Int.pow_succ]
    have t2 := vl_times m.2 t
    rw [Int.mul_assoc B, e] at t2
    exact t2
end Rs
namespace Rs
open Fq
theorem hv6 : ∀ {qs : List F}, (∀ q ∈ qs, S3 q) → HV 1 6 qs (qs.map fun q => q.1 * (6 / q.2))
  | [], _ => .nil
  | q :: qs, h => by
    have s := h q List.mem_cons_self
    refine .cons s.ok ?_ (hv6 fun r hr => h r (List.mem_cons_of_mem _ hr))
    show q.1 * 6 = 1 * (q.1 * (6 / q.2)) * q.2
    rw [Int.one_mul, Int.mul_assoc, Int.ediv_mul_cancel s.d6]
theorem pow3 {m : F} (hm : S3 m) (k : Nat) : 0 < m.2 ^ k ∧ m.2 ^ k ≤ 3 ^ k := by
  refine ⟨Int.pow_pos hm.ok.1, ?_⟩
  induction k with
  | zero => simp
  | succ k ih =>
    have := hm.ok.1
    have := hm.b
    rw [Int.pow_succ, Int.pow_succ]
    exact Int.mul_le_mul ih hm.b (by omega) (Int.le_of_lt (Int.pow_pos (by decide)))
theorem pow3_le {k : Nat} (h : k ≤ 6) : (3 : Int) ^ k ≤ 729 := by
  have : ∀ k, k < 7 → (3 : Int) ^ k ≤ 729 := by decide
  exact this k (by omega)
theorem hor_ok {m : F} (hm : S3 m) {qs : List F} (h : ∀ q ∈ qs, S3 q) : Fq.Ok (hor m qs) ∧ (hor m qs).2 ≤ 6 * 3 ^ qs.length := by
  obtain ⟨o, v, p⟩ := hor_vl hm.ok.1 (g := 1) (B := 6) (by decide) (hv6 h)
  refine ⟨o, ?_⟩
  have d := vl_dvd o v
  have hp : 0 < 6 * (wat m (qs.map fun q => q.1 * (6 / q.2))).2 := Int.mul_pos (by decide) p
  have l := Int.le_of_dvd hp d
  rw [wat_pow, List.length_map] at l
  have := (pow3 hm qs.length).2
  omega
theorem hor_num {m : F} (hm : S3 m) : ∀ {qs : List F}, (∀ q ∈ qs, S3 q) → qs.length ≤ 6 → (hor m qs).1.natAbs < 2 ^ (20 + 12 * qs.length)
  | [], _, _ => by
    show (0 : Nat) < _
    exact Nat.pow_pos (by decide)
  | c :: cs, h, l => by
    have hc := h c List.mem_cons_self
    have hs : ∀ q ∈ cs, S3 q := fun r hr => h r (List.mem_cons_of_mem _ hr)
    simp only [List.length_cons] at l ⊢
    have ih := hor_num hm hs (by omega)
    obtain ⟨o, d⟩ := hor_ok hm hs
    show (add (mul (hor m cs) m) c).1.natAbs < _
    generalize hor m cs = q at *
    have mp := Int.mul_pos o.1 hm.ok.1
    have om := ok_mul' o.1 hm.ok.1
    have t1 : (mul q m).1.natAbs ≤ q.1.natAbs * 16 := by
      refine Nat.le_trans (red_top mp) ?_
      rw [Int.natAbs_mul]
      exact Nat.mul_le_mul (Nat.le_refl _) (by have := hm.a; omega)
    have t2 : (mul q m).2 ≤ q.2 * m.2 := Int.le_of_dvd mp (vl_dvd om (vl_mul o.1 hm.ok.1 (vl_self q) (vl_self m)))
    have t3 : q.2 * m.2 ≤ 4374 * 3 := by
      have := pow3_le (k := cs.length) (by omega)
      exact Int.mul_le_mul (by omega) hm.b (by have := hm.ok.1; omega) (by decide)
    refine Nat.lt_of_le_of_lt (red_top (Int.mul_pos om.1 hc.ok.1)) ?_
    have p1 := om.1
    have p2 := hc.ok.1
    have b2 := hc.b
    have := Int.natAbs_add_le ((mul q m).1 * c.2) (c.1 * (mul q m).2)
    rw [Int.natAbs_mul, Int.natAbs_mul] at this
    have m1 : (mul q m).1.natAbs * c.2.natAbs ≤ (q.1.natAbs * 16) * 3 := Nat.mul_le_mul t1 (by omega)
    have m2 : c.1.natAbs * (mul q m).2.natAbs ≤ 15 * 13122 := Nat.mul_le_mul (by have := hc.a; omega) (by omega)
    have e : 2 ^ (20 + 12 * (cs.length + 1)) = 2 ^ (20 + 12 * cs.length) * 4096 := by
      rw [show 20 + 12 * (cs.length + 1) = (20 + 12 * cs.length) + 12 by omega, Nat.pow_add]
    have : 2 ^ 20 ≤ 2 ^ (20 + 12 * cs.length) := Nat.pow_le_pow_right (by decide) (by omega)
    have : (2 : Nat) ^ 20 = 1048576 := by decide
    rw [e]
    omega
def botN (qs : List F) : Nat → Int
  | 0 => 1
  | i + 1 => botN qs i / gI (botN qs i) (co qs i).2 * (co qs i).2
def B6 (b : Int) : Prop := b = 1 ∨ b = 2 ∨ b = 3 ∨ b = 6
theorem bot_step {b d : Int} (hb : B6 b) (hd : d = 1 ∨ d = 2 ∨ d = 3) : B6 (b / gI b d * d) ∧ b ∣ b / gI b d * d ∧ d ∣ b / gI b d * d := by
  unfold B6
  rcases hb with rfl | rfl | rfl | rfl <;> rcases hd with rfl | rfl | rfl <;> decide
theorem botN_ok {qs : List F} (h : ∀ q ∈ qs, S3 q) : ∀ i, B6 (botN qs i) ∧ ∀ k, k < i → (co qs k).2 ∣ botN qs i
  | 0 => ⟨.inl rfl, fun k hk => absurd hk (by omega)⟩
  | i + 1 => by
    obtain ⟨a, b⟩ := botN_ok h i
    obtain ⟨c, d, e⟩ := bot_step a (co_all h S3.zero i).cases
    refine ⟨c, fun k hk => ?_⟩
    by_cases z : k = i
    · rw [z]
      exact e
    · exact Int.dvd_trans (b k (by omega)) d
theorem B6.pos {b : Int} (h : B6 b) : 0 < b ∧ b ≤ 6 := by unfold B6 at h; omega
def wholeL (B : Int) (qs : List F) : List Int := qs.map fun q => q.1 * (B / q.2)
def cmN (ws : List Int) : Nat → Int
  | 0 => 0
  | i + 1 => gI (cmN ws i) (ws.getD i 0)
theorem gI_lt {a b : Int} {n : Nat} (h1 : a.natAbs < n) (h2 : b.natAbs < n) : 0 ≤ gI a b ∧ (gI a b).natAbs < n := by
  unfold gI
  refine ⟨Int.natCast_nonneg _, ?_⟩
  rw [Int.natAbs_natCast]
  by_cases z : b.natAbs = 0
  · rw [z, Nat.gcd_zero_right]
    exact h1
  · exact Nat.lt_of_le_of_lt (Nat.gcd_le_right _ (by omega)) h2
theorem getD_mem {ws : List Int} {P : Int → Prop} (h : ∀ w ∈ ws, P w) (h0 : P 0) (k : Nat) : P (ws.getD k 0) := by
  rw [List.getD_eq_getElem?_getD]
  cases e : ws[k]? with
  | none => exact h0
  | some w => exact h w (List.mem_of_getElem? e)
theorem cmN_ok {ws : List Int} (h : ∀ w ∈ ws, w.natAbs < 128) : ∀ i, 0 ≤ cmN ws i ∧ (cmN ws i).natAbs < 128 ∧ ∀ k, k < i → cmN ws i ∣ ws.getD k 0
  | 0 => ⟨Int.le_refl _, (by show (0 : Int).natAbs < 128; decide), fun k hk => absurd hk (by omega)⟩
  | i + 1 => by
    obtain ⟨a, b, c⟩ := cmN_ok h i
    obtain ⟨d, e⟩ := gI_lt b (getD_mem (P := fun w => w.natAbs < 128) h (by decide) i)
    refine ⟨d, e, fun k hk => ?_⟩
    by_cases z : k = i
    · rw [z]
      exact gI_dvd_r _ _
    · exact Int.dvd_trans (gI_dvd_l _ _) (c k (by omega))
def gg (c : Int) : Int := if (1 : Int) > c then 1 else c
theorem gg_ok {ws : List Int} (h : ∀ w ∈ ws, w.natAbs < 128) : 0 < gg (cmN ws ws.length) ∧ (gg (cmN ws ws.length)).natAbs < 128 ∧ ∀ w ∈ ws, gg (cmN ws ws.length) ∣ w := by
  obtain ⟨a, b, c⟩ := cmN_ok h ws.length
  unfold gg
  split
  · exact ⟨by decide, by decide, fun w _ => Int.one_dvd w⟩
  · refine ⟨by omega, b, fun w hw => ?_⟩
    obtain ⟨k, hk, e⟩ := List.getElem_of_mem hw
    have := c k hk
    rw [List.getD_eq_getElem?_getD, List.getElem?_eq_getElem hk] at this
    rw [← e]
    exact this
theorem whole_lt {B : Int} {qs : List F} (hB : B6 B) (h : ∀ q ∈ qs, S3 q) (hd : ∀ q ∈ qs, q.2 ∣ B) : ∀ w ∈ wholeL B qs, w.natAbs < 128 := by
  intro w hw
  obtain ⟨q, hq, rfl⟩ := List.mem_map.mp hw
  have s := h q hq
  have l : B / q.2 ≤ 6 ∧ 0 ≤ B / q.2 := by
    have := hB.pos
    rcases s.cases with e | e | e <;> rw [e] <;> omega
  rw [Int.natAbs_mul]
  have := s.a
  have : q.1.natAbs * (B / q.2).natAbs ≤ 15 * 6 := Nat.mul_le_mul (by omega) (by omega)
  omega
theorem hv_of {B g : Int} : ∀ {qs : List F}, (∀ q ∈ qs, S3 q) → (∀ q ∈ qs, q.2 ∣ B) → (∀ w ∈ wholeL B qs, g ∣ w) → HV g B qs ((wholeL B qs).map (· / g))
  | [], _, _, _ => .nil
  | q :: qs, h, hd, hg => by
    refine .cons (h q List.mem_cons_self).ok ?_ (hv_of (fun r hr => h r (List.mem_cons_of_mem _ hr)) (fun r hr => hd r (List.mem_cons_of_mem _ hr)) (fun w hw => hg w (List.mem_cons_of_mem _ hw)))
    show q.1 * B = g * (q.1 * (B / q.2) / g) * q.2
    rw [Int.mul_ediv_cancel' (hg _ List.mem_cons_self), Int.mul_assoc, Int.ediv_mul_cancel (hd q List.mem_cons_self)]
theorem wat_num {m : F} (hm : S3 m) : ∀ {vs : List Int}, (∀ v ∈ vs, v.natAbs < 128) → vs.length ≤ 6 → (wat m vs).1.natAbs < 2 ^ (20 + 8 * vs.length) ∧ 0 < (wat m vs).2 ∧ (wat m vs).2 ≤ 729
  | [], _, _ => ⟨by show (0 : Nat) < _; exact Nat.pow_pos (by decide), Int.zero_lt_one, (by show (1 : Int) ≤ 729; decide)⟩
  | v :: vs, h, l => by
    have hv := h v List.mem_cons_self
    simp only [List.length_cons] at l
    obtain ⟨i1, i2, i3⟩ := wat_num hm (vs := vs) (fun r hr => h r (List.mem_cons_of_mem _ hr)) (by omega)
    refine ⟨?_, ?_, ?_⟩
    · show ((wat m vs).1 * m.1 + v * (wat m vs).2).natAbs < 2 ^ (20 + 8 * (vs.length + 1))
      have := Int.natAbs_add_le ((wat m vs).1 * m.1) (v * (wat m vs).2)
      rw [Int.natAbs_mul, Int.natAbs_mul] at this
      have m1 : (wat m vs).1.natAbs * m.1.natAbs ≤ (wat m vs).1.natAbs * 16 := Nat.mul_le_mul (Nat.le_refl _) (by have := hm.a; omega)
      have m2 : v.natAbs * (wat m vs).2.natAbs ≤ 127 * 729 := Nat.mul_le_mul (by omega) (by omega)
      have e : 2 ^ (20 + 8 * (vs.length + 1)) = 2 ^ (20 + 8 * vs.length) * 256 := by
        rw [show 20 + 8 * (vs.length + 1) = (20 + 8 * vs.length) + 8 by omega, Nat.pow_add]
      have : 2 ^ 20 ≤ 2 ^ (20 + 8 * vs.length) := Nat.pow_le_pow_right (by decide) (by omega)
      have : (2 : Nat) ^ 20 = 1048576 := by decide
      rw [e]
      omega
    · rw [wat_pow]
      exact (pow3 hm _).1
    · rw [wat_pow]
      have := (pow3 hm (v :: vs).length).2
      have := pow3_le (k := (v :: vs).length) (by rw [List.length_cons]; omega)
      omega
theorem div_lt {ws : List Int} {g : Int} (h : ∀ w ∈ ws, w.natAbs < 128) : ∀ v ∈ ws.map (· / g), v.natAbs < 128 := by
  intro v hv
  obtain ⟨w, hw, rfl⟩ := List.mem_map.mp hv
  exact Nat.lt_of_le_of_lt (Int.natAbs_ediv_le_natAbs w g) (h w hw)
end Rs


set_option Elab.async false
set_option linter.all false
set_option maxRecDepth 100000
set_option maxHeartbeats 2000000
namespace TA2
open PySem PySem.Spec PyProof.Rows L2
/-- what the suite's ends are where the name in slot i goes behind it -/
def less (D : Ends) (i : Nat) : Ends where
  nx := fun τ G => D.nx (τ.set i none) G
  rt := D.rt
  bk := fun τ G => D.bk (τ.set i none) G
  ct := fun τ G => D.ct (τ.set i none) G
end TA2


set_option Elab.async false
set_option linter.all false
set_option maxRecDepth 100000
set_option maxHeartbeats 2000000
namespace LmD
open PySem PySem.Spec PyProof.Rows L2 LamX PySem.W
/-- the parameters: one, x, with the default i -/
def one (x : Str) (i : Int) (p1 p2 : Pos) (j : Nat) : Arguments :=
  { posonlyargs := [], args := [{ arg := x, annotation := none, pos := p1 }], vararg := none, kwonlyargs := [], kw_defaults := [], kwarg := none, defaults := [.Constant (.int i) j p2] }
end LmD


set_option Elab.async false
set_option linter.all false
set_option maxRecDepth 100000
set_option maxHeartbeats 400000
namespace Rs
open PySem L2 Bs Fq LamX
inductive FrAll (K : PySem.W.Frag) (H : Hp) : List V → List F → Prop
  | nil : FrAll K H [] []
  | cons {v : V} {vs : List V} {q : F} {qs : List F} : Fr K H v q → FrAll K H vs qs → FrAll K H (v :: vs) (q :: qs)
theorem FrAll.mono {K : PySem.W.Frag} {H H' : Hp} (e : Same H H') : ∀ {vs : List V} {qs : List F}, FrAll K H vs qs → FrAll K H' vs qs
  | _, _, .nil => .nil
  | _, _, .cons a b => .cons (a.mono e) (FrAll.mono e b)
theorem FrAll.len {K : PySem.W.Frag} {H : Hp} : ∀ {vs : List V} {qs : List F}, FrAll K H vs qs → vs.length = qs.length
  | _, _, .nil => rfl
  | _, _, .cons _ b => congrArg (· + 1) (FrAll.len b)
theorem FrAll.get {K : PySem.W.Frag} {H : Hp} : ∀ {vs : List V} {qs : List F} {i : Nat}, FrAll K H vs qs → i < qs.length → ∃ v q, vs[i]? = some v ∧ qs[i]? = some q ∧ Fr K H v q
  | _, _, 0, .cons a _, _ => ⟨_, _, rfl, rfl, a⟩
  | _, _, i + 1, .cons _ b, h => by
    obtain ⟨v, q, h1, h2, h3⟩ := FrAll.get (i := i) b (by simp only [List.length_cons] at h; omega)
    exact ⟨v, q, h1, h2, h3⟩
  | _, _, _, .nil, h => absurd h (by simp)
/-- a tuple of fractions -/
def Po (K : PySem.W.Frag) (H : Hp) (v : V) (qs : List F) : Prop := ∃ a xs, v = .ref a ∧ SqT K H a xs ∧ FrAll K H xs qs
abbrev sAt : Stmt := top 19
def spAt (K : PySem.W.Frag) : Sp := fun vs H Q _ => ∃ (v : V) (qs : List F) (k : Nat), vs = [v, .int k] ∧ Po K H v qs ∧ ∀ u, Fr K H u (co qs k) → Q u H
section
variable {P : Program} {w : World} {K : PySem.W.Frag} {mg : Str → Option Value} {base : Heap} {f : Addr} {fd : FuncData}
theorem scAt : FnScope ["poly", "number"] ["poly", "number"] (defScope sAt) := ⟨rfl, rfl, rfl, by decide +kernel, rfl, by decide +kernel, by decide +kernel⟩
theorem ok_at (F : Fun K "at_power" "at_power" sAt f fd) (T : Blt mg) (Z : Nou K mg) : FnOk P w K mg base CX0 1 f fd ["poly", "number"] (spAt K) := by
  refine F.ok scAt (fun vs H Q E h => ?_) (fun cdv A outer s H vs Q E hr h => ?_)
  · obtain ⟨v, qs, k, rfl, _⟩ := h
    rfl
  · obtain ⟨v, qs, k, rfl, ⟨a, xs, rfl, sx, fx⟩, kk⟩ := h
    obtain ⟨z, mz, sz⟩ := Z.ex
    refine ⟨_, pss_one (ps_ret (pe_ifExp (pt_cmpR op_lt (pv 1) (pe_callB call_len_seq (by rfl) T.len (by decide +kernel) (pa_cons (pv 0) pa_nil)) (nomark _)) (pe_ix ix_tup (pv 0) (pv 1) (fun _ _ => rfl)) (pe_glob (v := .ref z) (by rfl) mz rfl))), ?_⟩
    refine ⟨_, rfl, _, rfl, a, xs, rfl, Or.inr sx, _, _, rfl, rfl, _, rfl, ?_⟩
    refine ite2 (fun c => ?_) (fun c => ?_)
    · have c1 : (k : Int) < (xs.length : Int) := of_decide_eq_true c
      have c2 : k < qs.length := by
        have := fx.len
        omega
      obtain ⟨u, q, h1, h2, h3⟩ := fx.get c2
      have e : co qs k = q := by
        unfold co
        rw [List.getD_eq_getElem?_getD, h2]
        rfl
      exact ⟨_, rfl, _, rfl, a, xs, _, u, rfl, rfl, sx, atI_nat (j := k) h1, kk u (by rw [e]; exact h3)⟩
    · have c1 : ¬ (k : Int) < (xs.length : Int) := fun z => c (decide_eq_true z)
      have e : co qs k = (0, 1) := by
        unfold co
        rw [List.getD_eq_getElem?_getD, List.getElem?_eq_none (by have := fx.len; omega)]
        rfl
      exact kk _ (by rw [e]; exact ⟨z, rfl, sz H⟩)
end
end Rs


set_option Elab.async false
set_option linter.all false
set_option maxRecDepth 100000
set_option maxHeartbeats 400000
namespace Rs
open PySem L2 Bs Fq LamX
theorem FrAll.take {K : PySem.W.Frag} {H : Hp} : ∀ {vs : List V} {qs : List F} (n : Nat), FrAll K H vs qs → FrAll K H (vs.take n) (qs.take n)
  | _, _, 0, _ => .nil
  | _, _, n + 1, .nil => .nil
  | _, _, n + 1, .cons a b => .cons a (FrAll.take n b)
theorem eqv_nought {q : F} : PyData.eqv (dF q) (dF (0, 1)) = decide (q = (0, 1)) := by
  obtain ⟨a, b⟩ := q
  have e : PyData.eqv (dF (a, b)) (dF (0, 1)) = (decide (a = 0) && decide (b = 1)) := by
    simp only [dF, PyData.eqv, PyData.eqvAll, Bool.and_true]
    rfl
  rw [e]
  simp [Prod.ext_iff]
abbrev sTrim : Stmt := top 18
def spTrim (K : PySem.W.Frag) : Sp := fun vs H Q _ => ∃ (a : Addr) (xs : List V) (qs : List F), vs = [.ref a] ∧ (SqL K H a xs ∨ SqT K H a xs) ∧ FrAll K H xs qs ∧ xs.length ≤ 1000 ∧
  ∀ H' p ys, Same H H' → SqT K H' p ys → FrAll K H' ys (trim qs) → Q (.ref p) H'
section
variable {P : Program} {w : World} {K : PySem.W.Frag} {mg : Str → Option Value} {base : Heap} {f : Addr} {fd : FuncData}
theorem scTrim : FnScope ["some", "many"] ["some"] (defScope sTrim) := ⟨rfl, rfl, rfl, by decide +kernel, rfl, by decide +kernel, by decide +kernel⟩
theorem ok_trim (F : Fun K "trimmed" "trimmed" sTrim f fd) (T : Blt mg) (Z : Nou K mg) : FnOk P w K mg base CX0 1 f fd ["some"] (spTrim K) := by
  refine F.ok scTrim (fun vs H Q E h => ?_) (fun cdv A outer s H vs Q E hr h => ?_)
  · obtain ⟨a, xs, qs, rfl, _⟩ := h
    rfl
  · obtain ⟨a, xs, qs, rfl, sx, fx, l1, kk⟩ := h
    obtain ⟨z, mz, sz⟩ := Z.ex
    refine ⟨_, pss_cons (ps_set (i := 1) scTrim.nd rfl (Or.inl rfl) (pe_callB call_len_seq (by rfl) T.len (by decide +kernel) (pa_cons (pv 0) pa_nil)))
      (pss_cons (ps_while PassesOwn.never (PW.pt (pw_and (pt_cmpR op_gt (pv 1) pe_int (nomark _)) (pw_and1 (pt_cmpR (op_eqD hr.units) (pe_ix ix_seq (pv 0) (pe_op op_sub (pv 1) pe_int) (fun _ _ => rfl)) (pe_glob (v := .ref z) (by rfl) mz rfl) (nomark _)))))
        (pss_one (ps_aug (i := 1) scTrim.nd rfl (.inl rfl) pe_int ip_sub)))
      (pss_one (ps_ret (pe_callTy call_tuple_of (by rfl) T.tuple (by decide +kernel) (pa_cons (pe_slice (sl_list.or sl_tupA) (pv 0) po_none (po_some (pv 1))) pa_nil))))), ?_⟩
    have lx := fx.len
    refine ⟨_, rfl, a, xs, rfl, sx, fun m σ H1 => H1 = H ∧ m ≤ qs.length ∧ trim qs = trimN qs m ∧ σ = [some (V.ref a), some (V.int m)], ⟨qs.length, rfl, Nat.le_refl _, rfl, by rw [← lx]; rfl⟩, ?_⟩
    rintro m σ H1 ⟨rfl, hm, e, rfl⟩
    -- the end
    have fin : trim qs = qs.take m → tRet (tCB (fun xs H Q => ∃ p ys, xs = [V.ref p] ∧ ((SqL K H p ys ∧ ∀ l, H l = none → Q (.ref l) (upd H l (.tup ys))) ∨ (SqT K H p ys ∧ Q (.ref p) H))) (tCons (tSl (fun x lo hi H_1 Q => rSlL K x lo hi H_1 Q ∨ rSlA K x lo hi H_1 Q) (tVar 0) tNoPart (tPart (tVar 1))) tNil))
        { nx := fun _ H' => Q .non H', rt := Q } [some (V.ref a), some (V.int m)] H1 := by
      intro et
      have cut : cutV xs none (some (m : Int)) = xs.take m := by
        simp only [cutV, HT.sIx_none, HT.sIx_nat, List.drop_zero, Nat.sub_zero]
        rw [Nat.min_eq_left (by omega)]
      have ft : FrAll K H1 (xs.take m) (trim qs) := by
        rw [et]
        exact fx.take m
      rcases sx with sq | sq
      · refine ⟨_, rfl, _, rfl, _, rfl, Or.inl ⟨a, xs, rfl, sq, fun p hp => ⟨p, _, rfl, Or.inl ⟨SqL.of upd_same, fun l hl => ?_⟩⟩⟩⟩
        rw [cut]
        have s1 := same_new (o := .lst (xs.take m)) hp
        rw [cut] at hl
        have s2 := same_new (o := .tup (xs.take m)) hl
        exact kk _ l _ (s1.trans s2) (SqT.of upd_same) (ft.mono (s1.trans s2))
      · refine ⟨_, rfl, _, rfl, _, rfl, Or.inr ⟨a, xs, rfl, sq, fun hw => ⟨a, xs, rfl, Or.inr ⟨sq, ?_⟩⟩, fun _ p hp => ⟨p, _, rfl, Or.inr ⟨SqT.of upd_same, ?_⟩⟩⟩⟩
        · have h2 := hw.2
          rw [HT.sIx_nat, Nat.min_eq_left (by omega)] at h2
          refine kk _ a xs (fun _ _ z => z) sq ?_
          rw [et, List.take_of_length_le (by omega)]
          exact fx
        · rw [cut]
          have s1 := same_new (o := .tup (xs.take m)) hp
          exact kk _ p _ s1 (SqT.of upd_same) (ft.mono s1)
    cases m with
    | zero =>
      refine ⟨_, rfl, _, _, rfl, rfl, _, rfl, ?_⟩
      refine fin ?_
      rw [e]
      rfl
    | succ n =>
      have ei : ((n + 1 : Nat) : Int) - 1 = (n : Int) := by omega
      obtain ⟨u, q, h1, h2, h3⟩ := fx.get (i := n) (by omega)
      have ec : co qs n = q := by
        unfold co
        rw [List.getD_eq_getElem?_getD, h2]
        rfl
      have ha : atI xs (((n + 1 : Nat) : Int) - 1) = some u := by
        rw [ei]
        exact atI_nat (j := n) h1
      refine ⟨_, rfl, _, _, rfl, rfl, true, congrArg V.bl (decide_eq_true (by omega)), iteT ?_⟩
      have rest : rEqD K u (.ref z) H1 fun x H' => ∃ k, x = .bl k ∧ (if k = true then ∃ N : L2.St → Hp → Prop, (∀ σ' H', N σ' H' → ∃ m', m' < n + 1 ∧ (H' = H1 ∧ m' ≤ qs.length ∧ trim qs = trimN qs m' ∧ σ' = [some (V.ref a), some (V.int m')])) ∧
          N [some (V.ref a), some (V.int (((n + 1 : Nat) : Int) - 1))] H' else
          tRet (tCB (fun xs H Q => ∃ p ys, xs = [V.ref p] ∧ ((SqL K H p ys ∧ ∀ l, H l = none → Q (.ref l) (upd H l (.tup ys))) ∨ (SqT K H p ys ∧ Q (.ref p) H))) (tCons (tSl (fun x lo hi H_1 Q => rSlL K x lo hi H_1 Q ∨ rSlA K x lo hi H_1 Q) (tVar 0) tNoPart (tPart (tVar 1))) tNil))
            { nx := fun _ H' => Q .non H', rt := Q } [some (V.ref a), some (V.int ((n + 1 : Nat) : Int))] H') := by
        refine ⟨dF q, dF (0, 1), h3.dp, .tup (sz H1) (.cons (.int 0) (.cons (.int 1) .nil)), rfl, rfl, _, rfl, ?_⟩
        rw [eqv_nought]
        refine ite2 (fun c => ?_) (fun c => ?_)
        · have c1 : q = (0, 1) := of_decide_eq_true c
          refine ⟨fun σ' H' => H' = H1 ∧ n ≤ qs.length ∧ trim qs = trimN qs n ∧ σ' = [some (V.ref a), some (V.int n)], fun σ' H' h => ⟨n, by omega, h⟩, rfl, by omega, ?_, by rw [ei]⟩
          rw [e, trimN, if_pos (by rw [ec]; exact c1)]
        · have c1 : ¬ q = (0, 1) := fun w => c (decide_eq_true w)
          refine fin ?_
          rw [e, trimN, if_neg (by rw [ec]; exact c1)]
      obtain ⟨d1, d2, g1, g2, g3, g4, k, ek, g5⟩ := rest
      rcases sx with sq | sq
      · refine ⟨_, rfl, _, rfl, _, _, rfl, rfl, Or.inl ⟨a, xs, _, u, rfl, rfl, sq, ha, d1, d2, g1, g2, g3, g4, k, ek, ?_⟩⟩
        cases k with
        | true =>
          obtain ⟨N, n1, n2⟩ := g5
          exact ⟨N, n1, _, rfl, _, _, rfl, rfl, n2⟩
        | false => exact g5
      · refine ⟨_, rfl, _, rfl, _, _, rfl, rfl, Or.inr (Or.inl ⟨a, xs, _, u, rfl, rfl, sq, ha, d1, d2, g1, g2, g3, g4, k, ek, ?_⟩)⟩
        cases k with
        | true =>
          obtain ⟨N, n1, n2⟩ := g5
          exact ⟨N, n1, _, rfl, _, _, rfl, rfl, n2⟩
        | false => exact g5
end
end Rs


set_option Elab.async false
set_option linter.all false
set_option maxRecDepth 100000
set_option maxHeartbeats 400000
namespace Rs
open PySem L2 Bs Fq LamX
theorem Fr.off {K : PySem.W.Frag} {H : Hp} {v : V} {q : F} {D : Addr} {acc : List V} {o : HO} (h : Fr K H v q) (hD : H D = some (.lst acc)) : Fr K (upd H D o) v q := by
  obtain ⟨a, rfl, s⟩ := h
  refine ⟨a, rfl, ?_⟩
  rcases s with (s | ⟨o', s⟩) | s
  · exact .inl (.inl ((upd_ne (ne_of s hD (by intro z; cases z))).trans s))
  · exact .inl (.inr ⟨o', (upd_ne (ne_of s hD (by intro z; cases z))).trans s⟩)
  · exact .inr s
theorem FrAll.off {K : PySem.W.Frag} {H : Hp} {D : Addr} {acc : List V} {o : HO} (hD : H D = some (.lst acc)) : ∀ {vs : List V} {qs : List F}, FrAll K H vs qs → FrAll K (upd H D o) vs qs
  | _, _, .nil => .nil
  | _, _, .cons a b => .cons (a.off hD) (FrAll.off hD b)
theorem FrAll.snoc {K : PySem.W.Frag} {H : Hp} : ∀ {vs : List V} {qs : List F} {v : V} {q : F}, FrAll K H vs qs → Fr K H v q → FrAll K H (vs ++ [v]) (qs ++ [q])
  | _, _, _, _, .nil, h => .cons h .nil
  | _, _, _, _, .cons a b, h => .cons a (FrAll.snoc b h)
theorem Po.mono {K : PySem.W.Frag} {H H' : Hp} {v : V} {qs : List F} (e : Same H H') (h : Po K H v qs) : Po K H' v qs := by
  obtain ⟨a, xs, rfl, s, f⟩ := h
  exact ⟨a, xs, rfl, Bs.Same.t e s, f.mono e⟩
end Rs


set_option linter.all false
set_option maxRecDepth 100000
set_option maxHeartbeats 400000
namespace Fq
def val (q : F) : Rat := (q.1 : Rat) / (q.2 : Rat)
theorem ne0 {b : Int} (h : 0 < b) : (b : Rat) ≠ 0 := by exact_mod_cast (by omega : b ≠ 0)
theorem val_vl {q : F} {a b : Int} (hq : 0 < q.2) (hb : 0 < b) (h : Vl q a b) : val q = (a : Rat) / (b : Rat) := by
  have h1 := ne0 hq
  have h2 := ne0 hb
  unfold Vl at h
  have h3 : (q.1 : Rat) * (b : Rat) = (a : Rat) * (q.2 : Rat) := by
    rw [← Rat.intCast_mul, ← Rat.intCast_mul, h]
  unfold val
  grind
theorem val_add {q r : F} (hq : 0 < q.2) (hr : 0 < r.2) : val (add q r) = val q + val r := by
  have o := ok_add' hq hr
  have v := vl_add hq hr (vl_self q) (vl_self r)
  rw [val_vl o.1 (Int.mul_pos hq hr) v]
  have h1 := ne0 hq
  have h2 := ne0 hr
  unfold val
  rw [Rat.intCast_add, Rat.intCast_mul, Rat.intCast_mul, Rat.intCast_mul]
  grind
theorem val_red {a b : Int} (h : 0 < b) : val (red a b) = (a : Rat) / (b : Rat) := val_vl (red_ok h).1 h (vl_red h)
theorem val_sub {q r : F} (hq : 0 < q.2) (hr : 0 < r.2) : val (sub q r) = val q - val r := by
  show val (red _ _) = _
  rw [val_red (Int.mul_pos hq hr)]
  have h1 := ne0 hq
  have h2 := ne0 hr
  unfold val
  rw [Rat.intCast_sub, Rat.intCast_mul, Rat.intCast_mul, Rat.intCast_mul]
  grind
theorem val_mul {q r : F} (hq : 0 < q.2) (hr : 0 < r.2) : val (mul q r) = val q * val r := by
  show val (red _ _) = _
  rw [val_red (Int.mul_pos hq hr)]
  have h1 := ne0 hq
  have h2 := ne0 hr
  unfold val
  rw [Rat.intCast_mul, Rat.intCast_mul]
  grind
theorem val_zero : val (0, 1) = 0 := by
  unfold val
  simp
  grind
theorem val_one : val (1, 1) = 1 := by
  unfold val
  simp
  grind
theorem val_inj {q r : F} (o : Ok q) (o' : Ok r) (h : val q = val r) : q = r := by
  refine vl_uniq (a := r.1) (b := r.2) o o' (by have := o'.1; omega) ?_ rfl
  have h1 := ne0 o.1
  have h2 := ne0 o'.1
  have h3 : (q.1 : Rat) * (r.2 : Rat) = (r.1 : Rat) * (q.2 : Rat) := by
    unfold val at h
    grind
  show q.1 * r.2 = r.1 * q.2
  rw [← Rat.intCast_mul, ← Rat.intCast_mul] at h3
  exact_mod_cast h3
def sm (f : Nat → Rat) : Nat → Rat
  | 0 => 0
  | n + 1 => sm f n + f n
theorem sm_congr {f g : Nat → Rat} : ∀ {n : Nat}, (∀ i, i < n → f i = g i) → sm f n = sm g n
  | 0, _ => rfl
  | n + 1, h => by
    show sm f n + f n = sm g n + g n
    rw [sm_congr (fun i hi => h i (by omega)), h n (by omega)]
theorem sm_zero {f : Nat → Rat} {n : Nat} (h : ∀ i, i < n → f i = 0) : sm f n = 0 := by
  rw [sm_congr h]
  induction n with
  | zero => rfl
  | succ n ih =>
    show sm (fun _ => 0) n + 0 = 0
    rw [ih (fun i hi => h i (by omega))]
    grind
theorem sm_sub (f g : Nat → Rat) : ∀ n, sm (fun i => f i - g i) n = sm f n - sm g n
  | 0 => by show (0 : Rat) = 0 - 0; grind
  | n + 1 => by
    show sm _ n + _ = (sm f n + f n) - (sm g n + g n)
    rw [sm_sub f g n]
    grind
theorem sm_mul (c : Rat) (f : Nat → Rat) : ∀ n, sm (fun i => c * f i) n = c * sm f n
  | 0 => by show (0 : Rat) = c * 0; grind
  | n + 1 => by
    show sm _ n + _ = c * (sm f n + f n)
    rw [sm_mul c f n]
    grind
theorem sm_left (f : Nat → Rat) : ∀ n, sm f (n + 1) = f 0 + sm (fun i => f (i + 1)) n
  | 0 => by show (0 : Rat) + f 0 = f 0 + 0; grind
  | n + 1 => by
    show sm f (n + 1) + f (n + 1) = f 0 + (sm _ n + f (n + 1))
    rw [sm_left f n]
    grind
theorem sm_more {f : Nat → Rat} {n : Nat} (h : ∀ i, n ≤ i → f i = 0) : ∀ d, sm f (n + d) = sm f n
  | 0 => rfl
  | d + 1 => by
    show sm f (n + d) + f (n + d) = _
    rw [sm_more h d, h _ (by omega)]
    grind
def J (A B : Nat → Rat) (s : Nat → Rat) : Nat → Rat := fun h => (if h = 0 then 0 else s (h - 1)) + A h * s h + B h * s (h + 1)
def Jn (A B : Nat → Rat) : Nat → (Nat → Rat) → Nat → Rat
  | 0, u => u
  | n + 1, u => J A B (Jn A B n u)
theorem Jn_in (A B : Nat → Rat) (u : Nat → Rat) : ∀ n, Jn A B n (J A B u) = Jn A B (n + 1) u
  | 0 => rfl
  | n + 1 => by
    show J A B (Jn A B n (J A B u)) = J A B (Jn A B (n + 1) u)
    rw [Jn_in A B u n]
theorem Jn_add (A B : Nat → Rat) (u : Nat → Rat) (j : Nat) : ∀ i, Jn A B (i + j) u = Jn A B i (Jn A B j u)
  | 0 => by rw [Nat.zero_add]; rfl
  | i + 1 => by
    rw [show i + 1 + j = (i + j) + 1 by omega]
    show J A B (Jn A B (i + j) u) = J A B (Jn A B i (Jn A B j u))
    rw [Jn_add A B u j i]
theorem J_sm (A B : Nat → Rat) (c : Nat → Rat) (g : Nat → Nat → Rat) : ∀ n, J A B (fun h => sm (fun i => c i * g i h) n) = fun h => sm (fun i => c i * J A B (g i) h) n
  | 0 => by
    funext h
    show (if h = 0 then (0 : Rat) else 0) + A h * 0 + B h * 0 = 0
    split <;> grind
  | n + 1 => by
    funext h
    have ih := congrFun (J_sm A B c g n) h
    show _ = sm _ n + c n * J A B (g n) h
    rw [← ih]
    unfold J
    show (if h = 0 then (0 : Rat) else sm _ n + _) + A h * (sm _ n + _) + B h * (sm _ n + _) = _
    split <;> grind
theorem Jn_sm (A B : Nat → Rat) (c : Nat → Rat) (g : Nat → Nat → Rat) (n : Nat) : ∀ m, Jn A B m (fun h => sm (fun i => c i * g i h) n) = fun h => sm (fun i => c i * Jn A B m (g i) h) n
  | 0 => rfl
  | m + 1 => by
    show J A B (Jn A B m _) = _
    rw [Jn_sm A B c g n m, J_sm]
    rfl
/-- the standard functions -/
def ek (k : Nat) : Nat → Rat := fun h => if h = k then 1 else 0
theorem J_ek (A B : Nat → Rat) (k : Nat) : J A B (ek k) = fun h => ek (k + 1) h + A k * ek k h + (if k = 0 then 0 else B (k - 1) * ek (k - 1) h) := by
  funext h
  unfold J ek
  by_cases h0 : h = 0
  · subst h0
    by_cases k0 : k = 0
    · subst k0
      simp
    · by_cases k1 : k = 1
      · subst k1
        simp
      · simp
        have : ¬ (0 = k) := by omega
        have : ¬ (0 = k - 1) := by omega
        have : ¬ (1 = k) := by omega
        grind
  · by_cases e1 : h = k + 1
    · subst e1
      simp
      have : ¬ (k + 1 = k - 1) := by omega
      grind
    · by_cases e2 : h = k
      · subst e2
        have : ¬ (h - 1 = h) := by omega
        have : ¬ (h = h - 1) := by omega
        simp
        grind
      · by_cases e3 : h + 1 = k
        · subst e3
          simp
          grind
        · have : ¬ (h - 1 = k) := by omega
          have : ¬ (h = k - 1) := by omega
          grind
def pc (A B : Nat → Rat) : Nat → Nat → Rat
  | 0 => fun i => if i = 0 then 1 else 0
  | 1 => fun i => (if i = 0 then 0 else if i = 1 then 1 else 0) - A 0 * (if i = 0 then 1 else 0)
  | k + 2 => fun i => (if i = 0 then 0 else pc A B (k + 1) (i - 1)) - A (k + 1) * pc A B (k + 1) i - B k * pc A B k i
theorem pc_hi (A B : Nat → Rat) : ∀ k i, k < i → pc A B k i = 0
  | 0, i, h => by
    show (if i = 0 then (1 : Rat) else 0) = 0
    rw [if_neg (by omega)]
  | 1, i, h => by
    show (if i = 0 then (0 : Rat) else if i = 1 then 1 else 0) - A 0 * (if i = 0 then 1 else 0) = 0
    rw [if_neg (by omega), if_neg (by omega), if_neg (by omega)]
    grind
  | k + 2, i, h => by
    show (if i = 0 then (0 : Rat) else pc A B (k + 1) (i - 1)) - A (k + 1) * pc A B (k + 1) i - B k * pc A B k i = 0
    rw [if_neg (by omega), pc_hi A B (k + 1) _ (by omega), pc_hi A B (k + 1) i (by omega), pc_hi A B k i (by omega)]
    grind
/-- a polynomial at J, on u -/
def ev (A B : Nat → Rat) (c : Nat → Rat) (n : Nat) (u : Nat → Rat) : Nat → Rat := fun h => sm (fun i => c i * Jn A B i u h) n
theorem ev_more {A B c : Nat → Rat} {n : Nat} (h : ∀ i, n ≤ i → c i = 0) (u : Nat → Rat) (d : Nat) : ev A B c (n + d) u = ev A B c n u := by
  funext x
  refine sm_more (fun i hi => ?_) d
  rw [h i hi]
  grind
theorem ev_pc2 (A B : Nat → Rat) (k : Nat) (u : Nat → Rat) : ev A B (pc A B (k + 2)) (k + 3) u = fun h => ev A B (pc A B (k + 1)) (k + 2) (J A B u) h - A (k + 1) * ev A B (pc A B (k + 1)) (k + 2) u h - B k * ev A B (pc A B k) (k + 1) u h := by
  funext h
  have e1 : sm (fun i => pc A B (k + 1) i * Jn A B i u h) (k + 3) = ev A B (pc A B (k + 1)) (k + 2) u h :=
    congrFun (ev_more (n := k + 2) (fun i hi => pc_hi A B _ _ (by omega)) u 1) h
  have e2 : sm (fun i => pc A B k i * Jn A B i u h) (k + 3) = ev A B (pc A B k) (k + 1) u h :=
    congrFun (ev_more (n := k + 1) (fun i hi => pc_hi A B _ _ (by omega)) u 2) h
  have e3 : sm (fun i => (if i = 0 then 0 else pc A B (k + 1) (i - 1)) * Jn A B i u h) (k + 3) = ev A B (pc A B (k + 1)) (k + 2) (J A B u) h := by
    rw [sm_left]
    show (if 0 = 0 then (0 : Rat) else _) * _ + _ = _
    rw [if_pos rfl]
    have : sm (fun i => (if i + 1 = 0 then 0 else pc A B (k + 1) (i + 1 - 1)) * Jn A B (i + 1) u h) (k + 2) = ev A B (pc A B (k + 1)) (k + 2) (J A B u) h := by
      refine sm_congr fun i hi => ?_
      rw [if_neg (by omega), Nat.add_sub_cancel, ← Jn_in]
    rw [this]
    grind
  rw [← e1, ← e2, ← e3, ← sm_mul, ← sm_mul, ← sm_sub, ← sm_sub]
  refine sm_congr fun i hi => ?_
  show ((if i = 0 then (0 : Rat) else pc A B (k + 1) (i - 1)) - A (k + 1) * pc A B (k + 1) i - B k * pc A B k i) * Jn A B i u h = _
  grind
theorem ev_pc0 (A B : Nat → Rat) (u : Nat → Rat) : ev A B (pc A B 0) 1 u = u := by
  funext h
  show (0 : Rat) + (if 0 = 0 then 1 else 0) * u h = u h
  rw [if_pos rfl]
  grind
theorem ev_pc1 (A B : Nat → Rat) (u : Nat → Rat) : ev A B (pc A B 1) 2 u = fun h => J A B u h - A 0 * u h := by
  funext h
  show ((0 : Rat) + ((if 0 = 0 then 0 else _) - A 0 * (if 0 = 0 then 1 else 0)) * u h) + ((if 1 = 0 then (0 : Rat) else if 1 = 1 then 1 else 0) - A 0 * (if 1 = 0 then 1 else 0)) * J A B u h = _
  rw [if_pos rfl, if_pos rfl, if_neg (by decide), if_pos rfl, if_neg (by decide)]
  grind
/-- a polynomial at J commutes with J -/
theorem ev_J (A B c : Nat → Rat) (n : Nat) (u : Nat → Rat) : ev A B c n (J A B u) = J A B (ev A B c n u) := by
  show _ = J A B (fun h => sm (fun i => c i * Jn A B i u h) n)
  rw [J_sm]
  funext h
  refine sm_congr fun i _ => ?_
  rw [Jn_in]
  rfl
theorem up2 {f : Nat → Prop} (h0 : f 0) (h1 : f 1) (h : ∀ k, f k → f (k + 1) → f (k + 2)) : ∀ k, f k := by
  have : ∀ k, f k ∧ f (k + 1) := by
    intro k
    induction k with
    | zero => exact ⟨h0, h1⟩
    | succ k ih => exact ⟨ih.2, h k ih.1 ih.2⟩
  exact fun k => (this k).1
/-- the k-th polynomial takes the first function to the k-th -/
theorem favard1 (A B : Nat → Rat) : ∀ k, ev A B (pc A B k) (k + 1) (ek 0) = ek k := by
  refine up2 (ev_pc0 A B _) ?_ fun k h1 h2 => ?_
  · rw [ev_pc1, J_ek]
    funext h
    show ek 1 h + A 0 * ek 0 h + (if 0 = 0 then 0 else _) - A 0 * ek 0 h = ek 1 h
    rw [if_pos rfl]
    grind
  · rw [ev_pc2, ev_J, h1, h2, J_ek]
    funext h
    show ek (k + 1 + 1) h + A (k + 1) * ek (k + 1) h + (if k + 1 = 0 then 0 else B (k + 1 - 1) * ek (k + 1 - 1) h) - A (k + 1) * ek (k + 1) h - B k * ek k h = ek (k + 2) h
    rw [if_neg (by omega), Nat.add_sub_cancel]
    grind
/-- the product of the first k steps -/
def pB (B : Nat → Rat) : Nat → Rat
  | 0 => 1
  | k + 1 => pB B k * B k
theorem favard2 (A B : Nat → Rat) : ∀ k, ∀ u : Nat → Rat, ev A B (pc A B k) (k + 1) u 0 = pB B k * u k := by
  refine up2 (fun u => ?_) (fun u => ?_) fun k h1 h2 u => ?_
  · rw [ev_pc0]
    show u 0 = 1 * u 0
    grind
  · rw [ev_pc1]
    show (if 0 = 0 then (0 : Rat) else _) + A 0 * u 0 + B 0 * u 1 - A 0 * u 0 = 1 * B 0 * u 1
    rw [if_pos rfl]
    grind
  · rw [ev_pc2]
    show ev A B (pc A B (k + 1)) (k + 2) (J A B u) 0 - A (k + 1) * ev A B (pc A B (k + 1)) (k + 2) u 0 - B k * ev A B (pc A B k) (k + 1) u 0 = _
    rw [h2, h2, h1]
    show pB B (k + 1) * ((if k + 1 = 0 then (0 : Rat) else u (k + 1 - 1)) + A (k + 1) * u (k + 1) + B (k + 1) * u (k + 1 + 1)) - _ - _ = pB B (k + 1) * B (k + 1) * u (k + 2)
    rw [if_neg (by omega), Nat.add_sub_cancel]
    show pB B k * B k * _ - A (k + 1) * (pB B k * B k * u (k + 1)) - _ = pB B k * B k * B (k + 1) * u (k + 2)
    grind
/-- an ended ladder: above the end nothing comes back -/
theorem ended_zero (A B : Nat → Rat) {m : Nat} (hB : B (m - 1) = 0) (hm : 0 < m) : ∀ k h, h < m → Jn A B k (ek m) h = 0
  | 0, h, hh => by
    show (if h = m then (1 : Rat) else 0) = 0
    rw [if_neg (by omega)]
  | k + 1, h, hh => by
    show (if h = 0 then (0 : Rat) else Jn A B k (ek m) (h - 1)) + A h * Jn A B k (ek m) h + B h * Jn A B k (ek m) (h + 1) = 0
    rw [ended_zero A B hB hm k h hh]
    have e : B h * Jn A B k (ek m) (h + 1) = 0 := by
      by_cases c : h + 1 < m
      · rw [ended_zero A B hB hm k (h + 1) c]
        grind
      · rw [show h = m - 1 by omega, hB]
        grind
    rw [e]
    split
    · grind
    · rw [ended_zero A B hB hm k (h - 1) (by omega)]
      grind
end Fq


set_option linter.all false
set_option maxRecDepth 100000
set_option maxHeartbeats 400000
namespace Fq
open Rs (co co_get co_lt co_ge co_mem co_all)
structure Zs (n : Nat) (q : F) : Prop where
  ok : Ok q
  v : ∃ t : Int, Vl q t (6 ^ n) ∧ t.natAbs ≤ 2 ^ (9 * n)
theorem six_pos (n : Nat) : (0 : Int) < 6 ^ n := Int.pow_pos (by decide)
theorem p9 (n : Nat) : 2 ^ (9 * (n + 1)) = 2 ^ (9 * n) * 512 := by
  rw [show 9 * (n + 1) = 9 * n + 9 by omega, Nat.pow_add]
theorem Zs.up {n : Nat} {q : F} (h : Zs n q) : Zs (n + 1) q := by
  obtain ⟨o, t, v, l⟩ := h
  refine ⟨o, t * 6, ?_, ?_⟩
  · rw [Int.pow_succ]
    exact vl_times 6 v
  · rw [Int.natAbs_mul, p9]
    exact Nat.mul_le_mul l (by decide)
theorem Zs.mono {n m : Nat} {q : F} (h : Zs n q) (e : n ≤ m) : Zs m q := by
  induction e with
  | refl => exact h
  | step _ ih => exact ih.up
theorem Zs.zero {n : Nat} : Zs n (0, 1) := ⟨ok01, 0, by show (0 : Int) * _ = 0 * 1; rw [Int.zero_mul, Int.zero_mul], Nat.zero_le _⟩
theorem Zs.one {n : Nat} : Zs n (1, 1) := Zs.mono (n := 0) ⟨⟨by decide, by decide⟩, 1, by show (1 : Int) * 1 = 1 * 1; rfl, by decide⟩ (Nat.zero_le n)
theorem Zs.mul {n m : Nat} {q r : F} (h : Zs n q) (g : Zs m r) : Zs (n + m) (mul q r) := by
  obtain ⟨o, t, v, l⟩ := h
  obtain ⟨o', t', v', l'⟩ := g
  refine ⟨ok_mul' o.1 o'.1, t * t', ?_, ?_⟩
  · rw [Int.pow_add]
    exact vl_mul o.1 o'.1 v v'
  · rw [Int.natAbs_mul, Nat.mul_add, Nat.pow_add]
    exact Nat.mul_le_mul l l'
theorem vl_sub {q r : F} {a b c d : Int} (hq : 0 < q.2) (hr : 0 < r.2) (h1 : Vl q a b) (h2 : Vl r c d) : Vl (sub q r) (a * d - c * b) (b * d) := by
  have hm : 0 < q.2 * r.2 := Int.mul_pos hq hr
  have v := vl_red (a := q.1 * r.2 - r.1 * q.2) hm
  unfold Vl at *
  show (red _ _).1 * _ = _ * (red _ _).2
  generalize red (q.1 * r.2 - r.1 * q.2) (q.2 * r.2) = s at *
  refine mul_cancel (m := q.2 * r.2) (by omega) ?_
  generalize q.1 = q1 at *; generalize q.2 = q2 at *; generalize r.1 = r1 at *; generalize r.2 = r2 at *; generalize s.1 = s1 at *; generalize s.2 = s2 at *
  have e : s1 * (b * d) * (q2 * r2) = (s1 * (q2 * r2)) * (b * d) := by grind
  rw [e, v]
  have e2 : (q1 * r2 - r1 * q2) * s2 * (b * d) = s2 * ((q1 * b) * r2 * d - (r1 * d) * q2 * b) := by grind
  rw [e2, h1, h2]
  grind
theorem vl_same {q : F} {x D : Int} (hD : 0 < D) (h : Vl q (x * D) (D * D)) : Vl q x D := by
  unfold Vl at *
  refine mul_cancel (m := D) (by omega) ?_
  rw [Int.mul_assoc, h]
  grind
theorem Zs.add {n : Nat} {q r : F} (h : Zs n q) (g : Zs n r) : Zs (n + 1) (add q r) := by
  obtain ⟨o, t, v, l⟩ := h
  obtain ⟨o', t', v', l'⟩ := g
  have s := vl_add o.1 o'.1 v v'
  rw [← Int.add_mul] at s
  refine ⟨ok_add' o.1 o'.1, (t + t') * 6, ?_, ?_⟩
  · rw [Int.pow_succ]
    exact vl_times 6 (vl_same (six_pos n) s)
  · have := Int.natAbs_add_le t t'
    rw [Int.natAbs_mul, p9, show (6 : Int).natAbs = 6 from rfl]
    generalize 2 ^ (9 * n) = X at *
    omega
theorem Zs.sub {n : Nat} {q r : F} (h : Zs n q) (g : Zs n r) : Zs (n + 1) (sub q r) := by
  obtain ⟨o, t, v, l⟩ := h
  obtain ⟨o', t', v', l'⟩ := g
  have s := vl_sub o.1 o'.1 v v'
  rw [← Int.sub_mul] at s
  refine ⟨ok_sub' o.1 o'.1, (t - t') * 6, ?_, ?_⟩
  · rw [Int.pow_succ]
    exact vl_times 6 (vl_same (six_pos n) s)
  · have := Int.natAbs_sub_le t t'
    rw [Int.natAbs_mul, p9, show (6 : Int).natAbs = 6 from rfl]
    generalize 2 ^ (9 * n) = X at *
    omega
/-- what the reckoning wants of a size -/
theorem Zs.small {n : Nat} {q : F} (h : Zs n q) (e : n ≤ 400) : q.1.natAbs < 2 ^ 4000 ∧ 0 < q.2 ∧ q.2.natAbs < 2 ^ 4000 := by
  obtain ⟨o, t, v, l⟩ := h
  have d := vl_dvd o v
  have p := six_pos n
  have s : q.2 ≤ 6 ^ n := Int.le_of_dvd p d
  obtain ⟨x, hx⟩ := d
  have x0 : 0 < x := by
    rw [hx] at p
    exact Int.pos_of_mul_pos_right p o.1 |> id
  have et : q.1 * x = t := by
    unfold Vl at v
    refine mul_cancel (m := q.2) (by have := o.1; omega) ?_
    rw [← v, hx]
    grind
  have b : 2 ^ (9 * n) < 2 ^ 4000 := Nat.pow_lt_pow_right (by decide) (by omega)
  have c : (6 ^ n : Nat) < 2 ^ 4000 := by
    refine Nat.lt_of_le_of_lt ?_ b
    rw [Nat.pow_mul]
    exact Nat.pow_le_pow_left (by decide) n
  refine ⟨?_, o.1, ?_⟩
  · refine Nat.lt_of_le_of_lt (Nat.le_trans ?_ l) b
    rw [← et, Int.natAbs_mul]
    exact Nat.le_mul_of_pos_right _ (by omega)
  · refine Nat.lt_of_le_of_lt ?_ c
    have e2 : ((6 ^ n : Nat) : Int) = 6 ^ n := by rw [Int.natCast_pow]; rfl
    have := o.1
    omega
/-- a small fraction: the law's levels, steps and totals -/
theorem Zs.of {q : F} (o : Ok q) (d : q.2 ∣ 6) (a : q.1.natAbs ≤ 85) : Zs 1 q := by
  obtain ⟨x, hx⟩ := d
  have x0 : 0 < x := by
    have : 0 < q.2 * x := by omega
    exact Int.pos_of_mul_pos_right this o.1 |> id
  have x6 : x ≤ 6 := by
    have := o.1
    have h1 : 1 * x ≤ q.2 * x := Int.mul_le_mul_of_nonneg_right (by omega) (by omega)
    omega
  refine ⟨o, q.1 * x, ?_, ?_⟩
  · show q.1 * 6 ^ 1 = q.1 * x * q.2
    rw [Int.pow_one, hx]
    grind
  · rw [Int.natAbs_mul]
    have : q.1.natAbs * x.natAbs ≤ 85 * 6 := Nat.mul_le_mul a (by omega)
    have : 2 ^ (9 * 1) = 512 := by decide
    omega
def Za (n : Nat) (l : List F) : Prop := ∀ q ∈ l, Zs n q
theorem Za.co {n : Nat} {l : List F} (h : Za n l) (k : Nat) : Zs n (Rs.co l k) := co_all h Zs.zero k
theorem Za.mono {n m : Nat} {l : List F} (h : Za n l) (e : n ≤ m) : Za m l := fun q hq => (h q hq).mono e
/-- a list of fractions by its worths -/
theorem list_eq {n m : Nat} {a b : List F} (ha : Za n a) (hb : Za m b) (hl : a.length = b.length) (h : ∀ i, i < a.length → val (co a i) = val (co b i)) : a = b := by
  refine List.ext_getElem? fun i => ?_
  by_cases c : i < a.length
  · rw [co_lt c, co_lt (hl ▸ c), val_inj (ha.co i).ok (hb.co i).ok (h i c)]
  · rw [List.getElem?_eq_none (by omega), List.getElem?_eq_none (by omega)]
theorem co_map {n : Nat} {f : Nat → F} {k : Nat} : co ((List.range n).map f) k = if k < n then f k else (0, 1) := by
  split
  · rename_i h
    refine co_get ?_
    rw [List.getElem?_map, List.getElem?_range h]
    rfl
  · rename_i h
    exact co_ge (by simp; omega)
theorem co_map1 {l : List F} {f : F → F} {k : Nat} : co (l.map f) k = if k < l.length then f (co l k) else (0, 1) := by
  split
  · rename_i h
    refine co_get ?_
    rw [List.getElem?_map, co_lt h]
    rfl
  · rename_i h
    exact co_ge (by simp; omega)
theorem trimN_co (qs : List F) : ∀ n, n ≤ qs.length → ∀ i, co (Rs.trimN qs n) i = if i < n then co qs i else (0, 1)
  | 0, _, i => by
    rw [if_neg (by omega)]
    exact co_ge (Nat.zero_le _)
  | n + 1, h, i => by
    unfold Rs.trimN
    split
    · rename_i z
      rw [trimN_co qs n (by omega)]
      by_cases c : i < n
      · rw [if_pos c, if_pos (by omega)]
      · by_cases e : i = n
        · subst e
          rw [if_neg c, if_pos (by omega), z]
        · rw [if_neg c, if_neg (by omega)]
    · split
      · rename_i c
        refine co_get ?_
        rw [List.getElem?_take_of_lt (by omega), co_lt (by omega)]
      · exact co_ge (by rw [List.length_take]; omega)
theorem trim_co (qs : List F) (i : Nat) : co (Rs.trim qs) i = co qs i := by
  unfold Rs.trim
  rw [trimN_co qs _ (Nat.le_refl _)]
  split
  · rfl
  · rw [co_ge (by omega)]
theorem trim_za {n : Nat} {l : List F} (h : Za n l) : Za n (Rs.trim l) := fun q hq => h q (Rs.trim_mem hq)
def sumF (z : F) (l : List F) : F := l.foldl add z
theorem sumF_snoc (z : F) (l : List F) (q : F) : sumF z (l ++ [q]) = add (sumF z l) q := by
  unfold sumF
  rw [List.foldl_append]
  rfl
theorem sum_map {n : Nat} {g : Nat → F} (h : ∀ i, Zs n (g i)) : ∀ m, Zs (n + m) (sumF (0, 1) ((List.range m).map g)) ∧ val (sumF (0, 1) ((List.range m).map g)) = sm (fun i => val (g i)) m
  | 0 => ⟨Zs.zero, val_zero⟩
  | m + 1 => by
    obtain ⟨a, b⟩ := sum_map h m
    rw [List.range_succ, List.map_append, List.map_singleton, sumF_snoc]
    refine ⟨a.add ((h m).mono (by omega)), ?_⟩
    rw [val_add a.ok.1 (h m).ok.1, b]
    rfl
def sumBy (some row : List F) : F := sumF (0, 1) (List.zipWith mul some row)
theorem zip_map {a b : List F} (h : a.length ≤ b.length) : List.zipWith mul a b = (List.range a.length).map fun i => mul (co a i) (co b i) := by
  refine List.ext_getElem? fun i => ?_
  rw [List.getElem?_zipWith]
  by_cases c : i < a.length
  · rw [co_lt c, co_lt (Nat.lt_of_lt_of_le c h), List.getElem?_map, List.getElem?_range c]
    rfl
  · rw [List.getElem?_eq_none (by omega), List.getElem?_eq_none (l := List.map _ _) (by simp; omega)]
theorem sumBy_val {n m : Nat} {a b : List F} (ha : Za n a) (hb : Za m b) (h : a.length ≤ b.length) :
    Zs (n + m + a.length) (sumBy a b) ∧ val (sumBy a b) = sm (fun i => val (co a i) * val (co b i)) a.length := by
  unfold sumBy
  rw [zip_map h]
  obtain ⟨x, y⟩ := sum_map (g := fun i => mul (co a i) (co b i)) (fun i => (ha.co i).mul (hb.co i)) a.length
  refine ⟨x, ?_⟩
  rw [y]
  refine sm_congr fun i _ => ?_
  exact val_mul (ha.co i).ok.1 (hb.co i).ok.1
theorem co_set {w : List F} {k : Nat} (x : F) (hk : k < w.length) (m : Nat) : co (w.set k x) m = if m = k then x else co w m := by
  split
  · rename_i e
    subst e
    exact co_get (List.getElem?_set_self hk)
  · rename_i e
    unfold Rs.co
    rw [List.getD_eq_getElem?_getD, List.getD_eq_getElem?_getD, List.getElem?_set_ne (by omega)]
theorem sm_upd (g : Nat → Rat) (c : Rat) (k : Nat) : ∀ n, k < n → sm (fun m => if m = k then g m + c else g m) n = sm g n + c
  | 0, h => absurd h (by omega)
  | n + 1, h => by
    by_cases e : k = n
    · subst e
      show sm _ k + (if k = k then g k + c else g k) = sm g k + g k + c
      rw [if_pos rfl, sm_congr (g := g) (fun i hi => if_neg (by omega))]
      grind
    · show sm _ n + (if n = k then g n + c else g n) = sm g n + g n + c
      rw [if_neg (by omega), sm_upd g c k n (by omega)]
      grind
def wt (f : Nat → Rat) (w : List F) : Rat := sm (fun m => val (co w m) * f m) w.length
theorem wt_set {n : Nat} {w : List F} (hw : Za n w) {y : F} (hy : 0 < y.2) (f : Nat → Rat) {k : Nat} (hk : k < w.length) : wt f (w.set k (add (co w k) y)) = wt f w + val y * f k := by
  unfold wt
  rw [List.length_set, ← sm_upd (fun m => val (co w m) * f m) (val y * f k) k w.length hk]
  refine sm_congr fun m _ => ?_
  show val (co (w.set k _) m) * f m = _
  rw [co_set _ hk]
  split
  · rename_i e
    subst e
    rw [val_add (hw.co m).ok.1 hy]
    grind
  · rfl
theorem za_set {n : Nat} {w : List F} (hw : Za n w) {y : F} (hy : Zs n y) (k : Nat) : Za n (w.set k y) := fun q hq => by
  rcases List.mem_or_eq_of_mem_set hq with m | rfl
  · exact hw q m
  · exact hy
theorem stepJ_wt {n a b i : Nat} {w : List F} {p : F} {rs : List F} (hw : Za n w) (hp : Zs a p) (hr : Za b rs) (hn : a + b ≤ n) (f : Nat → Rat) : ∀ j, i + j ≤ w.length →
    Za (n + j) (Rs.stepJ w i p rs j) ∧ wt f (Rs.stepJ w i p rs j) = wt f w + val p * sm (fun j => val (co rs j) * f (i + j)) j
  | 0, _ => ⟨hw, by show wt f w = wt f w + val p * 0; grind⟩
  | j + 1, h => by
    obtain ⟨x, y⟩ := stepJ_wt (i := i) hw hp hr hn f j (by omega)
    have l := Rs.stepJ_len w i p rs j
    have z : Zs (n + j) (mul p (co rs j)) := (hp.mul (hr.co j)).mono (by omega)
    refine ⟨za_set (x.mono (Nat.le_succ _)) ((x.co _).add z) _, ?_⟩
    show wt f (List.set _ _ _) = _
    rw [wt_set x z.ok.1 f (by omega), y, val_mul hp.ok.1 (hr.co j).ok.1]
    show _ = wt f w + val p * (sm _ j + val (co rs j) * f (i + j))
    grind
theorem stepI_wt {n a b : Nat} {w qs rs : List F} (hw : Za n w) (hq : Za a qs) (hr : Za b rs) (hn : a + b ≤ n) (f : Nat → Rat) : ∀ i, i + rs.length ≤ w.length + 1 →
    Za (n + i * rs.length) (Rs.stepI w qs rs i) ∧ wt f (Rs.stepI w qs rs i) = wt f w + sm (fun i => val (co qs i) * sm (fun j => val (co rs j) * f (i + j)) rs.length) i
  | 0, _ => ⟨by rw [Nat.zero_mul]; exact hw, by show wt f w = wt f w + 0; grind⟩
  | i + 1, h => by
    obtain ⟨x, y⟩ := stepI_wt hw hq hr hn f i (by omega)
    have l := Rs.stepI_len w qs rs i
    obtain ⟨u, v⟩ := stepJ_wt (i := i) x (hq.co i) hr (by omega) f rs.length (by omega)
    refine ⟨?_, ?_⟩
    · rw [Nat.succ_mul, ← Nat.add_assoc]
      exact u
    · show wt f (Rs.stepJ _ _ _ _ _) = _
      rw [v, y]
      show _ = wt f w + (sm _ i + _)
      grind
theorem prodN_wt {a b : Nat} {qs rs : List F} (hq : Za a qs) (hr : Za b rs) (h1 : qs ≠ []) (h2 : rs ≠ []) (f : Nat → Rat) :
    Za (a + b + qs.length * rs.length) (Rs.prodN (qs.length + rs.length - 1) qs rs) ∧
    wt f (Rs.prodN (qs.length + rs.length - 1) qs rs) = sm (fun i => val (co qs i) * sm (fun j => val (co rs j) * f (i + j)) rs.length) qs.length := by
  have l1 : 0 < qs.length := List.length_pos_iff.mpr h1
  have l2 : 0 < rs.length := List.length_pos_iff.mpr h2
  have hw : Za (a + b) (List.replicate (qs.length + rs.length - 1) ((0, 1) : F)) := fun q hq => by
    rw [(List.mem_replicate.mp hq).2]
    exact Zs.zero
  obtain ⟨x, y⟩ := stepI_wt hw hq hr (Nat.le_refl _) f qs.length (by rw [List.length_replicate]; omega)
  refine ⟨x, ?_⟩
  unfold Rs.prodN
  rw [y]
  have : wt f (List.replicate (qs.length + rs.length - 1) ((0, 1) : F)) = 0 := by
    refine sm_zero fun i _ => ?_
    have : co (List.replicate (qs.length + rs.length - 1) ((0, 1) : F)) i = (0, 1) := by
      unfold Rs.co
      rw [List.getD_eq_getElem?_getD]
      cases e : (List.replicate (qs.length + rs.length - 1) ((0, 1) : F))[i]? with
      | none => rfl
      | some q => exact (List.mem_replicate.mp (List.mem_of_getElem? e)).2
    rw [this, val_zero]
    grind
  rw [this]
  grind
end Fq


set_option linter.all false
set_option maxRecDepth 100000
set_option maxHeartbeats 400000
namespace Fq
open Rs (co co_get co_lt co_ge co_mem co_all)
def Ov (D : Int) (n : Nat) (x : Rat) : Prop := ∃ t : Int, x * (D : Rat) = (t : Rat) ∧ t.natAbs ≤ 2 ^ n
section
variable {D E : Int} {n m k : Nat} {x y : Rat}
theorem Ov.mono (h : Ov D n x) (e : n ≤ m) : Ov D m x := by
  obtain ⟨t, a, b⟩ := h
  exact ⟨t, a, Nat.le_trans b (Nat.pow_le_pow_right (by decide) e)⟩
theorem Ov.zero : Ov D n 0 := ⟨0, by rw [Rat.zero_mul]; rfl, Nat.zero_le _⟩
theorem Ov.one : Ov 1 n 1 := ⟨1, by rw [Rat.one_mul], Nat.one_le_two_pow⟩
theorem Ov.add (h : Ov D n x) (g : Ov D n y) : Ov D (n + 1) (x + y) := by
  obtain ⟨t, a, b⟩ := h
  obtain ⟨u, c, d⟩ := g
  refine ⟨t + u, ?_, ?_⟩
  · rw [Rat.intCast_add, ← a, ← c]
    grind
  · have := Int.natAbs_add_le t u
    rw [Nat.pow_succ]
    omega
theorem Ov.sub (h : Ov D n x) (g : Ov D n y) : Ov D (n + 1) (x - y) := by
  obtain ⟨t, a, b⟩ := h
  obtain ⟨u, c, d⟩ := g
  refine ⟨t - u, ?_, ?_⟩
  · rw [Rat.intCast_sub, ← a, ← c]
    grind
  · have := Int.natAbs_sub_le t u
    rw [Nat.pow_succ]
    omega
theorem Ov.mul (h : Ov D n x) (g : Ov E m y) : Ov (D * E) (n + m) (x * y) := by
  obtain ⟨t, a, b⟩ := h
  obtain ⟨u, c, d⟩ := g
  refine ⟨t * u, ?_, ?_⟩
  · rw [Rat.intCast_mul, Rat.intCast_mul, ← a, ← c]
    grind
  · rw [Int.natAbs_mul, Nat.pow_add]
    exact Nat.mul_le_mul b d
theorem Ov.scale (h : Ov D n x) (l : E.natAbs ≤ 2 ^ k) : Ov (D * E) (n + k) x := by
  obtain ⟨t, a, b⟩ := h
  refine ⟨t * E, ?_, ?_⟩
  · rw [Rat.intCast_mul, Rat.intCast_mul, ← a]
    grind
  · rw [Int.natAbs_mul, Nat.pow_add]
    exact Nat.mul_le_mul b l
theorem Ov.cong (h : Ov D n x) (e : D = E) : Ov E n x := e ▸ h
theorem Ov.sm {f : Nat → Rat} (h : ∀ i, Ov D n (f i)) : ∀ m, Ov D (n + m) (sm f m)
  | 0 => Ov.zero
  | m + 1 => (Ov.sm h m).add ((h m).mono (by omega))
/-- the top of what is above nought -/
theorem Ov.top (h : Ov D n x) (p : 0 < D) (q : 0 < x) : ∃ u : Int, 0 < u ∧ u.natAbs ≤ 2 ^ n ∧ x * (D : Rat) = (u : Rat) := by
  obtain ⟨t, a, b⟩ := h
  refine ⟨t, ?_, b, a⟩
  have pd : (0 : Rat) < (D : Rat) := by exact_mod_cast p
  have : (0 : Rat) < (t : Rat) := by
    rw [← a]
    exact Rat.mul_pos q pd
  exact_mod_cast this
/-- a quotient over one bottom -/
theorem Ov.div (h : Ov D n x) (g : Ov D m y) (p : 0 < D) (q : 0 < y) : ∃ u : Int, 0 < u ∧ u.natAbs ≤ 2 ^ m ∧ Ov u n (x / y) := by
  obtain ⟨u, u0, ul, ue⟩ := g.top p q
  obtain ⟨t, a, b⟩ := h
  refine ⟨u, u0, ul, t, ?_, b⟩
  have pd := ne0 p
  have py : y ≠ 0 := fun z => by
    rw [z] at q
    exact absurd q (by decide)
  rw [← a, ← ue]
  grind
/-- a quotient over two -/
theorem Ov.div2 (h : Ov D n x) (g : Ov E m y) (p : 0 < E) (q : 0 < y) (l : E.natAbs ≤ 2 ^ k) : ∃ u : Int, 0 < u ∧ u.natAbs ≤ 2 ^ m ∧ Ov (D * u) (n + k) (x / y) := by
  obtain ⟨u, u0, ul, ue⟩ := g.top p q
  obtain ⟨t, a, b⟩ := h
  refine ⟨u, u0, ul, t * E, ?_, ?_⟩
  · have py : y ≠ 0 := fun z => by
      rw [z] at q
      exact absurd q (by decide)
    rw [Rat.intCast_mul, Rat.intCast_mul, ← a, ← ue]
    grind
  · rw [Int.natAbs_mul, Nat.pow_add]
    exact Nat.mul_le_mul b l
end
theorem val_eq0 {q : F} (o : Ok q) : val q = 0 ↔ q = (0, 1) := by
  refine ⟨fun h => val_inj o ok01 (by rw [h, val_zero]), fun h => by rw [h, val_zero]⟩
theorem val_num {q : F} (o : Ok q) : val q * (q.2 : Rat) = (q.1 : Rat) := by
  have := ne0 o.1
  unfold val
  grind
theorem val_pos {q : F} (o : Ok q) : 0 < val q ↔ 0 < q.1 := by
  have p : (0 : Rat) < (q.2 : Rat) := by exact_mod_cast o.1
  rw [← Rat.mul_pos_iff_of_pos_right p, val_num o]
  exact_mod_cast Iff.rfl
theorem val_neg {q : F} (o : Ok q) : val q < 0 ↔ q.1 < 0 := by
  have p : (0 : Rat) < (q.2 : Rat) := by exact_mod_cast o.1
  rw [← Rat.mul_neg_iff_of_pos_right p, val_num o]
  exact_mod_cast Iff.rfl
/-- a fraction over a bottom -/
structure Cb (D : Int) (n : Nat) (q : F) : Prop where
  ok : Ok q
  v : Ov D n (val q)
section
variable {D E : Int} {n m k : Nat} {q r : F}
theorem Cb.mono (h : Cb D n q) (e : n ≤ m) : Cb D m q := ⟨h.ok, h.v.mono e⟩
theorem Cb.zero : Cb D n (0, 1) := ⟨ok01, by rw [val_zero]; exact Ov.zero⟩
theorem Cb.add (h : Cb D n q) (g : Cb D n r) : Cb D (n + 1) (add q r) := ⟨ok_add' h.ok.1 g.ok.1, by rw [val_add h.ok.1 g.ok.1]; exact h.v.add g.v⟩
theorem Cb.sub (h : Cb D n q) (g : Cb D n r) : Cb D (n + 1) (sub q r) := ⟨ok_sub' h.ok.1 g.ok.1, by rw [val_sub h.ok.1 g.ok.1]; exact h.v.sub g.v⟩
theorem Cb.mul (h : Cb D n q) (g : Cb E m r) : Cb (D * E) (n + m) (mul q r) := ⟨ok_mul' h.ok.1 g.ok.1, by rw [val_mul h.ok.1 g.ok.1]; exact h.v.mul g.v⟩
theorem Cb.small {N : Nat} (h : Cb D n q) (p : 0 < D) (l : D.natAbs ≤ 2 ^ N) (e : n ≤ N) : q.1.natAbs ≤ 2 ^ N ∧ 0 < q.2 ∧ q.2.natAbs ≤ 2 ^ N := by
  obtain ⟨o, t, v, b⟩ := h
  have b := Nat.le_trans b (Nat.pow_le_pow_right (by decide) e)
  have vl : q.1 * D = t * q.2 := by
    have h1 := ne0 o.1
    have h3 : (q.1 : Rat) * (D : Rat) = (t : Rat) * (q.2 : Rat) := by
      rw [← v]
      unfold val
      grind
    rw [← Rat.intCast_mul, ← Rat.intCast_mul] at h3
    exact_mod_cast h3
  have d := vl_dvd o vl
  obtain ⟨z, hz⟩ := d
  have z0 : 0 < z := by
    rw [hz] at p
    exact Int.pos_of_mul_pos_right p o.1 |> id
  have et : q.1 * z = t := by
    refine mul_cancel (m := q.2) (by have := o.1; omega) ?_
    rw [← vl, hz]
    grind
  refine ⟨?_, o.1, ?_⟩
  · refine Nat.le_trans ?_ b
    rw [← et, Int.natAbs_mul]
    exact Nat.le_mul_of_pos_right _ (by omega)
  · refine Nat.le_trans ?_ l
    rw [hz, Int.natAbs_mul]
    exact Nat.le_mul_of_pos_right _ (by omega)
end
def Ca (D : Int) (n : Nat) (l : List F) : Prop := ∀ q ∈ l, Cb D n q
section
variable {D E : Int} {n m k : Nat} {a b : List F}
theorem Ca.co (h : Ca D n a) (k : Nat) : Cb D n (Rs.co a k) := co_all h Cb.zero k
theorem Ca.mono (h : Ca D n a) (e : n ≤ m) : Ca D m a := fun q hq => (h q hq).mono e
theorem list_eqC (ha : Ca D n a) (hb : Ca E m b) (hl : a.length = b.length) (h : ∀ i, i < a.length → val (Rs.co a i) = val (Rs.co b i)) : a = b := by
  refine List.ext_getElem? fun i => ?_
  by_cases c : i < a.length
  · rw [co_lt c, co_lt (hl ▸ c), val_inj (ha.co i).ok (hb.co i).ok (h i c)]
  · rw [List.getElem?_eq_none (by omega), List.getElem?_eq_none (by omega)]
theorem sum_mapC {g : Nat → F} (h : ∀ i, Cb D n (g i)) : ∀ m, Cb D (n + m) (sumF (0, 1) ((List.range m).map g)) ∧ val (sumF (0, 1) ((List.range m).map g)) = sm (fun i => val (g i)) m
  | 0 => ⟨Cb.zero, val_zero⟩
  | m + 1 => by
    obtain ⟨a, b⟩ := sum_mapC h m
    rw [List.range_succ, List.map_append, List.map_singleton, sumF_snoc]
    refine ⟨a.add ((h m).mono (by omega)), ?_⟩
    rw [val_add a.ok.1 (h m).ok.1, b]
    rfl
theorem zip_mapC (a b : List F) : List.zipWith mul a b = (List.range (min a.length b.length)).map fun i => mul (Rs.co a i) (Rs.co b i) := by
  refine List.ext_getElem? fun i => ?_
  rw [List.getElem?_zipWith]
  by_cases c : i < min a.length b.length
  · rw [co_lt (by omega : i < a.length), co_lt (by omega : i < b.length), List.getElem?_map, List.getElem?_range c]
    rfl
  · rw [List.getElem?_eq_none (l := List.map _ _) (by simp; omega)]
    by_cases d : i < a.length
    · rw [co_lt d, List.getElem?_eq_none (by omega)]
    · rw [List.getElem?_eq_none (by omega)]
theorem sumBy_valC (ha : Ca D n a) (hb : Ca E m b) : Cb (D * E) (n + m + min a.length b.length) (sumBy a b) ∧ val (sumBy a b) = sm (fun i => val (Rs.co a i) * val (Rs.co b i)) (min a.length b.length) := by
  unfold sumBy
  rw [zip_mapC]
  obtain ⟨x, y⟩ := sum_mapC (g := fun i => mul (Rs.co a i) (Rs.co b i)) (fun i => (ha.co i).mul (hb.co i)) (min a.length b.length)
  refine ⟨x, ?_⟩
  rw [y]
  refine sm_congr fun i _ => ?_
  exact val_mul (ha.co i).ok.1 (hb.co i).ok.1
theorem ca_set {w : List F} (hw : Ca D n w) {y : F} (hy : Cb D n y) (k : Nat) : Ca D n (w.set k y) := fun q hq => by
  rcases List.mem_or_eq_of_mem_set hq with m | rfl
  · exact hw q m
  · exact hy
theorem wt_setC {w : List F} (hw : Ca D n w) {y : F} (hy : 0 < y.2) (f : Nat → Rat) {k : Nat} (hk : k < w.length) : wt f (w.set k (add (Rs.co w k) y)) = wt f w + val y * f k := by
  unfold wt
  rw [List.length_set, ← sm_upd (fun m => val (Rs.co w m) * f m) (val y * f k) k w.length hk]
  refine sm_congr fun m _ => ?_
  show val (Rs.co (w.set k _) m) * f m = _
  rw [co_set _ hk]
  split
  · rename_i e
    subst e
    rw [val_add (hw.co m).ok.1 hy]
    grind
  · rfl
theorem stepJ_wtC {D1 D2 : Int} {a b i : Nat} {w : List F} {p : F} {rs : List F} (hw : Ca (D1 * D2) n w) (hp : Cb D1 a p) (hr : Ca D2 b rs) (hn : a + b ≤ n) (f : Nat → Rat) : ∀ j, i + j ≤ w.length →
    Ca (D1 * D2) (n + j) (Rs.stepJ w i p rs j) ∧ wt f (Rs.stepJ w i p rs j) = wt f w + val p * sm (fun j => val (Rs.co rs j) * f (i + j)) j
  | 0, _ => ⟨hw, by show wt f w = wt f w + val p * 0; grind⟩
  | j + 1, h => by
    obtain ⟨x, y⟩ := stepJ_wtC (i := i) hw hp hr hn f j (by omega)
    have l := Rs.stepJ_len w i p rs j
    have z : Cb (D1 * D2) (n + j) (mul p (Rs.co rs j)) := (hp.mul (hr.co j)).mono (by omega)
    refine ⟨ca_set (x.mono (Nat.le_succ _)) ((x.co _).add z) _, ?_⟩
    show wt f (List.set _ _ _) = _
    rw [wt_setC x z.ok.1 f (by omega), y, val_mul hp.ok.1 (hr.co j).ok.1]
    show _ = wt f w + val p * (sm _ j + val (Rs.co rs j) * f (i + j))
    grind
theorem stepI_wtC {D1 D2 : Int} {a b : Nat} {w qs rs : List F} (hw : Ca (D1 * D2) n w) (hq : Ca D1 a qs) (hr : Ca D2 b rs) (hn : a + b ≤ n) (f : Nat → Rat) : ∀ i, i + rs.length ≤ w.length + 1 →
    Ca (D1 * D2) (n + i * rs.length) (Rs.stepI w qs rs i) ∧ wt f (Rs.stepI w qs rs i) = wt f w + sm (fun i => val (Rs.co qs i) * sm (fun j => val (Rs.co rs j) * f (i + j)) rs.length) i
  | 0, _ => ⟨by rw [Nat.zero_mul]; exact hw, by show wt f w = wt f w + 0; grind⟩
  | i + 1, h => by
    obtain ⟨x, y⟩ := stepI_wtC hw hq hr hn f i (by omega)
    have l := Rs.stepI_len w qs rs i
    obtain ⟨u, v⟩ := stepJ_wtC (i := i) x (hq.co i) hr (by omega) f rs.length (by omega)
    refine ⟨?_, ?_⟩
    · rw [Nat.succ_mul, ← Nat.add_assoc]
      exact u
    · show wt f (Rs.stepJ _ _ _ _ _) = _
      rw [v, y]
      show _ = wt f w + (sm _ i + _)
      grind
/-- a product, N places -/
theorem prodN_wtC {D1 D2 : Int} {a b N : Nat} {qs rs : List F} (hq : Ca D1 a qs) (hr : Ca D2 b rs) (hN : qs.length + rs.length ≤ N + 1) (f : Nat → Rat) :
    Ca (D1 * D2) (a + b + qs.length * rs.length) (Rs.prodN N qs rs) ∧
    wt f (Rs.prodN N qs rs) = sm (fun i => val (Rs.co qs i) * sm (fun j => val (Rs.co rs j) * f (i + j)) rs.length) qs.length := by
  have hw : Ca (D1 * D2) (a + b) (List.replicate N ((0, 1) : F)) := fun q hq => by
    rw [(List.mem_replicate.mp hq).2]
    exact Cb.zero
  obtain ⟨x, y⟩ := stepI_wtC hw hq hr (Nat.le_refl _) f qs.length (by rw [List.length_replicate]; omega)
  refine ⟨x, ?_⟩
  unfold Rs.prodN
  rw [y]
  have : wt f (List.replicate N ((0, 1) : F)) = 0 := by
    refine sm_zero fun i _ => ?_
    have : Rs.co (List.replicate N ((0, 1) : F)) i = (0, 1) := by
      unfold Rs.co
      rw [List.getD_eq_getElem?_getD]
      cases e : (List.replicate N ((0, 1) : F))[i]? with
      | none => rfl
      | some q => exact (List.mem_replicate.mp (List.mem_of_getElem? e)).2
    rw [this, val_zero]
    grind
  rw [this]
  grind
end
end Fq


set_option linter.all false
set_option maxRecDepth 100000
set_option maxHeartbeats 400000
namespace Fq
open Rs (co co_get co_lt co_ge co_mem co_all)
/-- the sum of a product of two polynomials of less than m coefficients, by the moments from s on -/
def gsq (r p q : Nat → Rat) (m s : Nat) : Rat := sm (fun i => p i * sm (fun j => q j * r (i + j + s)) m) m
def gs (r : Nat → Rat) : Nat → (Nat → Rat) × (Nat → Rat) × Rat
  | 0 => (fun _ => 0, fun i => if i = 0 then 1 else 0, 0)
  | k + 1 =>
    let g := gs r k
    let n1 := gsq r g.2.1 g.2.1 (k + 1) 0
    let l := gsq r g.2.1 g.2.1 (k + 1) 1 / n1
    let s := if k = 0 then 0 else n1 / g.2.2
    (g.2.1, fun i => (if i = 0 then 0 else g.2.1 (i - 1)) - l * g.2.1 i - s * g.1 i, n1)
def pol (r : Nat → Rat) (k : Nat) : Nat → Rat := (gs r k).2.1
def nor (r : Nat → Rat) (k : Nat) : Rat := gsq r (pol r k) (pol r k) (k + 1) 0
def mid (r : Nat → Rat) (k : Nat) : Rat := gsq r (pol r k) (pol r k) (k + 1) 1
def lvl (r : Nat → Rat) (k : Nat) : Rat := mid r k / nor r k
def pre (r : Nat → Rat) (k : Nat) : Nat → Rat := if k = 0 then fun _ => 0 else pol r (k - 1)
def stp (r : Nat → Rat) (k : Nat) : Rat := if k = 0 then 0 else nor r k / nor r (k - 1)
theorem gs_pre (r : Nat → Rat) : ∀ k, (gs r k).1 = pre r k
  | 0 => rfl
  | k + 1 => rfl
theorem gs_nor (r : Nat → Rat) : ∀ k, (gs r k).2.2 = if k = 0 then 0 else nor r (k - 1)
  | 0 => rfl
  | k + 1 => rfl
theorem pol_zero (r : Nat → Rat) : pol r 0 = fun i => if i = 0 then 1 else 0 := rfl
theorem pol_succ (r : Nat → Rat) (k i : Nat) : pol r (k + 1) i = (if i = 0 then 0 else pol r k (i - 1)) - lvl r k * pol r k i - stp r k * pre r k i := by
  show (if i = 0 then 0 else (gs r k).2.1 (i - 1)) - gsq r (gs r k).2.1 (gs r k).2.1 (k + 1) 1 / gsq r (gs r k).2.1 (gs r k).2.1 (k + 1) 0 * (gs r k).2.1 i - (if k = 0 then 0 else gsq r (gs r k).2.1 (gs r k).2.1 (k + 1) 0 / (gs r k).2.2) * (gs r k).1 i = _
  rw [gs_pre, gs_nor]
  unfold stp
  by_cases c : k = 0
  · rw [if_pos c, if_pos c]
    rfl
  · rw [if_neg c, if_neg c, if_neg c]
    rfl
theorem pol_hi (r : Nat → Rat) : ∀ k, (∀ i, k < i → pol r k i = 0) ∧ (∀ i, k ≤ i → pre r k i = 0) ∧ pol r k k = 1
  | 0 => ⟨fun i h => if_neg (by omega), fun i h => rfl, rfl⟩
  | k + 1 => by
    obtain ⟨a, b, c⟩ := pol_hi r k
    refine ⟨fun i h => ?_, fun i h => ?_, ?_⟩
    · rw [pol_succ, if_neg (by omega), a (i - 1) (by omega), a i (by omega), b i (by omega)]
      grind
    · exact a i (by omega)
    · rw [pol_succ, if_neg (by omega), Nat.add_sub_cancel, c, a (k + 1) (by omega), b (k + 1) (by omega)]
      grind
/-- bits of a sum, of a rung -/
def bS (A : Nat) : Nat := 2 * A + 42
section
variable {r : Nat → Rat} {M : Int}
/-- what is known of a row: over M, in 2^30 -/
structure Rv (r : Nat → Rat) (M : Int) : Prop where
  p : 0 < M
  m : M.natAbs ≤ 2 ^ 8
  v : ∀ i, Ov M 30 (r i)
theorem gsq_ov (R : Rv r M) {d : Int} {a m : Nat} {p : Nat → Rat} (h : ∀ i, Ov d a (p i)) (hm : m ≤ 5) (s : Nat) : Ov (d * (d * M)) (bS a) (gsq r p p m s) := by
  refine (Ov.sm (n := a + (a + 30 + m)) (fun i => (h i).mul (Ov.sm (fun j => (h j).mul (R.v _)) m)) m).mono ?_
  unfold bS
  omega
/-- a rung's bottom and size -/
structure Pd (r : Nat → Rat) (k : Nat) (d : Int) (a : Nat) : Prop where
  p : 0 < d
  l : d.natAbs ≤ 2 ^ a
  v : ∀ i, Ov d a (pol r k i)
theorem pd_zero : Pd r 0 1 0 := ⟨by decide, by decide, fun i => by
  rw [pol_zero]
  show Ov 1 0 (if i = 0 then 1 else 0)
  split
  · exact Ov.one
  · exact Ov.zero⟩
theorem natAbs_mul_le {x y : Int} {n m : Nat} (h : x.natAbs ≤ 2 ^ n) (g : y.natAbs ≤ 2 ^ m) : (x * y).natAbs ≤ 2 ^ (n + m) := by
  rw [Int.natAbs_mul, Nat.pow_add]
  exact Nat.mul_le_mul h g
/-- all that is known of one turn: bottoms of the rung, of the level, of the step -/
structure Tn (r : Nat → Rat) (M : Int) (k : Nat) (d : Int) (a : Nat) (u : Int) : Prop where
  pd : Pd r k d a
  u0 : 0 < u
  ul : u.natAbs ≤ 2 ^ bS a
  ue : nor r k * ((d * (d * M) : Int) : Rat) = (u : Rat)
  lv : Ov u (bS a) (lvl r k)
theorem turn (R : Rv r M) {k : Nat} {d : Int} {a : Nat} (h : Pd r k d a) (hk : k ≤ 4) (n : 0 < nor r k) : ∃ u, Tn r M k d a u := by
  have pm : 0 < d * (d * M) := Int.mul_pos h.p (Int.mul_pos h.p R.p)
  have o0 : Ov (d * (d * M)) (bS a) (nor r k) := gsq_ov R h.v (by omega) 0
  have o1 : Ov (d * (d * M)) (bS a) (mid r k) := gsq_ov R h.v (by omega) 1
  obtain ⟨u, u0, ul, ue⟩ := o0.top pm n
  obtain ⟨t, te, tl⟩ := o1
  refine ⟨u, h, u0, ul, ue, t, ?_, tl⟩
  have pd := ne0 pm
  have py : nor r k ≠ 0 := fun z => by
    rw [z] at n
    exact absurd n (by decide)
  rw [← te, ← ue]
  unfold lvl
  grind
theorem step_ov (R : Rv r M) {k : Nat} {d d' : Int} {a a' : Nat} {u u' : Int} (t : Tn r M (k + 1) d a u) (t' : Tn r M k d' a' u') (n : 0 < nor r k) : Ov (d * (d * M) * u') (bS a + (2 * a' + 8)) (stp r (k + 1)) := by
  have l : (d' * (d' * M)).natAbs ≤ 2 ^ (2 * a' + 8) := by
    have := natAbs_mul_le t'.pd.l (natAbs_mul_le t'.pd.l R.m)
    rw [show 2 * a' + 8 = a' + (a' + 8) by omega]
    exact this
  have e : stp r (k + 1) = nor r (k + 1) / nor r k := rfl
  rw [e]
  refine ⟨u * (d' * (d' * M)), ?_, ?_⟩
  · have py : nor r k ≠ 0 := fun z => by
      rw [z] at n
      exact absurd n (by decide)
    have e1 := t.ue
    have e2 := t'.ue
    have e3 : ((u * (d' * (d' * M)) : Int) : Rat) = (u : Rat) * ((d' * (d' * M) : Int) : Rat) := Rat.intCast_mul _ _
    have e4 : ((d * (d * M) * u' : Int) : Rat) = ((d * (d * M) : Int) : Rat) * (u' : Rat) := Rat.intCast_mul _ _
    rw [e3, e4, ← e1, ← e2]
    generalize ((d * (d * M) : Int) : Rat) = X
    generalize ((d' * (d' * M) : Int) : Rat) = Y
    grind
  · exact natAbs_mul_le t.ul l
/-- the next rung, behind the first -/
theorem pd_one (R : Rv r M) {d u : Int} {a : Nat} (t : Tn r M 0 d a u) : Pd r 1 (u * d) (bS a + a + 2) := by
  refine ⟨Int.mul_pos t.u0 t.pd.p, ?_, fun i => ?_⟩
  · exact Nat.le_trans (natAbs_mul_le t.ul t.pd.l) (Nat.pow_le_pow_right (by decide) (by omega))
  · rw [pol_succ]
    have e : stp r 0 * pre r 0 i = 0 := by
      show (0 : Rat) * _ = 0
      grind
    rw [e, show ∀ x : Rat, x - 0 = x from fun x => by grind]
    have x1 : Ov (u * d) (a + bS a) (if i = 0 then 0 else pol r 0 (i - 1)) := by
      split
      · exact Ov.zero
      · exact ((t.pd.v _).scale t.ul).cong (Int.mul_comm _ _)
    have x2 : Ov (u * d) (bS a + a) (lvl r 0 * pol r 0 i) := t.lv.mul (t.pd.v i)
    exact ((x1.mono (by omega)).sub x2).mono (by omega)
def bA (a a' : Nat) : Nat := bS a + 2 * a + 3 * a' + 52
theorem pd_more (R : Rv r M) {k : Nat} {d d' u u' : Int} {a a' : Nat} (t : Tn r M (k + 1) d a u) (t' : Tn r M k d' a' u') (n : 0 < nor r k) (le : a' ≤ a) : ∃ D, Pd r (k + 2) D (bA a a') := by
  have s := step_ov R t t' n
  have pm : 0 < d * (d * M) := Int.mul_pos t.pd.p (Int.mul_pos t.pd.p R.p)
  have lm : (d * M).natAbs ≤ 2 ^ (a + 8) := natAbs_mul_le t.pd.l R.m
  have l1 : (d * (d * M)).natAbs ≤ 2 ^ (a + (a + 8)) := natAbs_mul_le t.pd.l lm
  refine ⟨u * d * ((d * M) * (u' * d')), Int.mul_pos (Int.mul_pos t.u0 t.pd.p) (Int.mul_pos (Int.mul_pos t.pd.p R.p) (Int.mul_pos t'.u0 t'.pd.p)), ?_, fun i => ?_⟩
  · refine Nat.le_trans (natAbs_mul_le (natAbs_mul_le t.ul t.pd.l) (natAbs_mul_le lm (natAbs_mul_le t'.ul t'.pd.l))) (Nat.pow_le_pow_right (by decide) ?_)
    unfold bA bS
    omega
  · rw [pol_succ]
    have x1 : Ov (u * d * ((d * M) * (u' * d'))) (a + (bS a + ((a + 8) + (bS a' + a')))) (if i = 0 then 0 else pol r (k + 1) (i - 1)) := by
      split
      · exact Ov.zero
      · exact ((t.pd.v _).scale (natAbs_mul_le t.ul (natAbs_mul_le lm (natAbs_mul_le t'.ul t'.pd.l)))).cong (by grind)
    have x2 : Ov (u * d * ((d * M) * (u' * d'))) (bS a + a + ((a + 8) + (bS a' + a'))) (lvl r (k + 1) * pol r (k + 1) i) := (t.lv.mul (t.pd.v i)).scale (natAbs_mul_le lm (natAbs_mul_le t'.ul t'.pd.l))
    have x3 : Ov (u * d * ((d * M) * (u' * d'))) (bS a + (2 * a' + 8) + a' + bS a) (stp r (k + 1) * pre r (k + 1) i) := ((s.mul (t'.pd.v i)).scale t.ul).cong (by grind)
    have y1 := x1.mono (m := bA a a' - 2) (by unfold bA bS; omega)
    have y2 := x2.mono (m := bA a a' - 2) (by unfold bA bS; omega)
    have y3 := x3.mono (m := bA a a' - 1) (by unfold bA bS; omega)
    exact (((y1.sub y2).mono (m := bA a a' - 1) (by unfold bA; omega)).sub y3).mono (by unfold bA; omega)
end
end Fq


set_option linter.all false
set_option maxRecDepth 100000
set_option maxHeartbeats 400000
namespace Fq
open Rs (co co_get co_lt co_ge co_mem co_all)
def rf (x : Rat) : F := (x.num, (x.den : Int))
theorem rf_ok (x : Rat) : Ok (rf x) := ⟨by show (0 : Int) < (x.den : Int); exact_mod_cast x.den_pos, by show Nat.gcd x.num.natAbs (x.den : Int).natAbs = 1; rw [Int.natAbs_natCast]; exact x.reduced⟩
theorem rf_val (x : Rat) : val (rf x) = x := by
  show (x.num : Rat) / (((x.den : Nat) : Int) : Rat) = x
  rw [← Rat.divInt_eq_div]
  exact Rat.num_divInt_den x
theorem rf_of {q : F} (o : Ok q) : rf (val q) = q := val_inj (rf_ok _) o (rf_val _)
theorem rf_is {q : F} {x : Rat} (o : Ok q) (h : val q = x) : q = rf x := by rw [← h, rf_of o]
theorem rf_zero : rf 0 = (0, 1) := rfl
theorem rf_one : rf 1 = (1, 1) := rfl
theorem rf_cb {D : Int} {n : Nat} {x : Rat} (h : Ov D n x) : Cb D n (rf x) := ⟨rf_ok x, by rw [rf_val]; exact h⟩
def OkA (l : List F) : Prop := ∀ q ∈ l, Ok q
theorem OkA.co {l : List F} (h : OkA l) (k : Nat) : Ok (Rs.co l k) := co_all h ok01 k
theorem Ca.okA {D : Int} {n : Nat} {l : List F} (h : Ca D n l) : OkA l := fun q hq => (h q hq).ok
theorem list_eqO {a b : List F} (ha : OkA a) (hb : OkA b) (hl : a.length = b.length) (h : ∀ i, i < a.length → val (Rs.co a i) = val (Rs.co b i)) : a = b := by
  refine List.ext_getElem? fun i => ?_
  by_cases c : i < a.length
  · rw [co_lt c, co_lt (hl ▸ c), val_inj (ha.co i) (hb.co i) (h i c)]
  · rw [List.getElem?_eq_none (by omega), List.getElem?_eq_none (by omega)]
def rg (r : Nat → Rat) (k : Nat) : List F := (List.range (k + 1)).map fun i => rf (pol r k i)
def rgB (r : Nat → Rat) (k : Nat) : List F := if k = 0 then [] else rg r (k - 1)
theorem rg_len (r : Nat → Rat) (k : Nat) : (rg r k).length = k + 1 := by simp [rg]
theorem rg_ok (r : Nat → Rat) (k : Nat) : OkA (rg r k) := fun q hq => by
  obtain ⟨i, _, rfl⟩ := List.mem_map.mp hq
  exact rf_ok _
theorem rg_co (r : Nat → Rat) (k i : Nat) : val (co (rg r k) i) = pol r k i := by
  unfold rg
  rw [co_map]
  split
  · exact rf_val _
  · rw [val_zero, (pol_hi r k).1 i (by omega)]
theorem rg_zero (r : Nat → Rat) : rg r 0 = [(1, 1)] := rfl
theorem rg_ca {r : Nat → Rat} {k : Nat} {d : Int} {a : Nat} (h : Pd r k d a) : Ca d a (rg r k) := fun q hq => by
  obtain ⟨i, _, rfl⟩ := List.mem_map.mp hq
  exact rf_cb (h.v i)
theorem rg_pn (r : Nat → Rat) (k : Nat) : Rs.Pn (rg r k) := by
  right
  rw [rg_len, Nat.add_sub_cancel]
  intro z
  have := rg_co r k k
  rw [z, val_zero, (pol_hi r k).2.2] at this
  exact absurd this (by decide)
theorem rgB_co (r : Nat → Rat) (k i : Nat) : val (co (rgB r k) i) = pre r k i := by
  unfold rgB pre
  split
  · exact val_zero
  · exact rg_co _ _ _
theorem rgB_ok (r : Nat → Rat) (k : Nat) : OkA (rgB r k) := by
  unfold rgB
  split
  · exact fun q hq => by cases hq
  · exact rg_ok _ _
theorem rgB_len (r : Nat → Rat) (k : Nat) : (rgB r k).length = k := by
  unfold rgB
  split
  · rename_i h
    rw [h]
    rfl
  · rw [rg_len]
    omega
def plL (a b : List F) : List F := Rs.trim (Rs.byPower sub a b (max a.length b.length))
def scP (a : List F) (c : F) : List F := Rs.trim (a.map fun q => mul q c)
def nxt (before here : List F) (level step : F) : List F := plL (plL ((0, 1) :: here) (scP here level)) (scP before step)
theorem shift_co (l : List F) (i : Nat) : co ((0, 1) :: l) i = if i = 0 then (0, 1) else co l (i - 1) := by
  cases i with
  | zero => rfl
  | succ i => rfl
theorem shift_okA {l : List F} (h : OkA l) : OkA ((0, 1) :: l) := fun q hq => by
  rcases List.mem_cons.mp hq with rfl | hq
  · exact ok01
  · exact h q hq
theorem shift_val (l : List F) (i : Nat) : val (co ((0, 1) :: l) i) = if i = 0 then 0 else val (co l (i - 1)) := by
  rw [shift_co]
  split
  · exact val_zero
  · rfl
theorem scP_okA {c : F} {a : List F} (hc : Ok c) (ha : OkA a) : OkA (scP a c) ∧ (∀ i, val (co (scP a c) i) = val c * val (co a i)) ∧ (scP a c).length ≤ a.length := by
  refine ⟨fun q hq => ?_, fun i => ?_, ?_⟩
  · obtain ⟨r, hr, rfl⟩ := List.mem_map.mp (Rs.trim_mem hq)
    exact ok_mul' (ha r hr).1 hc.1
  · unfold scP
    rw [trim_co, co_map1]
    split
    · rw [val_mul (ha.co i).1 hc.1]
      grind
    · rw [co_ge (qs := a) (by omega), val_zero]
      grind
  · have := Rs.trim_len (a.map fun q => mul q c)
    rw [List.length_map] at this
    exact this
theorem plL_okA {a b : List F} (ha : OkA a) (hb : OkA b) (hl : b.length ≤ a.length) (hz : val (co a (a.length - 1)) - val (co b (a.length - 1)) ≠ 0) :
    OkA (plL a b) ∧ (∀ i, val (co (plL a b) i) = val (co a i) - val (co b i)) ∧ (plL a b).length = a.length := by
  have t : ∀ i, val (co (Rs.byPower sub a b a.length) i) = val (co a i) - val (co b i) := by
    intro i
    unfold Rs.byPower
    rw [co_map]
    split
    · exact val_sub (ha.co i).1 (hb.co i).1
    · rw [co_ge (qs := a) (by omega), co_ge (qs := b) (by omega), val_zero]
      grind
  have e : max a.length b.length = a.length := Nat.max_eq_left hl
  have p : Rs.Pn (Rs.byPower sub a b a.length) := by
    right
    rw [Rs.byPower_len]
    intro z
    have := t (a.length - 1)
    rw [z, val_zero] at this
    exact hz this.symm
  unfold plL
  rw [e, Rs.trim_of p]
  refine ⟨fun q hq => ?_, t, Rs.byPower_len _ _ _ _⟩
  obtain ⟨k, rfl⟩ := Rs.byPower_mem hq
  exact ok_sub' (ha.co k).1 (hb.co k).1
theorem nxt_rg (r : Nat → Rat) (k : Nat) : nxt (rgB r k) (rg r k) (rf (lvl r k)) (rf (stp r k)) = rg r (k + 1) := by
  obtain ⟨h1, h2, h3⟩ := pol_hi r k
  have s1 := shift_okA (rg_ok r k)
  obtain ⟨c1, c2, c3⟩ := scP_okA (rf_ok (lvl r k)) (rg_ok r k)
  have sl : ((0, 1) :: rg r k).length = k + 2 := by rw [List.length_cons, rg_len]
  obtain ⟨l1, l2, l3⟩ := plL_okA s1 c1 (by rw [sl]; have := rg_len r k; omega) (by
    rw [sl, shift_val, c2, if_neg (by omega), show k + 2 - 1 - 1 = k by omega, rg_co, rg_co, h3, h1 _ (by omega)]
    grind)
  obtain ⟨d1, d2, d3⟩ := scP_okA (rf_ok (stp r k)) (rgB_ok r k)
  obtain ⟨m1, m2, m3⟩ := plL_okA l1 d1 (by rw [l3, sl]; have := rgB_len r k; omega) (by
    rw [l3, sl, l2, shift_val, c2, d2, if_neg (by omega), show k + 2 - 1 - 1 = k by omega, rg_co, rg_co, h3, h1 _ (by omega), rgB_co, h2 _ (by omega)]
    grind)
  refine list_eqO m1 (rg_ok _ _) (by show (plL _ _).length = _; rw [m3, l3, sl, rg_len]) fun i _ => ?_
  show val (co (plL _ _) i) = _
  rw [m2, l2, shift_val, c2, d2, rg_co, rg_co, rgB_co, rg_co, pol_succ, rf_val, rf_val]
def aB (k : Nat) : Nat := if k = 0 then 0 else if k = 1 then 44 else if k = 2 then 270 else if k = 3 then 1306 else 6128
theorem pd_all {r : Nat → Rat} {M : Int} (R : Rv r M) : ∀ k, k ≤ 4 → (∀ j, j < k → 0 < nor r j) → ∃ d, Pd r k d (aB k)
  | 0, _, _ => ⟨1, pd_zero⟩
  | 1, _, n => by
    obtain ⟨u, t⟩ := turn R (pd_zero (r := r)) (by decide) (n 0 (by decide))
    exact ⟨_, pd_one R t⟩
  | k + 2, h, n => by
    obtain ⟨d, p⟩ := pd_all R (k + 1) (by omega) fun j hj => n j (by omega)
    obtain ⟨d', p'⟩ := pd_all R k (by omega) fun j hj => n j (by omega)
    obtain ⟨u, t⟩ := turn R p (by omega) (n (k + 1) (by omega))
    obtain ⟨u', t'⟩ := turn R p' (by omega) (n k (by omega))
    have le : aB k ≤ aB (k + 1) := by
      rcases (by omega : k = 0 ∨ k = 1 ∨ k = 2) with rfl | rfl | rfl <;> decide
    obtain ⟨D, q⟩ := pd_more R t t' (n k (by omega)) le
    refine ⟨D, ?_⟩
    have e : aB (k + 2) = bA (aB (k + 1)) (aB k) := by
      rcases (by omega : k = 0 ∨ k = 1 ∨ k = 2) with rfl | rfl | rfl <;> decide
    rw [e]
    exact q
end Fq


set_option Elab.async false
set_option linter.all false
set_option maxRecDepth 100000
set_option maxHeartbeats 1000000
namespace EnT
open PySem PySem.Spec PyProof.Rows L2
theorem meets_new {v : Value} {o : Obj} {H : Heap → Prop} (B : Begins v o H) :
    Meets (Builtin.«enumerate.__new__» ⟨[.type "enumerate", v], []⟩) (fun _ R s => H s.heap ∧
      R (.ok (.ret (.ref (s.heap.push o).objs.size))) { s with heap := (s.heap.push o).push { cls := .type "enumerate", data := .fields #[.none, .bool false, .ref s.heap.objs.size, rawInt 0, .none, .none] } }) :=
  .of_wp fun prog w A R s h => by
    obtain ⟨hp, g, d, tk, os⟩ := s; obtain ⟨h1, h⟩ := h
    have hsub := sub_enumerate
    have q1 : ∀ {A' : Around} {E : Value → Shared → Prop} {Q : Value → Shared → Prop}, Q (.ref hp.objs.size) ⟨hp.push o, g, d, tk, os⟩ → wpAny (model prog w) A' (pyIter v) Q E ⟨hp, g, d, tk, os⟩ :=
      fun q => B.iter prog w _ _ ⟨hp, g, d, tk, os⟩ _ h1 q
    wp_walk using q1
    refine wpAny_stack_any fun st => wpAny_pure ?_
    split
    · rename_i c _ _ _ _ _
      cases (c == Value.type "enumerate")
      · wp_walk using q1
        exact ⟨_, rfl, h⟩
      · wp_walk using q1
        exact ⟨_, rfl, h⟩
    · wp_walk using q1
      exact ⟨_, rfl, h⟩
theorem call_enum {prog : Program} {w : World} {A : Around} {E : Value → Shared → Prop} {s : Shared} {v : Value} {o : Obj} {H : Heap → Prop} {Q : Value → Shared → Prop} (B : Begins v o H) (h1 : H s.heap)
    (h : ∀ h', IsEnum h' (s.heap.objs.size + 1) s.heap.objs.size 0 .none → h'.get? s.heap.objs.size = some o → h'.objs.size = s.heap.objs.size + 2 →
      (∀ b o, s.heap.get? b = some o → h'.get? b = some o) → Q (.ref (s.heap.objs.size + 1)) { s with heap := h' }) :
    wpAny (model prog w) A (call (.type "enumerate") [v]) Q E s := by
  refine callType_new F.called_enumerate (by decide) (F.typeCall_enumerate_1 _) (F.newCall_enumerate_1 _) (fun obj => F.args_object_init_2 obj _) F.entry_enumerate_new
    (meets_new B) ⟨h1, ?_⟩
  have hz : (s.heap.push o).objs.size = s.heap.objs.size + 1 := Heap.size_push ..
  show _ ∧ _
  rw [hz]
  have he : IsEnum ((s.heap.push o).push { cls := .type "enumerate", data := .fields #[.none, .bool false, .ref s.heap.objs.size, rawInt 0, .none, .none] }) (s.heap.objs.size + 1) s.heap.objs.size 0 .none := by
    have := Heap.get?_push_size (s.heap.push o) (o := { cls := .type "enumerate", data := .fields #[.none, .bool false, .ref s.heap.objs.size, rawInt 0, .none, .none] }) rfl
    rw [hz] at this; exact this
  refine ⟨⟨_, he, rfl⟩, h _ he (Heap.get?_push_of_some _ (Heap.get?_push_size _ B.free)) (by rw [Heap.size_push, hz]) fun b o x => Heap.get?_push_of_some _ (Heap.get?_push_of_some _ x)⟩
/-- the turns -/
def IteT (K : PySem.W.Frag) (a : Addr) : It :=
  ⟨fun i H => ∃ (xs : List V) (x : V), SqT K H a xs ∧ xs[i]? = some x, fun i H v H' => ∃ T x, v = .ref T ∧ H T = none ∧ H' = upd H T (.tup [.int (i : Nat), x]) ∧ ∀ xs, SqT K H a xs → xs[i]? = some x, fun i H => ∃ xs : List V, SqT K H a xs ∧ xs.length ≤ i⟩
theorem turn_enumT {P : Program} {w : World} {K : PySem.W.Frag} {elts : List Expr} {kk : Nat} {tpos : Pos} (a e it : Addr) (n : Nat) :
    Turn P w K (.Tuple elts kk tpos) (IteT K a) [e, it] e (fun i h => (∃ old, IsEnum h e it ((i : Nat) : Int) old) ∧ h.IsTupleIter it a i ∧ e ≠ it ∧ a ≠ it ∧ a ≠ e) where
  mem := by simp
  obj := fun i h st b hb => by
    obtain ⟨⟨old, he⟩, ⟨o, ho, hc, hd⟩, _⟩ := st
    have e' : b = e ∨ b = it := by simpa using hb
    rcases e' with z | z
    · rw [z]; exact ⟨_, he, fun v q => nomatch q⟩
    · rw [z]; exact ⟨o, ho, fun v q => by rw [hd] at q; cases q⟩
  keep := fun i h h' st k => let ⟨⟨old, he⟩, hi, hne⟩ := st; ⟨⟨old, k e (by simp) _ he⟩, hi.at fun o q => k it (by simp) o q, hne⟩
  item := by
    intro X hP hw hK hc i pins s σ H E I hf st hg
    subst hP hw hK
    obtain ⟨⟨old, he⟩, hit, hne, hai, hae⟩ := st
    obtain ⟨xs, x, hq, hx⟩ := hg
    obtain ⟨its, rv, p, hz⟩ := I.tuple hq
    obtain ⟨u, hu, ru⟩ := rv.get hx
    have hel : e < s.heap.objs.size := Heap.lt_size he
    have hil : it < s.heap.objs.size := by obtain ⟨_, q, _⟩ := hit; exact Heap.lt_size q
    have hlt : i < its.toArray.size := by
      obtain ⟨hlt, _⟩ := List.getElem?_eq_some_iff.mp hu
      simpa using hlt
    have p' : s.heap.IsTuple a its.toArray := p
    refine wpAny_pyNext_enum_itemD (Draws.tuple (A := X.A.in1) (I.ok.hd hc) it a hai its.toArray) he ⟨hit, p'⟩ hlt hne (by simp [hne, Ne.symm hae]) fun x' h' tk hP ho hit' hT hsz hk => ?_
    have ex : x' = u := by
      have : its[i]? = some x' := by simpa using hP
      rw [hu] at this
      exact (Option.some.inj this).symm
    subst ex
    refine ⟨_, rfl, wpAny_letOwnedTupleGo_enum (s := { s with heap := h', toks := tk + 1 }) ho fun h'' he' sb => ?_⟩
    have hT2 : h''.get? s.heap.objs.size = some { cls := .type "tuple", data := .seq #[.int i tk, x'] } := (sb.2 _ (Nat.ne_of_gt hel)).trans hT
    have new : ObjOk X.prog X.w (upd H s.heap.objs.size (.tup [.int (i : Nat), x])) h'' s.heap.objs.size (.tup [.int (i : Nat), x]) :=
      ⟨by show 2 ≤ sizeLine; decide, [.int i tk, x'], .cons ⟨_, rfl⟩ (.cons ru .nil), ⟨_, hT2, rfl, _, rfl⟩⟩
    have I1 : Inv X pins σ (upd H s.heap.objs.size (.tup [.int (i : Nat), x])) { s with heap := h'', toks := tk + 1 } :=
      I.turnedNew (ch := [e, it]) (fun b ob hb q => (sb.2 b (fun z => hb (by simp [z]))).trans (hk b ob (fun z => hb (by simp [z])) (fun z => hb (by simp [z])) q)) hf (Nat.le_refl _) new
    refine ⟨.ref s.heap.objs.size, _, I1, rfl, ⟨_, x, rfl, I.hok.fresh (Nat.le_refl _), rfl, fun ys hy => by rw [I.tuple_inj hy hq]; exact hx⟩, ⟨⟨x', ?_⟩, hit'.1.at fun o q => (sb.2 it (Ne.symm hne)).trans q, hne, hai, hae⟩, fun b hb => ?_⟩
    · have e1 : ((i + 1 : Nat) : Int) = (i : Int) + 1 := by omega
      rw [e1]; exact he'
    · have hb' : b < s.heap.objs.size := by
        have e' : b = e ∨ b = it := by simpa using hb
        rcases e' with z | z
        · rw [z]; exact hel
        · rw [z]; exact hil
      rw [upd_ne (Nat.ne_of_lt hb')]
      exact (hf b hb).1
  done := by
    intro X hP hw hK hc i pins s σ H E I hf st hg
    subst hP hw hK
    obtain ⟨⟨old, he⟩, hit, hne, hai, hae⟩ := st
    obtain ⟨xs, hq, hx⟩ := hg
    obtain ⟨its, rv, p, hz⟩ := I.tuple hq
    obtain ⟨f0, f1, f2, f3, f4, f5⟩ := hf it (by simp)
    have hl := rv.length
    have hT : s.TypeIs (.ref e) "enumerate" := ⟨_, he, rfl⟩
    unfold pyNext
    refine wpAny_bind (wpAny_attempt (wpAny_callSpecial?_slot (name := Str.ofString "__next__") hT F.slot_enumerate_next
      (wpAny_call_entry F.slot_enumerate_next hT F.entry_enumerate_next ?_ (F.args_enumerate_next_1 _))))
    show wpAny _ _ (field (.ref e) 2 >>= _) _ _ _
    refine wpAny_bind (wpAny_field he rfl (x := .ref it) rfl ?_)
    refine wpAny_bind (wpAny_nextOf_tuple_end (A := X.A.in1) (I.ok.hd hc) hit (show s.heap.IsTuple a its.toArray from p) (by simp; omega) fun h' e' eb hx' => ?_)
    obtain ⟨o, ho, hcl⟩ := hx'
    refine wpAny_bind (wpAny_isInstance (T := "StopIteration") (b := true) ⟨o, ho, hcl⟩ isSubtype_stop ?_)
    exact wpAny_pure ⟨rfl, I.turned (t' := s.toks) (fun b o hb q => eb b o hb q) f0 f1 f3 f4 f5⟩
  self := fun A i s Q E st h => let ⟨⟨_, he⟩, _⟩ := st; wpAny_pyIter_enum he h
def iEnumT (K : PySem.W.Frag) (ta : TA) : TI := fun σ H R => ta σ H fun vs H1 => ∃ a xs, vs = [.ref a] ∧ SqT K H1 a xs ∧ R (IteT K a) H1
theorem pi_enumT {X : Cx} {e : Expr} {ta : TA} {p pos tpos : Pos} {elts : List Expr} {kk : Nat} (hg : Gl X "enumerate") (hm : X.mg "enumerate" = none) (ha : PA X [e] ta) (hs : starEach [e] X.env = [(false, eval e X.env)] := by rfl) :
    PI X (.Tuple elts kk tpos) (.Call (.Name "enumerate" p) [e] [] pos) (iEnumT X.K ta) := by
  refine ⟨fun pins s σ H R I h => ?_⟩
  refine Call_ (ld_blt I hg hm boot_enumerate (PyProof.Rows.callWith_type1 (thn (ha.run pos pins s σ H _ I h) fun us s1 ⟨vs, H1, I1, r1, q1⟩ => ?_) hs rfl))
  obtain ⟨a, xs, ex, hq, q⟩ := q1
  subst ex
  cases r1 with
  | cons r rr =>
    cases rr
    cases r
    obtain ⟨its, rv, p', hz⟩ := I1.tuple hq
    have pt : s1.heap.IsTuple a its.toArray := p'
    have hal : a < s1.heap.objs.size := by
      obtain ⟨o, z, _⟩ := id pt
      exact Heap.lt_size z
    refine call_enum (begins_tuple a its.toArray) pt fun h' he hit hsz hk => wpAny_pyIter_enum he ?_
    have I2 : Inv X pins σ H1 { s1 with heap := h' } := I1.kept (t' := s1.toks) hk
    refine ⟨s1.heap.objs.size + 1, [s1.heap.objs.size + 1, s1.heap.objs.size], _, _, H1, rfl, I2, turn_enumT a (s1.heap.objs.size + 1) s1.heap.objs.size 0, ⟨⟨.none, he⟩, ⟨_, hit, rfl, rfl⟩, Nat.succ_ne_self _, Nat.ne_of_lt hal, Nat.ne_of_lt (Nat.lt_succ_of_lt hal)⟩, fun b hb => ?_, q⟩
    have e' : b = s1.heap.objs.size + 1 ∨ b = s1.heap.objs.size := by simpa using hb
    have hle : s1.heap.objs.size ≤ b := by
      rcases e' with z | z
      · rw [z]; exact Nat.le_add_right _ _
      · rw [z]; exact Nat.le_refl _
    exact I1.fpOk hle (I1.hok.fresh hle)
end EnT


set_option Elab.async false
set_option linter.all false
set_option maxRecDepth 100000
set_option maxHeartbeats 400000
namespace Rs
open PySem L2 Bs Fq LamX
theorem FrAll.set {K : PySem.W.Frag} {H : Hp} : ∀ {vs : List V} {qs : List F} {v : V} {q : F} (i : Nat), FrAll K H vs qs → Fr K H v q → FrAll K H (vs.set i v) (qs.set i q)
  | _, _, _, _, _, .nil, h => .nil
  | _, _, _, _, 0, .cons a b, h => .cons h b
  | _, _, _, _, i + 1, .cons a b, h => .cons a (FrAll.set i b h)
theorem FrAll.rep {K : PySem.W.Frag} {H : Hp} {v : V} {q : F} (h : Fr K H v q) : ∀ n : Nat, FrAll K H (List.replicate n v) (List.replicate n q)
  | 0 => .nil
  | n + 1 => .cons h (FrAll.rep h n)
/-- a bottom and a size that the reckoning bears -/
structure Bd (D : Int) (n : Nat) : Prop where
  p : 0 < D
  l : D.natAbs ≤ 2 ^ 4390
  n : n ≤ 4390
theorem cb_dm {D : Int} {n : Nat} {q : F} (h : Cb D n q) (b : Bd D n) : Dm q := by
  obtain ⟨x, y, z⟩ := h.small b.p b.l b.n
  have lt : 2 ^ 4390 < 2 ^ 4400 := Nat.pow_lt_pow_right (by decide) (by decide)
  exact ⟨Nat.lt_of_le_of_lt x lt, y, Nat.lt_of_le_of_lt z lt⟩
theorem Bd.mono {D : Int} {n m : Nat} (b : Bd D n) (e : m ≤ n) : Bd D m := ⟨b.p, b.l, Nat.le_trans e b.n⟩
theorem Bd.of {D : Int} {n N : Nat} (p : 0 < D) (l : D.natAbs ≤ 2 ^ N) (h : N ≤ 4390) (e : n ≤ 4390) : Bd D n := ⟨p, Nat.le_trans l (Nat.pow_le_pow_right (by decide) h), e⟩
theorem Dm.dl {q : F} (h : Dm q) : Dl q := ⟨h.big, h.pos, h.low⟩
theorem cb_dl {D : Int} {n : Nat} {q : F} (h : Cb D n q) (b : Bd D n) : Dl q := (cb_dm h b).dl
theorem ca_dm {D : Int} {n : Nat} {l : List F} (h : Ca D n l) (b : Bd D n) : ∀ q ∈ l, Dm q := fun q hq => cb_dm (h q hq) b
theorem walk_enumT {K : PySem.W.Frag} {a : Addr} {xs : List V} : Walk (EnT.IteT K a) xs.length (fun H => SqT K H a xs) (YPair (fun i => some (.int (i : Nat))) (fun i => xs[i]?)) := by
  refine ⟨fun i _ hi q => ⟨xs, xs[i], q, by simp [hi]⟩, fun _ q => ⟨xs, q, Nat.le_refl _⟩, fun i H v H' _ q y => ?_⟩
  obtain ⟨T, x, h1, h2, h3, h4⟩ := y
  exact ⟨T, .int (i : Nat), x, h1, h2, h3, rfl, h4 xs q⟩
end Rs


set_option Elab.async false
set_option linter.all false
set_option maxRecDepth 100000
set_option maxHeartbeats 400000
namespace Rs
open PySem L2 Bs Fq LamX
def dP (qs : List F) : PyData := .tuple (qs.map dF)
def fracsD (n : Int) : PyData → Bool
  | .tuple ds => decide ((ds.length : Int) ≤ n) && ds.all fracD
  | _ => false
def lastNz (ds : List PyData) : Bool :=
  match ds.getLast? with
  | none => true
  | some d => !(PyData.eqv d (dF (0, 1)))
def polyD : PyData → Bool
  | .tuple ds => decide ((ds.length : Int) ≤ 12) && ds.all fracD && lastNz ds
  | _ => false
theorem FrAll.dp {K : PySem.W.Frag} {H : Hp} : ∀ {vs : List V} {qs : List F}, FrAll K H vs qs → DpAll K H vs (qs.map dF)
  | _, _, .nil => .nil
  | _, _, .cons a b => .cons a.dp (FrAll.dp b)
theorem Po.dp {K : PySem.W.Frag} {H : Hp} {v : V} {qs : List F} (h : Po K H v qs) : Dp K H v (dP qs) := by
  obtain ⟨a, xs, rfl, s, f⟩ := h
  exact .tup s f.dp
theorem dp_frAll {K : PySem.W.Frag} {H : Hp} : ∀ {vs : List V} {qs : List F}, DpAll K H vs (qs.map dF) → FrAll K H vs qs
  | _, [], h => by
    cases h
    exact .nil
  | _, q :: qs, h => by
    cases h with
    | cons h1 h2 => exact .cons (dp_fr h1) (dp_frAll h2)
theorem dp_po {K : PySem.W.Frag} {H : Hp} {v : V} {qs : List F} (h : Dp K H v (dP qs)) : Po K H v qs := by
  cases h with
  | tup s f => exact ⟨_, _, rfl, s, dp_frAll f⟩
theorem all_frac : ∀ {ds : List PyData}, ds.all fracD = true → ∃ qs : List F, ds = qs.map dF ∧ ∀ q ∈ qs, Fq.Ok q
  | [], _ => ⟨[], rfl, fun q h => by simp at h⟩
  | d :: ds, h => by
    rw [List.all_cons, Bool.and_eq_true] at h
    obtain ⟨q, rfl, o⟩ := fracD_true h.1
    obtain ⟨qs, rfl, os⟩ := all_frac h.2
    refine ⟨q :: qs, rfl, fun r hr => ?_⟩
    rcases List.mem_cons.mp hr with rfl | h
    · exact o
    · exact os r h
theorem all_frac_of : ∀ {qs : List F}, (∀ q ∈ qs, Fq.Ok q) → (qs.map dF).all fracD = true
  | [], _ => rfl
  | q :: qs, h => by
    rw [List.map_cons, List.all_cons, fracD_dF (h q List.mem_cons_self), Bool.true_and]
    exact all_frac_of fun r hr => h r (List.mem_cons_of_mem _ hr)
instance (qs : List F) : Decidable (Pn qs) := inferInstanceAs (Decidable (qs = [] ∨ co qs (qs.length - 1) ≠ (0, 1)))
theorem lastNz_map (qs : List F) : lastNz (qs.map dF) = decide (Pn qs) := by
  unfold lastNz
  rw [List.getLast?_map]
  cases e : qs.getLast? with
  | none =>
    have : qs = [] := List.getLast?_eq_none_iff.mp e
    exact (decide_eq_true (show Pn qs from Or.inl this)).symm
  | some q =>
    show (!(PyData.eqv (dF q) (dF (0, 1)))) = _
    rw [eqv_nought]
    have hn : qs ≠ [] := fun z => by rw [z] at e; cases e
    have ec : co qs (qs.length - 1) = q := by
      refine co_get ?_
      rw [← List.getLast?_eq_getElem?, e]
    by_cases c : q = (0, 1)
    · rw [decide_eq_true c]
      refine (decide_eq_false ?_).symm
      rintro (z | z)
      · exact hn z
      · exact z (ec.trans c)
    · rw [decide_eq_false c]
      exact (decide_eq_true (show Pn qs from .inr (fun z => c (ec.symm.trans z)))).symm
theorem polyD_true {d : PyData} (h : polyD d = true) : ∃ qs : List F, d = dP qs ∧ (∀ q ∈ qs, Fq.Ok q) ∧ qs.length ≤ 12 ∧ Pn qs := by
  unfold polyD at h
  split at h
  · rename_i ds
    rw [Bool.and_eq_true, Bool.and_eq_true] at h
    obtain ⟨⟨h1, h2⟩, h3⟩ := h
    obtain ⟨qs, rfl, o⟩ := all_frac h2
    rw [lastNz_map] at h3
    have := of_decide_eq_true h1
    rw [List.length_map] at this
    exact ⟨qs, rfl, o, by omega, of_decide_eq_true h3⟩
  · cases h
theorem polyD_of {qs : List F} (o : ∀ q ∈ qs, Fq.Ok q) (l : qs.length ≤ 12) (p : Pn qs) : polyD (dP qs) = true := by
  show (decide (((qs.map dF).length : Int) ≤ 12) && (qs.map dF).all fracD && lastNz (qs.map dF)) = true
  rw [all_frac_of o, lastNz_map, decide_eq_true p, List.length_map, decide_eq_true (by omega)]
  rfl
theorem fracsD_of {qs : List F} (o : ∀ q ∈ qs, Fq.Ok q) (l : qs.length ≤ 12) : fracsD 12 (dP qs) = true := by
  show (decide (((qs.map dF).length : Int) ≤ 12) && (qs.map dF).all fracD) = true
  rw [all_frac_of o, List.length_map, decide_eq_true (by omega)]
  rfl
theorem fracsD_true {n : Int} {d : PyData} (h : fracsD n d = true) : ∃ qs : List F, d = dP qs ∧ (∀ q ∈ qs, Fq.Ok q) ∧ (qs.length : Int) ≤ n := by
  unfold fracsD at h
  split at h
  · rename_i ds
    rw [Bool.and_eq_true] at h
    obtain ⟨h1, h2⟩ := h
    obtain ⟨qs, rfl, o⟩ := all_frac h2
    have := of_decide_eq_true h1
    rw [List.length_map] at this
    exact ⟨qs, rfl, o, this⟩
  · cases h
theorem polyD_eq (d : PyData) : polyD d = (fracsD 12 d && match d with | .tuple ds => lastNz ds | _ => false) := by
  cases d <;> rfl
theorem dF_inj {q r : F} (h : dF q = dF r) : q = r := by
  obtain ⟨a, b⟩ := q
  obtain ⟨c, d⟩ := r
  simp only [dF, PyData.tuple.injEq, List.cons.injEq, PyData.int.injEq, and_true] at h
  rw [h.1, h.2]
theorem map_dF_inj : ∀ {qs rs : List F}, qs.map dF = rs.map dF → qs = rs
  | [], [], _ => rfl
  | [], _ :: _, h => by cases h
  | _ :: _, [], h => by cases h
  | q :: qs, r :: rs, h => by
    rw [List.map_cons, List.map_cons, List.cons.injEq] at h
    rw [dF_inj h.1, map_dF_inj h.2]
theorem dP_inj {qs rs : List F} (h : dP qs = dP rs) : qs = rs := by
  simp only [dP, PyData.tuple.injEq] at h
  exact map_dF_inj h
abbrev sAreF : Stmt := top 26
def spAreF (K : PySem.W.Frag) : Sp := fun vs H Q _ => ∃ (v : V) (d : PyData) (n : Int), vs = [v, .int n] ∧ Dp K H v d ∧ n ≤ 12 ∧ ∀ H', Same H H' → Q (.bl (fracsD n d)) H'
theorem dpAll_at {K : PySem.W.Frag} {H : Hp} : ∀ {ds : List PyData} {xs : List V} {i : Nat} {x : V}, DpAll K H xs ds → xs[i]? = some x → ∃ d, ds[i]? = some d ∧ Dp K H x d
  | _, _, i, x, .nil, h => by simp at h
  | _, _, 0, x, .cons h1 h2, h => by
    simp only [List.getElem?_cons_zero, Option.some.injEq] at h
    rw [← h]
    exact ⟨_, rfl, h1⟩
  | _, _, i + 1, x, .cons h1 h2, h => by
    simp only [List.getElem?_cons_succ] at h
    obtain ⟨d, m, e⟩ := dpAll_at h2 h
    exact ⟨d, m, e⟩
/-- data kept where all is kept -/
theorem sqL_same {K : PySem.W.Frag} {H H' : Hp} (e : Same H H') {a : Addr} {xs : List V} (h : SqL K H a xs) : SqL K H' a xs := e.seq h
mutual
theorem dp_same' {K : PySem.W.Frag} {H H' : Hp} (e : Same H H') : ∀ (d : PyData) (v : V), Dp K H v d → Dp K H' v d
  | .none, _, h => by
    cases h
    exact .non
  | .bool b, _, h => by
    cases h
    exact .bl _
  | .int i, _, h => by
    cases h
    exact .int _
  | .str x, _, h => by
    cases h
    exact .str _
  | .list ds, _, h => by
    cases h with
    | lst hs ha => exact .lst (sqL_same e hs) (dpAll_same' e ds _ ha)
  | .tuple ds, _, h => by
    cases h with
    | tup hs ha => exact .tup (Bs.Same.t e hs) (dpAll_same' e ds _ ha)
  | .dict _, _, h => by cases h
theorem dpAll_same' {K : PySem.W.Frag} {H H' : Hp} (e : Same H H') : ∀ (ds : List PyData) (vs : List V), DpAll K H vs ds → DpAll K H' vs ds
  | [], _, h => by
    cases h
    exact .nil
  | d :: ds, _, h => by
    cases h with
    | cons h1 h2 => exact .cons (dp_same' e d _ h1) (dpAll_same' e ds _ h2)
end
theorem dps {K : PySem.W.Frag} {H H' : Hp} (e : Same H H') {d : PyData} {v : V} (h : Dp K H v d) : Dp K H' v d := dp_same' e d v h
section
variable {P : Program} {w : World} {K : PySem.W.Frag} {mg : Str → Option Value} {base : Heap} {f : Addr} {fd : FuncData}
theorem scAreF : FnScope ["thing", "most", "part"] ["thing", "most"] (defScope sAreF) := ⟨rfl, rfl, rfl, by decide +kernel, rfl, by decide +kernel, by decide +kernel⟩
theorem ok_areF (F : Fun K "are_fractions" "are_fractions" sAreF f fd) (T : Blt mg) (al : mg "all" = none) (W : Cal P w K mg base 2 "is_fraction" (spFraction K)) : FnOk P w K mg base CX0 3 f fd ["thing", "most"] (spAreF K) := by
  refine F.ok scAreF (fun vs H Q E h => ?_) (fun cdv A outer s H vs Q E hr h => ?_)
  · obtain ⟨v, d, n, rfl, _⟩ := h
    rfl
  · obtain ⟨v, d, n, rfl, hd, hn, kk⟩ := h
    refine ⟨_, pss_one (ps_ret (pe_and (pe_callB call_isi (by rfl) T.isinstance (by decide +kernel) (pa_cons (pv 0) (pa_cons (pe_bltn (v := .ty "tuple") (by rfl) T.tuple (by decide +kernel) rfl) pa_nil)))
      (pe_and (pe_cmpR op_le (pe_callB call_len_seq (by rfl) T.len (by decide +kernel) (pa_cons (pv 0) pa_nil)) (pv 1) (nomark _))
        (pe_one (pe_callB (cr_all rfl) (by rfl) al (by decide +kernel) (pa_cons (pe_lc (own := [("part", 2)]) (g := gName 2) (tt := tYes) rfl scAreF.nd (pi_tup (pv 0)) (blkOk_by (N := ["thing", "most", "part"]) (sc := defScope sAreF) (by decide +kernel))
          (fun _ _ _ _ _ => pg_name (i := 2) scAreF.nd rfl (Or.inl rfl)) (fun _ _ _ _ _ => pts_nil)
          (fun _ _ _ _ _ => pe_n W hr (by decide) (by rfl) (pa_cons (pv 2) pa_nil))) pa_nil)))))), ?_⟩
    refine ⟨v, rfl, v, _, _, _, _, rfl, .ty _, hd.ty, kitT K d, _, rfl, ?_⟩
    have no : fracsD n d = false → isTup d = false → Q (.bl false) H := fun e _ => by
      have := kk H (fun _ _ z => z)
      rwa [e] at this
    cases d with
    | tuple ds =>
      refine iteT ?_
      cases hd with
      | tup sq all =>
        rename_i a xs
        have l := dpAll_len all
        refine ⟨_, rfl, a, xs, rfl, Or.inr sq, _, rfl, _, _, rfl, rfl, _, rfl, ?_⟩
        have e : fracsD n (.tuple ds) = (decide ((xs.length : Int) ≤ n) && ds.all fracD) := by rw [l]; rfl
        refine ite2 (fun c => ?_) (fun c => ?_)
        · have cl : (xs.length : Int) ≤ n := of_decide_eq_true c
          rw [decide_eq_true cl, Bool.true_and] at e
          refine ⟨_, rfl, a, rfl, ⟨_, sq⟩, fun D hD => lc_tup (K := K) (a := a) (xs := xs) (fun i H2 => Same H H2 ∧ H2 D = some (.lst (((ds.take i).map fracD).map V.bl))) ⟨same_new hD, upd_same⟩ (fun i H2 _ z => Bs.Same.t z.1 sq) ?_ ?_⟩
          · rintro i x H2 hx ⟨s2, hD2⟩
            obtain ⟨d', hd', dd⟩ := dpAll_at all hx
            refine ⟨rfl, ?_⟩
            refine iteT (B := Same H H2 ∧ H2 D = some (.lst (((ds.take (i + 1)).map fracD).map V.bl))) ?_
            refine ⟨_, rfl, x, d', rfl, dps s2 dd, ?_⟩
            refine ⟨_, hD2, ?_, fun b o e => (upd_ne (ne_of_none e hD)).trans (s2 b o e), ?_⟩
            · rw [List.length_map, List.length_map, List.length_take]
              exact small1000 (by omega)
            · rw [upd_same, take_one hd', List.map_append, List.map_append]
              rfl
          · rintro H2 ⟨s2, hD2⟩
            rw [l, List.take_length] at hD2
            refine ⟨D, _, rfl, SqL.of hD2, ?_⟩
            have := kk H2 s2
            rw [e] at this
            rw [List.all_map]
            exact this
        · have := kk H (fun _ _ z => z)
          rw [e, Bool.eq_false_iff.mpr c, Bool.false_and] at this
          exact this
    | none => exact iteF (no rfl rfl)
    | bool b => exact iteF (no rfl rfl)
    | int i => exact iteF (no rfl rfl)
    | str x => exact iteF (no rfl rfl)
    | list xs => exact iteF (no rfl rfl)
    | dict xs => exact iteF (no rfl rfl)
end
end Rs


set_option Elab.async false
set_option linter.all false
set_option maxRecDepth 100000
set_option maxHeartbeats 400000
namespace Rs
open PySem L2 Bs Fq LamX
def spInitW (K : PySem.W.Frag) (C : Addr) (fld : Str) : Sp := fun vs H Q _ => ∃ (a : Addr) (y : V), vs = [.ref a, y] ∧ H a = some (exo a C none) ∧
  ∀ dx, H dx = none → dx ≠ a → Q .non (upd (upd H dx (exd dx [(fld, y)])) a (exo a C (some dx)))
structure ErrOkW (P : Program) (w : World) (K : PySem.W.Frag) (mg : Str → Option Value) (base : Heap) (x fld : Str) (C : Addr) : Prop where
  gC : mg x = some (.ref C)
  oex : OexC K C
  ini : ∃ (fI : Addr) (fd : FuncData), PySem.W.findIn K (.ref C) "__init__" = some (some (.ref fI)) ∧ PySem.W.typeIn K (.ref fI) = some (.type "function") ∧ FnOk P w K mg base CX0 1 fI fd ["self", fld] (spInitW K C fld) ∧ Binds K fd ["self", fld] []
/-- the way out with an error of the class at C that carries v -/
def OutW (E : XK) (C : Addr) (fld : Str) (v : V) (H : Hp) : Prop := ∀ d : Addr, H d = none → E (.ref C) (some d) (upd H d (.xd [(fld, v)]))
def tRzW (C : Addr) (fld : Str) (W : WX) (te : TE) : TS := fun _ σ H => te σ H fun v H1 => ∀ d : Addr, H1 d = none → W (.ref C) (some d) σ (upd H1 d (.xd [(fld, v)]))
theorem ps_rzW {X : Cx} {x fld : Str} {C : Addr} {j : Nat} {e : Expr} {te : TE} {W : WX} {p pos pos2 : Pos} (hc : X.calm = true) (T : ErrOkW X.prog X.w X.K X.mg X.base x fld C) (hr : Room j X.A) (hj : 2 ≤ j) (tk : Takes X W) (he : PE X e te) (hg : Gl X x)
    (hdb : (x == ("__debug__" : Str)) = false := by decide) (hs : starEach (e :: []) X.env = (false, eval e X.env) :: starEach [] X.env := by rfl) (hpl : (backTo pos (starEach [] X.env)).any (·.1) = false := by rfl) :
    PS X (.Raise (some (.Call (.Name x p) [e] [] pos)) none pos2) (tRzW C fld W te) := by
  obtain ⟨fI, fd, iC, tI, F1, b⟩ := T.ini
  have h := ps_raise (pos := pos2) hc tk (pmk_oex (x := x) (p := p) (pos := pos) T.oex iC tI F1 (hr.mono hj) b .nil pass0 hg T.gC (pa_cons (pe_weak he) pa_nil hs) hdb hs hpl)
  constructor
  intro pins s σ H D I q
  refine h.run pins s σ H D I ?_
  refine ⟨_, q, fun v H1 z => ?_⟩
  refine ⟨(by show 1 ≤ 1000; decide), fun a ha => ⟨a, v, rfl, upd_same, fun dx n1 n2 => ⟨rfl, dx, [(fld, v)], upd_same, ?_, ?_, ?_⟩⟩⟩
  · rw [upd_ne n2]
    exact upd_same
  · rw [upd_ne n2] at n1
    exact n1
  · rw [upd_ne n2] at n1
    show W _ _ _ (upd (del _ a) dx _)
    rw [heap_end ha n2]
    exact z dx n1
end Rs


set_option Elab.async false
set_option linter.all false
set_option maxRecDepth 100000
set_option maxHeartbeats 400000
namespace Sh
open PySem
/-- data whose text may be made -/
structure Ok (d : PyData) : Prop where
  s : d.showable = true
  n : d.hasDict = false
  dep : d.depth ≤ 60
  l : d.shown.length ≤ sizeLine
theorem of {d : PyData} (h1 : d.showable = true) (h2 : d.hasDict = false) (h3 : d.depth ≤ 60) (h4 : d.leavesShort 2600 = true) (h5 : d.weight ≤ 6000) : Ok d := by
  refine ⟨h1, h2, h3, ?_⟩
  have := PyData.shown_le 2600 (by decide) d h4
  have e : sizeLine = 16777216 := sizeLine_eq
  have : (2600 + 2) * d.weight ≤ 2602 * 6000 := Nat.mul_le_mul (Nat.le_refl _) h5
  omega
end Sh


set_option Elab.async false
set_option linter.all false
set_option maxRecDepth 100000
set_option maxHeartbeats 400000
namespace Rs
open PySem L2 Bs Fq LamX
theorem can_dFs : ∀ qs : List F, PyData.canLayAll0 (qs.map dF) = true
  | [] => by simp [PyData.canLayAll0]
  | q :: qs => by
    have := can_dFs qs
    simp [PyData.canLayAll0, PyData.canLay0, dF, this]
theorem dep_dFs : ∀ qs : List F, PyData.depthAll (qs.map dF) ≤ 2
  | [] => by simp [PyData.depthAll]
  | q :: qs => by
    have := dep_dFs qs
    simp only [List.map_cons, PyData.depthAll, PyData.depth, dF]
    omega
end Rs


set_option Elab.async false
set_option linter.all false
set_option maxRecDepth 100000
set_option maxHeartbeats 400000
namespace Rs
open PySem L2 Bs Fq LamX
/-- the list at D alone was changed -/
theorem Sta.off {H : Hp} {p c l D : Addr} {n : Nat} {t : Int} {xs : List V} {o : HO} (S : Sta H p c l n t) (h : H D = some (.lst xs)) (n1 : c ≠ D) (n2 : l ≠ D) : Sta (upd H D o) p c l n t := by
  obtain ⟨cs, a1, a2⟩ := S.cs
  obtain ⟨ls, b1, b2⟩ := S.ls
  have n3 : p ≠ D := ne_of S.d h (by intro z; cases z)
  exact ⟨(upd_ne n3).trans S.d, ⟨cs, (upd_ne n1).trans a1, a2⟩, ⟨ls, (upd_ne n2).trans b1, b2⟩, S.ne, S.n1, S.n2, S.t0⟩
theorem FrAll.kp {K : PySem.W.Frag} {H H' : Hp} {p c l : Addr} {n : Nat} {t : Int} (k : Kp p l H H') (S : Sta H p c l n t) : ∀ {vs : List V} {qs : List F}, FrAll K H vs qs → FrAll K H' vs qs
  | _, _, .nil => .nil
  | _, _, .cons a b => .cons (k.fr S a) (FrAll.kp k S b)
theorem Po.kp {K : PySem.W.Frag} {H H' : Hp} {p c l : Addr} {n : Nat} {t : Int} {v : V} {qs : List F} (k : Kp p l H H') (S : Sta H p c l n t) (h : Po K H v qs) : Po K H' v qs := by
  obtain ⟨a, xs, rfl, s, f⟩ := h
  obtain ⟨ls, b1, _⟩ := S.ls
  refine ⟨a, xs, rfl, ?_, f.kp k S⟩
  rcases s with (s | ⟨o, s⟩) | s
  · exact .inl (.inl (k a _ s (ne_of s S.d (by intro z; cases z)) (ne_of s b1 (by intro z; cases z))))
  · exact .inl (.inr ⟨o, k a _ s (ne_of s S.d (by intro z; cases z)) (ne_of s b1 (by intro z; cases z))⟩)
  · exact .inr s
end Rs


set_option Elab.async false
set_option linter.all false
set_option maxRecDepth 100000
set_option maxHeartbeats 1000000
namespace Rs
open PySem PySem.Spec PyProof.Rows L2 Bs Fq LamX RZ
abbrev sPTimed : Stmt := top 20
theorem FrAll.drop {K : PySem.W.Frag} {H : Hp} : ∀ {vs : List V} {qs : List F} (n : Nat), FrAll K H vs qs → FrAll K H (vs.drop n) (qs.drop n)
  | _, _, 0, h => h
  | _, _, n + 1, .nil => .nil
  | _, _, n + 1, .cons _ b => FrAll.drop n b
section
variable {P : Program} {w : World} {K : PySem.W.Frag} {mg : Str → Option Value} {base : Heap} {f : Addr} {fd : FuncData}
theorem scPTimed : FnScope ["one", "other", "whole", "i", "part", "j", "piece"] ["one", "other"] (defScope sPTimed) := ⟨rfl, rfl, rfl, by decide +kernel, rfl, by decide +kernel, by decide +kernel⟩
end
end Rs


set_option Elab.async false
set_option linter.all false
set_option maxRecDepth 100000
set_option maxHeartbeats 400000
namespace Rs
open PySem L2 Bs Fq LamX
theorem cat_any {K : PySem.W.Frag} {H : Hp} {Q : VK} {a b : Addr} {xs ys : List V} (ha : SqT K H a xs) (hb : SqT K H b ys) (sz : xs.length + ys.length ≤ sizeLine) (k : ∀ c H', Same H H' → SqT K H' c (xs ++ ys) → Q (.ref c) H') : rCatA K (.ref a) (.ref b) H Q := by
  refine ⟨a, b, xs, ys, rfl, rfl, ha, hb, sz, fun e => ?_, fun _ e => ?_, fun _ _ p hp => k p _ (same_new hp) (SqT.of upd_same)⟩
  · subst e
    exact k b H (fun _ _ z => z) hb
  · subst e
    refine k a H (fun _ _ z => z) ?_
    rw [List.append_nil]
    exact ha
end Rs


set_option Elab.async false
set_option linter.all false
set_option maxRecDepth 100000
set_option maxHeartbeats 1000000
namespace Rs
open PySem L2 Bs Fq LamX
def top0 : PyData → Bool
  | .tuple (.int a :: _) => decide (0 < a)
  | _ => false
def posD (d : PyData) : Bool := fracD d && top0 d
def above (qs : List F) : Bool := qs.all fun q => decide (0 < q.1)
theorem atI_neg1 {xs : List V} {u : V} (n : xs ≠ []) (h : xs[xs.length - 1]? = some u) : atI xs (-1) = some u := by
  have hl := List.length_pos_iff.mpr n
  have e : ixN xs.length (-1) = some (xs.length - 1) := by
    unfold ixN
    rw [if_neg (by decide), if_pos (by omega)]
    congr 1
    omega
  unfold atI
  rw [e]
  exact h
abbrev sPosi : Stmt := top 25
def spPosi (K : PySem.W.Frag) : Sp := fun vs H Q _ => ∃ (v : V) (d : PyData), vs = [v] ∧ Dp K H v d ∧ Q (.bl (posD d)) H
section
variable {P : Program} {w : World} {K : PySem.W.Frag} {mg : Str → Option Value} {base : Heap} {f : Addr} {fd : FuncData} {CL : Addr}
theorem scPosi : FnScope ["thing"] ["thing"] (defScope sPosi) := ⟨rfl, rfl, rfl, by decide +kernel, rfl, by decide +kernel, by decide +kernel⟩
theorem ok_posi (F : Fun K "is_positive" "is_positive" sPosi f fd) (W : Cal P w K mg base 2 "is_fraction" (spFraction K)) : FnOk P w K mg base CX0 3 f fd ["thing"] (spPosi K) := by
  refine F.ok scPosi (fun vs H Q E h => ?_) (fun cdv A outer s H vs Q E hr h => ?_)
  · obtain ⟨v, d, rfl, _⟩ := h
    rfl
  · obtain ⟨v, d, rfl, hd, kk⟩ := h
    refine ⟨_, pss_one (ps_ret (pe_and (pe_n W hr (by decide) (by rfl) (pa_cons (pv 0) pa_nil)) (pe_one (pe_cmpR op_gt (pe_ix ix_tup (pv 0) pe_int (fun _ _ => rfl)) pe_int (nomark _))))), ?_⟩
    refine ⟨v, rfl, v, d, rfl, hd, _, rfl, ?_⟩
    unfold posD at kk
    cases e : fracD d with
    | false =>
      rw [e] at kk
      exact iteF kk
    | true =>
      rw [e] at kk
      obtain ⟨q, rfl, o⟩ := fracD_true e
      obtain ⟨a, rfl, sq⟩ := dp_fr hd
      exact iteT ⟨_, rfl, a, _, 0, _, rfl, rfl, sq, rfl, _, _, rfl, rfl, kk⟩
end
end Rs


set_option Elab.async false
set_option linter.all false
set_option maxRecDepth 100000
set_option maxHeartbeats 400000
namespace Rs
open Fq
def rv (qs : List F) : Nat → Rat := fun i => val (co qs i)
/-- the sum by the moments from s on -/
def ws (qs : List F) (s : Nat) (w : List F) : Rat := wt (fun m => rv qs (m + s)) w
def cnt (qs : List F) (J : Nat) : Nat := if 2 * J < qs.length then J + 1 else J
end Rs


set_option Elab.async false
set_option linter.all false
set_option maxRecDepth 100000
set_option maxHeartbeats 1000000
namespace Rs
open PySem L2 Bs Fq LamX RZ
theorem sqT_off {K : PySem.W.Frag} {H : Hp} {a D : Addr} {xs acc : List V} {o : HO} (hD : H D = some (.lst acc)) (s : SqT K H a xs) : SqT K (upd H D o) a xs := by
  rcases s with (s | ⟨o', s⟩) | s
  · exact .inl (.inl ((upd_ne (ne_of s hD (by intro z; cases z))).trans s))
  · exact .inl (.inr ⟨o', (upd_ne (ne_of s hD (by intro z; cases z))).trans s⟩)
  · exact .inr s
theorem Po.off {K : PySem.W.Frag} {H : Hp} {v : V} {qs : List F} {D : Addr} {acc : List V} {o : HO} (hD : H D = some (.lst acc)) (h : Po K H v qs) : Po K (upd H D o) v qs := by
  obtain ⟨a, xs, rfl, s, f⟩ := h
  exact ⟨a, xs, rfl, sqT_off hD s, f.off hD⟩
end Rs


set_option Elab.async false
set_option linter.all false
set_option maxRecDepth 100000
set_option maxHeartbeats 1000000
namespace Rs
open PySem L2 Bs Fq LamX RZ
def last (qs : List F) (J : Nat) : Rat := nor (rv qs) (cnt qs J - 1)
end Rs


set_option Elab.async false
set_option linter.all false
set_option maxRecDepth 100000
set_option maxHeartbeats 1000000
namespace Rs
open PySem L2 Bs Fq LamX RZ
def row0 : PyData → Bool
  | .tuple (d :: _) => top0 d
  | _ => false
def rowD (d : PyData) : Bool := fracsD 9 d && row0 d
abbrev sIsRow : Stmt := top 62
abbrev sNeedRow : Stmt := top 63
structure Most9 (mg : Str → Option Value) : Prop where
  m9 : ∃ t, mg "MOST_MOMENTS" = some (.int 9 t)
def spIsRow (K : PySem.W.Frag) : Sp := fun vs H Q _ => ∃ (v : V) (d : PyData), vs = [v] ∧ Dp K H v d ∧ ∀ H', Same H H' → Q (.bl (rowD d)) H'
section
variable {P : Program} {w : World} {K : PySem.W.Frag} {mg : Str → Option Value} {base : Heap} {f CR CS : Addr} {fd : FuncData}
theorem scIsRow : FnScope ["thing"] ["thing"] (defScope sIsRow) := ⟨rfl, rfl, rfl, by decide +kernel, rfl, by decide +kernel, by decide +kernel⟩
theorem ok_isRow (F : Fun K "is_row" "is_row" sIsRow f fd) (T : Blt mg) (M : Most9 mg) (AF : Cal P w K mg base 3 "are_fractions" (spAreF K)) : FnOk P w K mg base CX0 4 f fd ["thing"] (spIsRow K) := by
  refine F.ok scIsRow (fun vs H Q E h => ?_) (fun cdv A outer s H vs Q E hr h => ?_)
  · obtain ⟨v, d, rfl, _⟩ := h
    rfl
  · obtain ⟨v, d, rfl, hd, kk⟩ := h
    obtain ⟨t, mt⟩ := M.m9
    refine ⟨_, pss_one (ps_ret (pe_and (pe_n AF hr (by decide) (by rfl) (pa_cons (pv 0) (pa_cons (pe_glob (v := .int 9) (by rfl) mt ⟨t, rfl⟩) pa_nil)))
      (pe_and (pe_cmpR op_gt (pe_callB call_len_seq (by rfl) T.len (by decide +kernel) (pa_cons (pv 0) pa_nil)) pe_int (nomark _))
        (pe_one (pe_cmpR op_gt (pe_ix ix_tup (pe_ix ix_tup (pv 0) pe_int (fun _ _ => rfl)) pe_int (fun _ _ => rfl)) pe_int (nomark _)))))), ?_⟩
    refine ⟨v, rfl, v, d, 9, rfl, hd, by decide, fun H1 s1 => ⟨_, rfl, ?_⟩⟩
    have kk' := kk H1 s1
    unfold rowD at kk'
    cases e : fracsD 9 d with
    | false =>
      rw [e] at kk'
      exact iteF kk'
    | true =>
      rw [e] at kk'
      obtain ⟨qs, rfl, ok, lq⟩ := fracsD_true e
      obtain ⟨a, xs, rfl, sq, fx⟩ := (dp_po hd).mono s1
      refine iteT ⟨_, rfl, a, xs, rfl, Or.inr sq, _, _, rfl, rfl, _, rfl, ?_⟩
      cases fx with
      | nil => exact iteF kk'
      | cons h1 h2 =>
        rename_i v1 vs1 q1 qs1
        obtain ⟨b, rfl, sb⟩ := h1
        refine ite2 (fun c => ?_) (fun c => ?_)
        · exact ⟨_, rfl, a, _, 0, _, rfl, rfl, sq, atI_nat (j := 0) rfl, b, _, 0, _, rfl, rfl, sb, rfl, _, _, rfl, rfl, kk'⟩
        · exact absurd (decide_eq_true (by rw [List.length_cons]; omega)) c
theorem scNeedRow : FnScope ["thing"] ["thing"] (defScope sNeedRow) := ⟨rfl, rfl, rfl, by decide +kernel, rfl, by decide +kernel, by decide +kernel⟩
end
end Rs


set_option Elab.async false
set_option linter.all false
set_option maxRecDepth 100000
set_option maxHeartbeats 1000000
namespace Rs
open PySem L2 Bs Fq LamX RZ
def isStr : PyData → Bool
  | .str _ => true
  | _ => false
theorem kitS (K : PySem.W.Frag) (d : PyData) : PySem.W.kitOne K (.type (tyD d)) (.type "str") = some (isStr d) := by
  cases d with
  | none => exact kit_ty (a := "NoneType") (b := "str") (r := false) (by decide +kernel)
  | bool _ => exact kit_ty (a := "bool") (b := "str") (r := false) (by decide +kernel)
  | int _ => exact kit_ty (a := "int") (b := "str") (r := false) (by decide +kernel)
  | str _ => exact kit_ty (a := "str") (b := "str") (r := true) (by decide +kernel)
  | list _ => exact kit_ty (a := "list") (b := "str") (r := false) (by decide +kernel)
  | tuple _ => exact kit_ty (a := "tuple") (b := "str") (r := false) (by decide +kernel)
  | dict _ => exact kit_ty (a := "dict") (b := "str") (r := false) (by decide +kernel)
end Rs


set_option Elab.async false
set_option linter.all false
set_option maxRecDepth 100000
set_option maxHeartbeats 1000000
namespace Rs
open PySem L2 Bs Fq LamX RZ
end Rs
namespace Fq
open Rs
/-- above nought -/
def Pos (q : F) : Prop := 0 < q.1 ∧ 0 < q.2
theorem zero_add {q : F} (h : Ok q) : add (0, 1) q = q := by
  show red (0 * q.2 + q.1 * 1) (1 * q.2) = q
  rw [Int.zero_mul, Int.zero_add, Int.mul_one, Int.one_mul]
  exact red_of h
end Fq
namespace Rs
open PySem L2 Bs Fq LamX RZ
theorem sqT_kp {K : PySem.W.Frag} {H H' : Hp} {p c l a : Addr} {n : Nat} {t : Int} {xs : List V} (k : Kp p l H H') (S : Sta H p c l n t) (h : SqT K H a xs) : SqT K H' a xs := by
  obtain ⟨ls, b1, _⟩ := S.ls
  rcases h with (s | ⟨o, s⟩) | s
  · exact .inl (.inl (k a _ s (ne_of s S.d (by intro z; cases z)) (ne_of s b1 (by intro z; cases z))))
  · exact .inl (.inr ⟨o, k a _ s (ne_of s S.d (by intro z; cases z)) (ne_of s b1 (by intro z; cases z))⟩)
  · exact .inr s
section
variable {K : PySem.W.Frag} {H H' : Hp}
theorem FrAll.app : ∀ {vs ws : List V} {qs rs : List F}, FrAll K H vs qs → FrAll K H ws rs → FrAll K H (vs ++ ws) (qs ++ rs)
  | _, _, _, _, .nil, h => h
  | _, _, _, _, .cons a b, h => .cons a (FrAll.app b h)
end
theorem cut_to {xs : List V} {k : Nat} (h : k ≤ xs.length) : cutV xs none (some (k : Int)) = xs.take k := by
  unfold cutV
  have e : HT.sIx xs.length xs.length (some (k : Int)) = k := by
    rw [HT.sIx_nat]
    omega
  rw [e]
  show (xs.drop 0).take (k - 0) = _
  rw [List.drop_zero, Nat.sub_zero]
theorem cut_from {xs : List V} {k : Nat} (h : k ≤ xs.length) : cutV xs (some (k : Int)) none = xs.drop k := by
  unfold cutV
  have e : HT.sIx xs.length 0 (some (k : Int)) = k := by
    rw [HT.sIx_nat]
    omega
  rw [e]
  show (xs.drop k).take (xs.length - k) = _
  rw [List.take_of_length_le (by rw [List.length_drop]; exact Nat.le_refl _)]
end Rs


set_option Elab.async false
set_option linter.all false
set_option maxRecDepth 100000
set_option maxHeartbeats 1000000
namespace Fq
open Rs
end Fq
namespace Rs
open PySem L2 Bs Fq LamX RZ
def rLenK (K : PySem.W.Frag) : List V → Hp → VK → Prop := fun xs H Q => ∃ p ys, xs = [V.ref p] ∧ (SqL K H p ys ∨ SqT K H p ys) ∧ Q (.int ys.length) H
end Rs


set_option Elab.async false
set_option linter.all false
set_option maxRecDepth 100000
set_option maxHeartbeats 400000
namespace Rs
open PySem L2 Bs Fq LamX LmD TA2
theorem ExtN.t {K : PySem.W.Frag} {H H' : Hp} {a : Addr} {xs : List V} (e : ExtN H H') (h : SqT K H a xs) : SqT K H' a xs := by
  rcases h with (h | ⟨o, h⟩) | h
  · exact .inl (.inl (e _ _ h (by intro ps z; cases z)))
  · exact .inl (.inr ⟨o, e _ _ h (by intro ps z; cases z)⟩)
  · exact .inr h
theorem ExtN.fr {K : PySem.W.Frag} {H H' : Hp} {v : V} {q : F} (e : ExtN H H') (h : Fr K H v q) : Fr K H' v q := by
  obtain ⟨a, rfl, s⟩ := h
  exact ⟨a, rfl, ExtN.t e s⟩
theorem Sta.ext {H H' : Hp} {p c l : Addr} {n : Nat} {t : Int} (S : Sta H p c l n t) (e : ExtN H H') : Sta H' p c l n t := by
  obtain ⟨cs, a1, a2⟩ := S.cs
  obtain ⟨ls, b1, b2⟩ := S.ls
  exact ⟨e _ _ S.d (by intro ps z; cases z), ⟨cs, e _ _ a1 (by intro ps z; cases z), a2⟩, ⟨ls, e _ _ b1 (by intro ps z; cases z), b2⟩, S.ne, S.n1, S.n2, S.t0⟩
theorem ExtN.l {H H' : Hp} {a : Addr} {xs : List V} (e : ExtN H H') (h : H a = some (.lst xs)) : H' a = some (.lst xs) := e _ _ h (by intro ps z; cases z)
end Rs


set_option linter.all false
set_option maxRecDepth 100000
namespace Pg
abbrev Blk := List Int
abbrev Prt := List (List Int)
def hdI (b : Blk) : Int := b.headD 0
def ltI (b : Blk) : Int := b.getLastD 0
def prs (b : Blk) : List (Int × Int) := b.zip b.tail
def isBlk (b : Blk) : Bool := !b.isEmpty && ((b.all fun n => decide (0 ≤ n) && decide (n ≤ 6)) && (prs b).all fun q => decide (q.1 < q.2))
def within (b : Blk) (lo hi : Int) : Nat := (b.filter fun n => decide (lo ≤ n) && decide (n < hi)).length
def cutB (lo hi : Int) (b : Blk) : Bool := decide (0 < within b lo hi) && decide (within b lo hi < b.length)
def parted (p : Prt) (lo hi : Int) : Bool := p.any (cutB lo hi)
def gaps (p : Prt) : List (Int × Int) := p.flatMap fun b => (prs b).map fun q => (q.1 + 1, q.2)
def crosses (p : Prt) : Bool := (gaps p).any fun g => parted p g.1 g.2
def strB (b : Blk) : Bool := decide (ltI b - hdI b + 1 = b.length)
def stretched (p : Prt) : Bool := p.all strB
inductive Kd
  | all | free | str
deriving DecidableEq
def hasK (k : Kd) (p : Prt) : Bool := match k with
  | .free => !crosses p
  | .all => true
  | .str => stretched p
def more (p : Prt) (n : Int) (k : Nat) : Prt := p.take k ++ [p.getD k [] ++ [n]] ++ p.drop (k + 1)
def withN (p : Prt) (n : Int) : List Prt := (p ++ [[n]]) :: (List.range p.length).map (more p n)
def partsOf (k : Kd) : Nat → List Prt
  | 0 => [[]]
  | m + 1 => ((partsOf k m).flatMap fun p => withN p m).filter (hasK k)
def total (p : Prt) : Nat := (p.map List.length).sum
def beside (p bs : Prt) (n : Int) : List Nat := (List.range bs.length).filter fun k => !parted p (hdI (bs.getD k []) + 1) (n + 1)
def turnS (p bs : Prt) (n : Int) : Prt := match beside p bs n with
  | k :: _ => bs.set k (bs.getD k [] ++ [n])
  | [] => bs ++ [[n]]
def turnTo (p : Prt) : Nat → Prt
  | 0 => []
  | m + 1 => turnS p (turnTo p m) m
def turnP (p : Prt) : Prt := turnTo p (total p)
def sgn (x : Int) (m : Nat) : Int := if m % 2 = 1 then x else -x
def cat (m : Nat) : Int := match m with
  | 1 => 1 | 2 => 1 | 3 => 2 | 4 => 5 | 5 => 14 | 6 => 42 | 7 => 132 | _ => 0
def fact : Nat → Int
  | 0 => 1
  | n + 1 => (n + 1 : Nat) * fact n
def signB (k : Kd) (p : Prt) : Int := match k with
  | .free => (turnP p).foldl (fun w b => w * sgn (cat b.length) b.length) 1
  | .all => if p.length = 0 then 1 else sgn (fact (p.length - 1)) p.length
  | .str => if p.length = 0 then 1 else sgn 1 p.length
def lawRows : Nat → List Prt
  | 0 => [[]]
  | m + 1 => (lawRows m).flatMap fun p => withN p m
def homes (p : Prt) (n : Int) : List Nat := (List.range p.length).filter fun k => (p.getD k []).contains n
def home (p : Prt) (n : Int) : Nat := (homes p n).headD 0
def freeB (h : List Nat) : Bool := (List.range h.length).all fun near => (List.range h.length).all fun spot => (List.range h.length).all fun late =>
  !(decide (near < spot) && (decide (spot < late) && (decide (h.getD near 0 = h.getD late 0) && (decide (h.getD late 0 ≠ h.getD spot 0) && (h.drop (late + 1)).contains (h.getD spot 0)))))
def lawFree (p : Prt) : Bool := freeB ((List.range (total p)).map fun n : Nat => home p n)
def lawKind (k : Kd) (p : Prt) : Bool := match k with
  | .free => lawFree p
  | .all => true
  | .str => p.all fun b => !decide (ltI b - hdI b ≥ b.length)
def lawCut (b : Blk) (late : Int) (own : Blk) : Bool := decide (0 < (own.filter fun n => decide (hdI b < n) && decide (n ≤ late)).length) && decide ((own.filter fun n => decide (hdI b < n) && decide (n ≤ late)).length < own.length)
def lawBeside (p bs : Prt) (n : Int) : List Nat := (List.range bs.length).filter fun k => !(p.any (lawCut (bs.getD k []) n))
def lawTurnS (p bs : Prt) (n : Int) : Prt := match lawBeside p bs n with
  | k :: _ => bs.set k (bs.getD k [] ++ [n])
  | [] => bs ++ [[n]]
def lawTurnTo (p : Prt) : Nat → Prt
  | 0 => []
  | m + 1 => lawTurnS p (lawTurnTo p m) m
def lawTurn (p : Prt) : Prt := lawTurnTo p (total p)
def sg (b : Blk) : Int := [1, -1, 2, -5, 14, -42, 132].getD (b.length - 1) 0
def lawSign (k : Kd) (p : Prt) : Int := match k with
  | .free => (lawTurn p).foldl (fun w b => w * sg b) 1
  | .all => (List.range (p.length - 1)).foldl (fun w i => w * (0 - ((1 + i : Nat) : Int))) 1
  | .str => (List.range (p.length - 1)).foldl (fun w _ => w * (-1)) 1
def kds : List Kd := [.all, .free, .str]
def validB (p : Prt) : Bool := (p.all isBlk) && (((p.zip p.tail).all fun q => decide (hdI q.1 < hdI q.2)) && p.flatten.isPerm ((List.range (total p)).map fun n : Nat => (n : Int)))
def sizeB (p : Prt) : Bool := decide (p.length ≤ 8) && p.all fun b => decide (b.length ≤ 8) && decide (0 < b.length)
def oneB (p : Prt) : Bool := validB p && (sizeB p && (sizeB (turnP p) && (decide (total p ≤ 7) && ((kds.all fun k => hasK k p == lawKind k p && (!lawKind k p || signB k p == lawSign k p)) && (turnP p == lawTurn p && (lawKind .free (turnP p) && (!lawKind .free p || (turnP p).length + p.length == total p + (if total p = 0 then 0 else 1))))))))
theorem all_one : ∀ n ∈ [0, 1, 2, 3, 4, 5], (lawRows n).all oneB = true := by decide +kernel
theorem all_perm : ∀ n ∈ [0, 1, 2, 3, 4, 5], ∀ k ∈ kds, (((lawRows n).filter (lawKind k)).isPerm (partsOf k n)) = true := by decide +kernel
/-- how many there are, and of what size -/
def lens (k : Kd) (n : Nat) : List Nat := (List.range (n + 1)).map fun m => (partsOf k m).length
def szTo (k : Kd) (n : Nat) : Bool := (List.range (n + 1)).all fun m => decide ((partsOf k m).length ≤ 500) && (partsOf k m).all sizeB
theorem len_free : (partsOf .free 6).length = 132 ∧ (partsOf .free 7).length = 429 := by decide +kernel
theorem len_str : (partsOf .str 6).length = 32 ∧ (partsOf .str 7).length = 64 := by decide +kernel
theorem sz_free : szTo .free 7 = true := by decide +kernel
theorem sz_str : szTo .str 7 = true := by decide +kernel
theorem sz_all : szTo .all 5 = true := by decide +kernel
end Pg


set_option Elab.async false
set_option linter.all false
set_option maxRecDepth 100000
set_option maxHeartbeats 400000
namespace Rs
open PySem L2 Bs Fq
abbrev sBetween : Stmt := top 23
abbrev sNeedB : Stmt := top 27
section
variable {P : Program} {w : World} {K : PySem.W.Frag} {mg : Str → Option Value} {base : Heap} {f : Addr} {fd : FuncData}
theorem sc16 : FnScope ["thing", "low", "high"] ["thing", "low", "high"] (defScope sBetween) := ⟨rfl, rfl, rfl, by decide +kernel, rfl, by decide +kernel, by decide +kernel⟩
theorem ok_between (F : Fun K "is_between" "is_between" sBetween f fd) (W : Cal P w K mg base 1 "is_whole" (spWhole K)) : FnOk P w K mg base CX0 2 f fd ["thing", "low", "high"] (spBetween K) := by
  refine F.ok sc16 (fun vs H Q E h => ?_) (fun cdv A outer s H vs Q E hr h => ?_)
  · obtain ⟨v, d, lo, hi, rfl, _⟩ := h
    rfl
  · obtain ⟨v, d, lo, hi, rfl, hd, k⟩ := h
    refine ⟨_, pss_one (ps_ret (pe_and (pe_n W hr (by decide) (by rfl) (pa_cons (pv 0) pa_nil)) (pe_and (pe_cmpR op_le (pv 1) (pv 0) (nomark _)) (pe_one (pe_cmpR op_le (pv 0) (pv 2) (nomark _)))))), ?_⟩
    refine ⟨v, rfl, v, d, rfl, hd, _, rfl, ?_⟩
    cases d with
    | int i =>
      cases hd
      refine iteT ⟨_, rfl, _, rfl, _, _, rfl, rfl, _, rfl, ?_⟩
      have e : betwD lo hi (.int i) = (decide (lo ≤ i) && decide (i ≤ hi)) := rfl
      refine ite2 (fun c => ⟨_, rfl, _, rfl, _, _, rfl, rfl, ?_⟩) (fun c => ?_)
      · rw [e, c, Bool.true_and] at k
        exact k
      · rw [e, Bool.eq_false_iff.mpr c, Bool.false_and] at k
        exact k
    | bool b => exact iteF k
    | none => exact iteF k
    | str x => exact iteF k
    | list xs => exact iteF k
    | tuple xs => exact iteF k
    | dict xs => exact iteF k
end
end Rs


set_option Elab.async false
set_option linter.all false
set_option maxRecDepth 100000
set_option maxHeartbeats 400000
namespace Rs
open PySem L2 Bs Fq
section
variable {P : Program} {w : World} {K : PySem.W.Frag} {mg : Str → Option Value} {base : Heap} {f : Addr} {fd : FuncData} {CF CN : Addr}
theorem sc19 : FnScope ["thing", "low", "high"] ["thing", "low", "high"] (defScope sNeedB) := ⟨rfl, rfl, rfl, by decide +kernel, rfl, by decide +kernel, by decide +kernel⟩
end
end Rs


set_option Elab.async false
set_option linter.all false
set_option maxRecDepth 100000
set_option maxHeartbeats 1000000
namespace Rs
open PySem L2 Bs LamX Pg RZ
inductive Al {α : Type} (R : V → α → Prop) : List V → List α → Prop
  | nil : Al R [] []
  | cons {v : V} {vs : List V} {q : α} {qs : List α} : R v q → Al R vs qs → Al R (v :: vs) (q :: qs)
section
variable {α β : Type} {R S : V → α → Prop} {vs us : List V} {qs rs : List α}
theorem Al.imp (h : ∀ v q, R v q → S v q) : ∀ {vs : List V} {qs : List α}, Al R vs qs → Al S vs qs
  | _, _, .nil => .nil
  | _, _, .cons a b => .cons (h _ _ a) (Al.imp h b)
theorem Al.len : ∀ {vs : List V} {qs : List α}, Al R vs qs → vs.length = qs.length
  | _, _, .nil => rfl
  | _, _, .cons _ b => congrArg (· + 1) (Al.len b)
theorem Al.get : ∀ {vs : List V} {qs : List α} {i : Nat} {v : V}, Al R vs qs → vs[i]? = some v → ∃ q, qs[i]? = some q ∧ R v q
  | _, _, 0, _, .cons a _, h => by
    cases h
    exact ⟨_, rfl, a⟩
  | _, _, i + 1, _, .cons _ b, h => Al.get (i := i) b h
  | _, _, _, _, .nil, h => by simp at h
theorem Al.at : ∀ {vs : List V} {qs : List α} {i : Nat} {q : α}, Al R vs qs → qs[i]? = some q → ∃ v, vs[i]? = some v ∧ R v q
  | _, _, 0, _, .cons a _, h => by
    cases h
    exact ⟨_, rfl, a⟩
  | _, _, i + 1, _, .cons _ b, h => Al.at (i := i) b h
  | _, _, _, _, .nil, h => by simp at h
theorem Al.app : ∀ {vs us : List V} {qs rs : List α}, Al R vs qs → Al R us rs → Al R (vs ++ us) (qs ++ rs)
  | _, _, _, _, .nil, h => h
  | _, _, _, _, .cons a b, h => .cons a (Al.app b h)
theorem Al.snoc {v : V} {q : α} (h : Al R vs qs) (g : R v q) : Al R (vs ++ [v]) (qs ++ [q]) := h.app (.cons g .nil)
theorem Al.take : ∀ {vs : List V} {qs : List α} (n : Nat), Al R vs qs → Al R (vs.take n) (qs.take n)
  | _, _, 0, _ => .nil
  | _, _, n + 1, .nil => .nil
  | _, _, n + 1, .cons a b => .cons a (Al.take n b)
theorem Al.drop : ∀ {vs : List V} {qs : List α} (n : Nat), Al R vs qs → Al R (vs.drop n) (qs.drop n)
  | _, _, 0, h => h
  | _, _, n + 1, .nil => .nil
  | _, _, n + 1, .cons a b => Al.drop n b
theorem Al.set : ∀ {vs : List V} {qs : List α} (n : Nat) {v : V} {q : α}, Al R vs qs → R v q → Al R (vs.set n v) (qs.set n q)
  | _, _, _, _, _, .nil, _ => .nil
  | _, _, 0, _, _, .cons _ b, h => .cons h b
  | _, _, n + 1, _, _, .cons a b, h => .cons a (Al.set n b h)
end
/-- a tuple of whole numbers -/
def It (K : PySem.W.Frag) (H : Hp) (v : V) (w : List Int) : Prop := ∃ a, v = .ref a ∧ SqT K H a (w.map V.int)
def dI (w : List Int) : PyData := .tuple (w.map PyData.int)
/-- a tuple of them -/
def Pt (K : PySem.W.Frag) (H : Hp) (v : V) (ws : Prt) : Prop := ∃ a vs, v = .ref a ∧ SqT K H a vs ∧ Al (It K H) vs ws
def dW (ws : Prt) : PyData := .tuple (ws.map dI)
section
variable {K : PySem.W.Frag} {H H' : Hp} {v : V} {w : List Int} {ws : Prt} {D : Addr} {acc : List V} {o : HO}
theorem It.mono (h : It K H v w) (e : Same H H') : It K H' v w := by
  obtain ⟨a, rfl, s⟩ := h
  exact ⟨a, rfl, Bs.Same.t e s⟩
theorem It.off (h : It K H v w) (hD : H D = some (.lst acc)) : It K (upd H D o) v w := by
  obtain ⟨a, rfl, s⟩ := h
  exact ⟨a, rfl, sqT_off hD s⟩
theorem dpInts : ∀ w : List Int, DpAll K H (w.map V.int) (w.map PyData.int)
  | [] => .nil
  | i :: w => .cons (.int i) (dpInts w)
theorem It.dp (h : It K H v w) : Dp K H v (dI w) := by
  obtain ⟨a, rfl, s⟩ := h
  exact .tup s (dpInts w)
theorem Al.dpI : ∀ {vs : List V} {ws : Prt}, Al (It K H) vs ws → DpAll K H vs (ws.map dI)
  | _, _, .nil => .nil
  | _, _, .cons a b => .cons a.dp (Al.dpI b)
theorem alI_mono {vs : List V} (h : Al (It K H) vs ws) (e : Same H H') : Al (It K H') vs ws := h.imp fun _ _ z => z.mono e
theorem alI_off {vs : List V} (h : Al (It K H) vs ws) (hD : H D = some (.lst acc)) : Al (It K (upd H D o)) vs ws := h.imp fun _ _ z => z.off hD
theorem Pt.mono (h : Pt K H v ws) (e : Same H H') : Pt K H' v ws := by
  obtain ⟨a, vs, rfl, s, i⟩ := h
  exact ⟨a, vs, rfl, Bs.Same.t e s, alI_mono i e⟩
theorem Pt.off (h : Pt K H v ws) (hD : H D = some (.lst acc)) : Pt K (upd H D o) v ws := by
  obtain ⟨a, vs, rfl, s, i⟩ := h
  exact ⟨a, vs, rfl, sqT_off hD s, alI_off i hD⟩
theorem Pt.dp (h : Pt K H v ws) : Dp K H v (dW ws) := by
  obtain ⟨a, vs, rfl, s, i⟩ := h
  exact .tup s i.dpI
theorem Al.dpW : ∀ {vs : List V} {ps : List Prt}, Al (Pt K H) vs ps → DpAll K H vs (ps.map dW)
  | _, _, .nil => .nil
  | _, _, .cons a b => .cons a.dp (Al.dpW b)
theorem alP_mono {vs : List V} {ps : List Prt} (h : Al (Pt K H) vs ps) (e : Same H H') : Al (Pt K H') vs ps := h.imp fun _ _ z => z.mono e
theorem alP_off {vs : List V} {ps : List Prt} (h : Al (Pt K H) vs ps) (hD : H D = some (.lst acc)) : Al (Pt K (upd H D o)) vs ps := h.imp fun _ _ z => z.off hD
end
/-- a slice of a tuple, whichever -/
theorem sl_cut {K : PySem.W.Frag} {H : Hp} {Q : VK} {a : Addr} {xs ys : List V} {lo hi : Option Int} (ha : SqT K H a xs) (e : cutV xs lo hi = ys) (k : ∀ c H', Same H H' → SqT K H' c ys → Q (.ref c) H') : rSlA K (.ref a) lo hi H Q := by
  refine ⟨a, xs, rfl, ha, fun w => ?_, fun _ p hp => k p _ (same_new hp) (by rw [← e]; exact SqT.of upd_same)⟩
  have : cutV xs lo hi = xs := by
    unfold cutV
    rw [w.1, w.2, List.drop_zero, Nat.sub_zero, List.take_length]
  rw [this] at e
  subst e
  exact k a H (fun _ _ z => z) ha
section
variable {J J1 : L2.It} {n n1 : Nat} {G G1 : Hp → Prop} {Y Y1 : Nat → Hp → V → Hp → Prop}
theorem lc2_in (w : Walk J1 n1 G1 Y1) {g1 : TG} {tt1 : TT} {te : TE} {vs1 : List Nat} {σ2 : L2.St} {H4 : Hp} {D : Addr} {Nx : Hp → Prop} (Pv : Nat → Hp → Prop) (h0 : Pv 0 H4) (hG : ∀ i H, i ≤ n1 → Pv i H → G1 H)
    (hs : ∀ i x H H', i < n1 → Pv i H → Y1 i H x H' → g1 x (wipe σ2 vs1) H' fun σ3 H5 => wipe σ3 vs1 = wipe σ2 vs1 ∧ tt1 σ3 H5 fun b H6 =>
      if b = true then te σ3 H6 fun y H7 => ∃ acc, H7 D = some (.lst acc) ∧ acc.length < sizeLine ∧ Pv (i + 1) (upd H7 D (.lst (acc ++ [y]))) else Pv (i + 1) H6) (hd : ∀ H, Pv n1 H → Nx H) :
    ∃ W1 : Nat → Nat → Hp → Prop, (∃ m, W1 0 m H4) ∧ ∀ j k H, W1 j k H →
      (J1.stop j H ∧ Nx H) ∨ (J1.go j H ∧ ∃ Nx1 : Hp → Prop, (∀ H', Nx1 H' → ∃ k', k' < k ∧ W1 (j + 1) k' H') ∧ ∀ x H', J1.yld j H x H' → g1 x (wipe σ2 vs1) H' fun σ3 H5 => wipe σ3 vs1 = wipe σ2 vs1 ∧ tt1 σ3 H5 fun b H6 =>
        if b = true then te σ3 H6 fun y H7 => ∃ acc, H7 D = some (.lst acc) ∧ acc.length < sizeLine ∧ Nx1 (upd H7 D (.lst (acc ++ [y]))) else Nx1 H6) := by
  refine ⟨fun i m H => m = n1 - i ∧ i ≤ n1 ∧ Pv i H, ⟨n1, by simp, Nat.zero_le _, h0⟩, ?_⟩
  rintro i m H ⟨rfl, hi, p⟩
  have q := hG i H hi p
  by_cases hlt : i < n1
  · refine .inr ⟨w.goes i H hlt q, Pv (i + 1), fun H' p' => ⟨n1 - (i + 1), by omega, rfl, hlt, p'⟩, fun x H' y => hs i x H H' hlt p (w.yields i H x H' hlt q y)⟩
  · have e : i = n1 := by omega
    subst e
    exact .inl ⟨w.stops H q, hd H p⟩
theorem lc2_out (w : Walk J n G Y) {B : V → Hp → (Hp → Prop) → Prop} {Qd : Hp → Prop} {H1 : Hp} (Pv : Nat → Hp → Prop) (h0 : Pv 0 H1) (hG : ∀ i H, i ≤ n → Pv i H → G H)
    (hs : ∀ i x H H', i < n → Pv i H → Y i H x H' → B x H' (Pv (i + 1))) (hd : ∀ H, Pv n H → Qd H) :
    ∃ W : Nat → Nat → Hp → Prop, (∃ m, W 0 m H1) ∧ ∀ i m H, W i m H →
      (J.stop i H ∧ Qd H) ∨ (J.go i H ∧ ∃ Nx : Hp → Prop, (∀ H', Nx H' → ∃ m', m' < m ∧ W (i + 1) m' H') ∧ ∀ x H', J.yld i H x H' → B x H' Nx) := by
  refine ⟨fun i m H => m = n - i ∧ i ≤ n ∧ Pv i H, ⟨n, by simp, Nat.zero_le _, h0⟩, ?_⟩
  rintro i m H ⟨rfl, hi, p⟩
  have q := hG i H hi p
  by_cases hlt : i < n
  · exact .inr ⟨w.goes i H hlt q, Pv (i + 1), fun H' p' => ⟨n - (i + 1), by omega, rfl, hlt, p'⟩, fun x H' y => hs i x H H' hlt p (w.yields i H x H' hlt q y)⟩
  · have e : i = n := by omega
    subst e
    exact .inl ⟨w.stops H q, hd H p⟩
end
end Rs


set_option Elab.async false
set_option linter.all false
set_option maxRecDepth 100000
set_option maxHeartbeats 1000000
namespace Rs
open PySem L2 Bs LamX Pg RZ
def kdS : Kd → Str
  | .all => "all"
  | .free => "free"
  | .str => "stretch"
structure KindsG (K : PySem.W.Frag) (mg : Str → Option Value) : Prop where
  ex : ∃ a : Addr, mg "KINDS" = some (.ref a) ∧ ∀ H : Hp, SqT K H a [.str "all", .str "free", .str "stretch"]
abbrev sNeedKind : Stmt := top 31
def spNeedKind : Sp := fun vs H Q _ => ∃ k : Kd, vs = [.str (kdS k)] ∧ Q (.str (kdS k)) H
def spPB (K : PySem.W.Frag) (B : Prt → Bool) : Sp := fun vs H Q _ => ∃ (v : V) (p : Prt), vs = [v] ∧ Pt K H v p ∧ sizeB p = true ∧ ∀ H', Same H H' → Q (.bl (B p)) H'
def spHasKind (K : PySem.W.Frag) : Sp := fun vs H Q _ => ∃ (k : Kd) (v : V) (p : Prt), vs = [.str (kdS k), v] ∧ Pt K H v p ∧ sizeB p = true ∧ ∀ H', Same H H' → Q (.bl (hasK k p)) H'
theorem size_blk {p : Prt} (h : sizeB p = true) : p.length ≤ 8 ∧ ∀ b ∈ p, b.length ≤ 8 ∧ 0 < b.length := by
  unfold sizeB at h
  rw [Bool.and_eq_true, decide_eq_true_eq, List.all_eq_true] at h
  refine ⟨h.1, fun b hb => ?_⟩
  have := h.2 b hb
  rw [Bool.and_eq_true, decide_eq_true_eq, decide_eq_true_eq] at this
  exact this
section
variable {P : Program} {w : World} {K : PySem.W.Frag} {mg : Str → Option Value} {base : Heap} {f : Addr} {fd : FuncData}
theorem scNeedKind : FnScope ["kind"] ["kind"] (defScope sNeedKind) := ⟨rfl, rfl, rfl, by decide +kernel, rfl, by decide +kernel, by decide +kernel⟩
theorem ok_needKind (F : Fun K "need_kind" "need_kind" sNeedKind f fd) (T : Blt mg) (st : mg "str" = none) (KG : KindsG K mg) : FnOk P w K mg base CX0 1 f fd ["kind"] spNeedKind := by
  refine F.ok scNeedKind (fun vs H Q E h => ?_) (fun cdv A outer s H vs Q E hr h => ?_)
  · obtain ⟨k, rfl, _⟩ := h
    rfl
  · obtain ⟨k, rfl, kk⟩ := h
    obtain ⟨ka, mk, sk⟩ := KG.ex
    refine ⟨_, pss_cons (ps_if (PW.pt (pw_or (pt_not (pt_val (pe_callB call_isi (by rfl) T.isinstance (by decide +kernel) (pa_cons (pv 0) (pa_cons (pe_bltn (v := .ty "str") (by rfl) st (by decide +kernel) rfl) pa_nil)))))
        (pw_or1 (pt_cmpR op_notIn_seq (pv 0) (pe_glob (v := .ref ka) (by rfl) mk rfl) (by rfl))))) (pss_one ps_never) pss_nil)
      (pss_one (ps_ret (pv 0))), ?_⟩
    have hd : Dp K H (.str (kdS k)) (.str (kdS k)) := .str _
    refine ⟨_, rfl, _, _, _, _, _, rfl, .ty _, hd.ty, kitS K _, _, rfl, ?_⟩
    refine iteF ⟨_, rfl, ka, _, rfl, .inr (sk H), rfl, rfl, _, rfl, ?_⟩
    cases k <;> exact ite2 (fun c => absurd c (by decide +kernel)) (fun _ => ⟨_, rfl, kk⟩)
end
end Rs


set_option Elab.async false
set_option linter.all false
set_option maxRecDepth 100000
set_option maxHeartbeats 1000000
namespace Rs
open PySem L2 Bs LamX Pg RZ
def rIxTK (K : PySem.W.Frag) := rIxT K
def spWithN (K : PySem.W.Frag) : Sp := fun vs H Q _ => ∃ (v : V) (p : Prt) (n : Int), vs = [v, .int n] ∧ Pt K H v p ∧ p.length ≤ 20 ∧ (∀ b ∈ p, b.length ≤ 20) ∧ ∀ H' L xs, Same H H' → H L = none → H' L = some (.lst xs) → Al (Pt K H') xs (withN p n) → Q (.ref L) H'
abbrev NWn : List Str := ["parting", "number", "found", "k", "block"]
theorem hd_at {b : Blk} (h : 0 < b.length) : b[0]? = some (hdI b) := by
  cases b with
  | nil => cases h
  | cons x b => rfl
theorem lt_at {b : Blk} (h : 0 < b.length) : b[b.length - 1]? = some (ltI b) := by
  unfold ltI
  rw [List.getLastD_eq_getLast?, List.getLast?_eq_getElem?]
  cases e : b[b.length - 1]? with
  | none =>
    rw [List.getElem?_eq_none_iff] at e
    omega
  | some x => rfl
theorem more_len (p : Prt) (n : Int) (k : Nat) (h : k < p.length) : (more p n k).length = p.length := by
  unfold more
  rw [List.length_append, List.length_append, List.length_take, List.length_drop]
  show min k p.length + 1 + (p.length - (k + 1)) = _
  omega
theorem getD_some {p : Prt} {k : Nat} {b : Blk} (h : p[k]? = some b) : p.getD k [] = b := by
  rw [List.getD_eq_getElem?_getD, h]
  rfl
end Rs


set_option Elab.async false
set_option linter.all false
set_option maxRecDepth 100000
set_option maxHeartbeats 1000000
namespace Pg
def ltG {α : Type} [DecidableEq α] (lt : α → α → Bool) : List α → List α → Bool
  | [], [] => false
  | [], _ :: _ => true
  | _ :: _, [] => false
  | x :: xs, y :: ys => if x = y then ltG lt xs ys else lt x y
def ltN (x y : Int) : Bool := decide (x < y)
def ltB (a b : Blk) : Bool := ltG ltN a b
def ltW (p q : Prt) : Bool := ltG ltB p q
def leW (p q : Prt) : Bool := !ltW q p
def sortW (ps : List Prt) : List Prt := ps.mergeSort leW
theorem ltG_anti {α : Type} [DecidableEq α] {lt : α → α → Bool} (h : ∀ x y, lt x y = false → lt y x = false → x = y) : ∀ xs ys : List α, ltG lt xs ys = false → ltG lt ys xs = false → xs = ys
  | [], [], _, _ => rfl
  | [], _ :: _, a, _ => by cases a
  | _ :: _, [], _, a => by cases a
  | x :: xs, y :: ys, a, b => by
    unfold ltG at a b
    by_cases e : x = y
    · subst e
      rw [if_pos rfl] at a b
      rw [ltG_anti h xs ys a b]
    · rw [if_neg e] at a
      rw [if_neg (fun z => e z.symm)] at b
      exact absurd (h x y a b) e
theorem ltN_anti (x y : Int) (a : ltN x y = false) (b : ltN y x = false) : x = y := by
  have a' := of_decide_eq_false a
  have b' := of_decide_eq_false b
  omega
theorem leW_anti (p q : Prt) (a : leW p q = true) (b : leW q p = true) : p = q := by
  unfold leW at a b
  rw [Bool.not_eq_true'] at a b
  exact ltG_anti (ltG_anti ltN_anti) p q b a
/-- what is asked of the sizes on the way -/
def szL (k : Kd) (n : Nat) : Bool := (List.range n).all fun m => decide (((partsOf k m).flatMap fun p => withN p m).length ≤ 1000) && (((partsOf k m).flatMap fun p => withN p m).all sizeB && (decide ((partsOf k m).length ≤ 500) && (partsOf k m).all sizeB))
def szAll (k : Kd) (n : Nat) : Bool := szL k n && ((partsOf k n).all sizeB && (decide ((partsOf k n).length ≤ 1000) && (decide ((partsOf k n).length ≤ 1) || (partsOf k n).all fun p => !p.isEmpty)))
theorem szA_free : ∀ n ∈ [0, 1, 2, 3, 4, 5, 6, 7], szAll .free n = true := by decide +kernel
theorem szA_str : ∀ n ∈ [0, 1, 2, 3, 4, 5, 6, 7], szAll .str n = true := by decide +kernel
theorem szA_all : ∀ n ∈ [0, 1, 2, 3, 4, 5], szAll .all n = true := by decide +kernel
end Pg
namespace Rs
open PySem L2 Bs LamX Pg RZ
theorem eqvI_all : ∀ a b : Blk, PyData.eqvAll (a.map PyData.int) (b.map PyData.int) = decide (a = b)
  | [], [] => by simp [PyData.eqvAll]
  | [], _ :: _ => by simp [PyData.eqvAll]
  | _ :: _, [] => by simp [PyData.eqvAll]
  | x :: a, y :: b => by
    rw [List.map_cons, List.map_cons, PyData.eqvAll, eqvI_all a b]
    by_cases e : x = y
    · simp [PyData.eqv, e]
    · simp [PyData.eqv, e]
theorem eqv_dI (a b : Blk) : PyData.eqv (dI a) (dI b) = decide (a = b) := by
  unfold dI
  rw [PyData.eqv, eqvI_all]
theorem row_I : ∀ a b : Blk, PySem.W.rowLt (a.map PyData.int) (b.map PyData.int) = ltB a b
  | [], [] => by
    have e : PySem.W.rowLt [] [] = false := PyProof.Rows.lex_irrefl _
    exact e
  | [], y :: ys => by
    rw [show ([] : List Int).map PyData.int = [] from rfl]
    have := PySem.W.dataLt_ints [] (y :: ys)
    rw [show ([] : List Int).map PyData.int = [] from rfl] at this
    rw [this]
    simp [ltB, ltG]
  | x :: xs, [] => by
    have := PySem.W.dataLt_ints (x :: xs) []
    rw [this]
    simp [ltB, ltG]
  | x :: xs, y :: ys => by
    have e : PySem.W.rowLt (PyData.int x :: xs.map .int) (PyData.int y :: ys.map .int) = if x = y then PySem.W.rowLt (xs.map .int) (ys.map .int) else decide (x < y) := by
      unfold PySem.W.rowLt
      rw [PySem.W.dataLt_cons (by simp [PySem.W.alike]), PySem.W.dataLt_int]
      simp only [PyData.eqv, beq_iff_eq]
    rw [List.map_cons, List.map_cons, e, row_I xs ys]
    rfl
theorem lt_dI (a b : Blk) : PySem.W.dataLt (dI a) (dI b) = ltB a b := by
  unfold dI
  rw [PySem.W.dataLt_tuple]
  exact row_I a b
theorem alike_dI (a b : Blk) : PySem.W.alike (dI a) (dI b) = true := by
  unfold dI
  rw [PySem.W.alike]
  exact PySem.W.alike_ints a b
theorem row_W : ∀ p q : Prt, PySem.W.rowLt (p.map dI) (q.map dI) = ltW p q
  | [], [] => by
    have e : PySem.W.rowLt [] [] = false := PyProof.Rows.lex_irrefl _
    exact e
  | [], b :: q => by
    unfold PySem.W.rowLt
    rw [List.map_cons, PySem.W.toks_all_cons]
    unfold dI
    simp only [PySem.W.keyToksAll, PySem.W.keyToks, List.map_nil]
    rfl
  | a :: p, [] => by
    unfold PySem.W.rowLt
    rw [List.map_cons, PySem.W.toks_all_cons]
    unfold dI
    simp only [PySem.W.keyToksAll, PySem.W.keyToks, List.map_nil]
    rfl
  | a :: p, b :: q => by
    have e : PySem.W.rowLt (dI a :: p.map dI) (dI b :: q.map dI) = if a = b then PySem.W.rowLt (p.map dI) (q.map dI) else ltB a b := by
      unfold PySem.W.rowLt
      rw [PySem.W.dataLt_cons (alike_dI a b), lt_dI, eqv_dI]
      simp only [decide_eq_true_eq]
    rw [List.map_cons, List.map_cons, e, row_W p q]
    rfl
theorem lt_dW (p q : Prt) : PySem.W.dataLt (dW p) (dW q) = ltW p q := by
  unfold dW
  rw [PySem.W.dataLt_tuple]
  exact row_W p q
theorem alikeAll_dI : ∀ p q : Prt, PySem.W.alikeAll (p.map dI) (q.map dI) = true
  | [], _ => by simp [PySem.W.alikeAll]
  | _ :: _, [] => by simp [PySem.W.alikeAll]
  | a :: p, b :: q => by
    rw [List.map_cons, List.map_cons, PySem.W.alikeAll, alikeAll_dI p q, alike_dI]
    rfl
theorem alike_dW (p q : Prt) : PySem.W.alike (dW p) (dW q) = true := by
  unfold dW
  rw [PySem.W.alike]
  exact alikeAll_dI p q
theorem le_dW : PySem.W.dataLe false dW = leW := by
  funext p q
  show (!PySem.W.dataLt (dW q) (dW p)) = _
  rw [lt_dW]
  rfl
theorem lt_toks (p q : Prt) : ltW p q = PyProof.Rows.lexLt PyProof.Rows.itemOrd (PySem.W.keyToks (dW p)) (PySem.W.keyToks (dW q)) := (lt_dW p q).symm
theorem ltW_trans (p q r : Prt) (a : ltW p q = true) (b : ltW q r = true) : ltW p r = true := by
  rw [lt_toks] at *
  exact PyProof.Rows.lex_trans _ _ _ a b
theorem ltW_irrefl (p : Prt) : ltW p p = false := by
  rw [lt_toks]
  exact PyProof.Rows.lex_irrefl _
theorem ltW_neg (p q r : Prt) (a : ltW p r = true) : ltW p q = true ∨ ltW q r = true := by
  rw [lt_toks] at *
  rw [lt_toks]
  exact PyProof.Rows.lex_negTrans _ _ _ a
theorem leW_total (p q : Prt) : (leW p q || leW q p) = true := by
  unfold leW
  cases h : ltW q p with
  | false => rfl
  | true =>
    cases g : ltW p q with
    | false => rfl
    | true =>
      have := ltW_trans p q p g h
      rw [ltW_irrefl] at this
      cases this
theorem leW_trans (p q r : Prt) (a : leW p q = true) (b : leW q r = true) : leW p r = true := by
  unfold leW at *
  cases h : ltW r p with
  | false => rfl
  | true =>
    rcases ltW_neg r q p h with z | z
    · rw [z] at b; cases b
    · rw [z] at a; cases a
theorem sortW_srt (ps : List Prt) : (sortW ps).Pairwise fun p q => leW p q = true := List.pairwise_mergeSort leW_trans leW_total ps
theorem sortW_perm (ps : List Prt) : (sortW ps).Perm ps := List.mergeSort_perm ps leW
theorem srt_uniq {l m : List Prt} (hl : l.Pairwise fun p q => leW p q = true) (hm : m.Pairwise fun p q => leW p q = true) (h : l.Perm m) : l = m := h.eq_of_pairwise (fun p q _ _ a b => leW_anti p q a b) hl hm
theorem sort_kind {n : Nat} {k : Kd} (hn : n ≤ 5) : sortW (partsOf k n) = (sortW (lawRows n)).filter (lawKind k) := by
  refine srt_uniq (sortW_srt _) ((sortW_srt _).filter _) ?_
  have hm : n ∈ [0, 1, 2, 3, 4, 5] := by simp; omega
  have hk : k ∈ kds := by cases k <;> decide
  have := List.isPerm_iff.mp (all_perm n hm k hk)
  exact ((sortW_perm _).trans this.symm).trans ((sortW_perm _).symm.filter _)
theorem sort_str3 : sortW (partsOf .str 3) = [[[0], [1], [2]], [[0], [1, 2]], [[0, 1], [2]], [[0, 1, 2]]] := by
  refine srt_uniq (sortW_srt _) (by decide +kernel) ((sortW_perm _).trans (List.isPerm_iff.mp (by decide +kernel)))
end Rs


set_option Elab.async false
set_option linter.all false
set_option maxRecDepth 100000
set_option maxHeartbeats 1000000
namespace Rs
open PySem L2 Bs LamX Pg RZ
def rSortedW (K : PySem.W.Frag) : List V → Hp → VK → Prop := fun vs H Q => ∃ (a : Addr) (xs : List V) (ps : List Prt), vs = [V.ref a] ∧ SqL K H a xs ∧ Al (Pt K H) xs ps ∧ (ps.length ≤ 1 ∨ ∀ p ∈ ps, p.isEmpty = false) ∧
  ∀ ys L, Al (Pt K H) ys (sortW ps) → H L = none → Q (.ref L) (upd H L (.lst ys))
theorem depth_all0 : ∀ w : List Int, PyData.depthAll (w.map PyData.int) = 0 := PySem.W.depth_ints
theorem depth_dI (w : List Int) : (dI w).depth = 1 := by
  unfold dI
  simp [PyData.depth, depth_all0]
theorem depth_dWs : ∀ p : Prt, PyData.depthAll (p.map dI) ≤ 1
  | [] => by simp [PyData.depthAll]
  | b :: p => by
    have := depth_dWs p
    have h := depth_dI b
    simp only [List.map_cons, PyData.depthAll]
    omega
theorem depth_dW (p : Prt) : (dW p).depth ≤ 2 := by
  have := depth_dWs p
  unfold dW
  simp only [PyData.depth]
  omega
def RP (K : PySem.W.Frag) (H : Hp) (u : Value) (p : Prt) : Prop := ∃ a, u = Value.ref a ∧ Pt K H (.ref a) p
theorem each_rp {K : PySem.W.Frag} {H : Hp} : ∀ {xs : List V} {us : List Value} {ps : List Prt}, Vals xs us → Al (Pt K H) xs ps → PySem.W.EachIs (RP K H) us ps
  | _, _, _, .nil, .nil => .nil
  | _, _, _, .cons r t, .cons h al => by
    obtain ⟨a, vs, rfl, s, i⟩ := h
    cases r
    exact .cons ⟨a, rfl, a, vs, rfl, s, i⟩ (each_rp t al)
theorem each_back {K : PySem.W.Frag} {H : Hp} : ∀ {us : List Value} {ps : List Prt}, PySem.W.EachIs (RP K H) us ps → Al (Pt K H) (us.map backV) ps ∧ ∀ u ∈ us, ∃ a, u = Value.ref a
  | _, _, .nil => ⟨.nil, fun u hu => absurd hu (by simp)⟩
  | _, _, .cons ⟨a, e, h⟩ t => by
    subst e
    obtain ⟨t1, t2⟩ := each_back t
    refine ⟨.cons h t1, fun u hu => ?_⟩
    rcases List.mem_cons.mp hu with e | hu
    · exact ⟨a, e⟩
    · exact t2 u hu
section
variable {X : Cx}
theorem cr_sortedW (hu : X.A.units + 64 < cLine) : CallR X (.builtin "sorted") (rSortedW X.K) := by
  intro pins s σ H vs us Q I r h
  obtain ⟨a, xs, ps, rfl, hs, al, sz, q⟩ := h
  obtain ⟨its, rv, hl, hz⟩ := I.list hs
  rw [Vals.ref1 r]
  have er := each_rp rv al
  have ln : ps.length ≤ sizeLine := by rw [← al.len]; exact hz
  have fin : ∀ out : List Value, PySem.W.EachIs (RP X.K H) out (sortW ps) → EP X pins σ Q (.ref (s.heap.objs.size + 1)) { s with heap := PyProof.Rows.sortedAll s.heap its out.toArray } := fun out eo => by
    obtain ⟨k1, k2⟩ := each_back eo
    obtain ⟨ep, he'⟩ := PyProof.Rows.sortedAll_at s.heap its out.toArray
    have hlen : (out.map backV).length ≤ sizeLine := by
      rw [k1.len, (sortW_perm ps).length_eq]
      exact ln
    exact ⟨.ref _, upd H (s.heap.objs.size + 1) (.lst (out.map backV)), I.laid (t' := s.toks) (fun _ _ => PyProof.Rows.sortedAll_old) (Nat.le_succ _) ⟨hlen, out, ep, vals_back k2, he'⟩, rfl, q _ _ k1 (I.hok.fresh (Nat.le_succ _))⟩
  rcases sz with sz | sz
  · have lu : its.length ≤ 1 := by rw [er.length]; exact sz
    refine SrtO.sorted_ord (ltv := fun _ _ => false) ⟨fun _ _ _ => rfl, fun _ _ _ _ _ => rfl⟩ hl.isList (by rw [← rv.length]; exact hz) (fun h2 => absurd h2 (by omega)) fun out h1 h2 => ?_
    have eo : out = its := by
      match its, lu with
      | [], _ => exact h2.perm.eq_nil
      | [u], _ => exact List.perm_singleton.mp h2.perm
      | _ :: _ :: _, c => exact absurd c (by simp)
    have es : sortW ps = ps := by
      match ps, sz with
      | [], _ => exact List.mergeSort_nil
      | [p], _ => exact List.mergeSort_singleton _
      | _ :: _ :: _, c => exact absurd c (by simp)
    subst eo
    exact fin out (by rw [es]; exact er)
  · have hr : PySem.W.EachIs (fun v b => ∃ as, PySem.Reads s.heap v (dW b) as) its ps := er.mono fun u p z => by
      obtain ⟨b, e, h⟩ := z
      subst e
      exact Dp.reads I _ _ _ h.dp rfl
    have hk : PySem.W.Sortable (ps.map dW) := .inl fun d hd => by
      obtain ⟨p, hp, rfl⟩ := List.mem_map.mp hd
      have := sz p hp
      cases p with
      | nil => cases this
      | cons b p => exact ⟨_, _, rfl⟩
    refine PySem.W.sorted_data (enc := dW) hl.isList er hr (.of alike_dW) hk ln (fun p _ => ?_) fun out _ eo => ?_
    · have := depth_dW p
      omega
    · rw [le_dW] at eo
      exact fin out eo
end
end Rs


set_option Elab.async false
set_option linter.all false
set_option maxRecDepth 100000
set_option maxHeartbeats 1000000
namespace Rs
open PySem L2 Bs LamX Pg RZ
theorem flat_one {α β : Type} {f : α → List β} {l : List α} {i : Nat} {x : α} (h : l[i]? = some x) : (l.take (i + 1)).flatMap f = (l.take i).flatMap f ++ f x := by
  rw [take_one h, List.flatMap_append]
  simp
theorem flat_take_len {α β : Type} {f : α → List β} (l : List α) (j : Nat) : ((l.take j).flatMap f).length ≤ (l.flatMap f).length := by
  conv => rhs; rw [← List.take_append_drop j l, List.flatMap_append, List.length_append]
  omega
end Rs


set_option Elab.async false
set_option linter.all false
set_option maxRecDepth 100000
set_option maxHeartbeats 1000000
namespace Rs
open PySem L2 Bs LamX Pg RZ
def spNeedB0 (K : PySem.W.Frag) : Sp := fun vs H Q _ => ∃ (v : V) (d : PyData) (lo hi : Int), vs = [v, .int lo, .int hi] ∧ Dp K H v d ∧ betwD lo hi d = true ∧ Q v H
section
variable {P : Program} {w : World} {K : PySem.W.Frag} {mg : Str → Option Value} {base : Heap} {f : Addr} {fd : FuncData}
theorem ok_needB0 (F : Fun K "need_between" "need_between" sNeedB f fd) (W : Cal P w K mg base 2 "is_between" (spBetween K)) : FnOk P w K mg base CX0 3 f fd ["thing", "low", "high"] (spNeedB0 K) := by
  refine F.ok sc19 (fun vs H Q E h => ?_) (fun cdv A outer s H vs Q E hr h => ?_)
  · obtain ⟨v, d, lo, hi, rfl, _⟩ := h
    rfl
  · obtain ⟨v, d, lo, hi, rfl, hd, bt, k1⟩ := h
    refine ⟨_, pss_cons (ps_if (pt_not (pt_val (pe_n W hr (by decide) (by rfl) (pa_cons (pv 0) (pa_cons (pv 1) (pa_cons (pv 2) pa_nil)))))) (pss_one ps_never) pss_nil) (pss_one (ps_ret (pv 0))), ?_⟩
    refine ⟨_, rfl, _, rfl, _, rfl, v, d, lo, hi, rfl, hd, _, rfl, ?_⟩
    rw [bt]
    exact iteF ⟨_, rfl, k1⟩
end
end Rs


set_option Elab.async false
set_option linter.all false
set_option maxRecDepth 100000
set_option maxHeartbeats 1000000
namespace Pg
def turnOk (p : Prt) : Bool := decide (total p ≤ 8) && (sizeB p && (List.range (total p + 1)).all fun m => sizeB (turnTo p m))
end Pg
namespace Rs
open PySem L2 Bs LamX Pg RZ
end Rs


set_option Elab.async false
set_option linter.all false
set_option maxRecDepth 100000
set_option maxHeartbeats 1000000
namespace Pg
def gdB (p : Prt) : Bool := validB p && (turnOk p && ((turnP p).all (fun b => decide (b.length ≤ 7)) && decide (p.length ≤ 7)))
end Pg
namespace Rs
open PySem L2 Bs LamX Pg RZ
def rComb : List V → Hp → VK → Prop := fun vs H Q => ∃ a b : Int, vs = [.int a, .int b] ∧ 0 ≤ a ∧ 0 ≤ b ∧ a < 100 ∧ b < 100 ∧ Q (.int (PySem.W.mcComb a b)) H
section
variable {X : Cx}
theorem cr_comb : CallR X (.builtin "math.comb") rComb := by
  intro pins s σ H vs us Q I r h
  obtain ⟨a, b, rfl, h1, h2, h3, h4, q⟩ := h
  obtain ⟨t, u, rfl⟩ := Vals.int2 r
  exact PySem.W.mc_comb h1 h2 (by omega) (by omega) fun _ => ⟨.int _, H, I.tok _, ⟨_, rfl⟩, q⟩
end
end Rs


set_option Elab.async false
set_option linter.all false
set_option maxRecDepth 100000
set_option maxHeartbeats 1000000
namespace Pg
def rowsOk (n : Nat) : Bool := (List.range (n + 1)).all fun m => decide ((lawRows m).length ≤ 500) && ((lawRows m).all sizeB && (decide (((lawRows m).flatMap fun p => withN p m).length ≤ 900) && (decide ((lawRows m).length ≤ 1) || (lawRows m).all fun p => !p.isEmpty)))
theorem all_rows : ∀ n ∈ [0, 1, 2, 3, 4, 5, 6], rowsOk n = true := by decide +kernel
theorem rows_at {n m : Nat} (h : rowsOk n = true) (hm : m ≤ n) : (lawRows m).length ≤ 500 ∧ (∀ p ∈ lawRows m, sizeB p = true) ∧ ((lawRows m).flatMap fun p => withN p m).length ≤ 900 ∧ ((lawRows m).length ≤ 1 ∨ ∀ p ∈ lawRows m, p.isEmpty = false) := by
  unfold rowsOk at h
  have h2 := List.all_eq_true.mp h m (List.mem_range.mpr (by omega))
  rw [Bool.and_eq_true, Bool.and_eq_true, Bool.and_eq_true, Bool.or_eq_true, decide_eq_true_eq, decide_eq_true_eq, decide_eq_true_eq, List.all_eq_true, List.all_eq_true] at h2
  refine ⟨h2.1, h2.2.1, h2.2.2.1, h2.2.2.2.imp id fun z p hp => ?_⟩
  have := z p hp
  rw [Bool.not_eq_true'] at this
  exact this
end Pg
namespace Rs
open PySem L2 Bs LamX Pg RZ
def spLParts (K : PySem.W.Frag) : Sp := fun vs H Q _ => ∃ n : Nat, vs = [.int (n : Nat)] ∧ n ≤ 6 ∧ ∀ H' L ys, Same H H' → H L = none → H' L = some (.lst ys) → Al (Pt K H') ys (sortW (lawRows n)) → Q (.ref L) H'
end Rs


set_option Elab.async false
set_option linter.all false
set_option maxRecDepth 100000
set_option maxHeartbeats 1000000
namespace Pg
def homesOk (p : Prt) : Bool := decide (total p ≤ 7) && ((List.range (total p)).all fun n : Nat => !(homes p n).isEmpty)
end Pg
namespace Rs
open PySem L2 Bs LamX Pg RZ
end Rs


set_option Elab.async false
set_option linter.all false
set_option maxRecDepth 100000
set_option maxHeartbeats 1000000
namespace Rs
open PySem L2 Bs LamX Pg RZ
def spLKind (K : PySem.W.Frag) : Sp := fun vs H Q _ => ∃ (k : Kd) (v : V) (p : Prt), vs = [.str (kdS k), v] ∧ Pt K H v p ∧ sizeB p = true ∧ homesOk p = true ∧ ∀ H', Same H H' → Q (.bl (lawKind k p)) H'
end Rs


set_option Elab.async false
set_option linter.all false
set_option maxRecDepth 100000
set_option maxHeartbeats 1000000
namespace Rs
open PySem L2 Bs LamX Pg RZ
def ftB (k n : Nat) (d : PyData) : Bool := d.showable && (!d.hasDict && (decide (d.depth ≤ k) && (d.leavesShort 500 && decide (d.weight ≤ n))))
theorem ft_ok {k n : Nat} {d : PyData} (h : ftB k n d = true) (hk : k ≤ 60) (hn : n ≤ 33000) : Sh.Ok d := by
  unfold ftB at h
  simp only [Bool.and_eq_true, decide_eq_true_eq, Bool.not_eq_true'] at h
  obtain ⟨h1, h2, h3, h4, h5⟩ := h
  refine ⟨h1, h2, Nat.le_trans h3 hk, ?_⟩
  have := PyData.shown_le 500 (by decide) d h4
  have e : sizeLine = 16777216 := sizeLine_eq
  have : (500 + 2) * d.weight ≤ 502 * 33000 := Nat.mul_le_mul (Nat.le_refl _) (Nat.le_trans h5 hn)
  omega
theorem ft_all {k n : Nat} : ∀ {ds : List PyData}, (∀ d ∈ ds, ftB k n d = true) → PyData.showableAll ds = true ∧ PyData.hasDictAll ds = false ∧ PyData.depthAll ds ≤ k ∧ PyData.leavesShortAll 500 ds = true ∧ PyData.weightAll ds ≤ (n + 1) * ds.length
  | [], _ => ⟨rfl, rfl, Nat.zero_le _, rfl, Nat.zero_le _⟩
  | d :: ds, h => by
    have a := h d List.mem_cons_self
    obtain ⟨b1, b2, b3, b4, b5⟩ := ft_all (ds := ds) fun e he => h e (List.mem_cons_of_mem _ he)
    unfold ftB at a
    simp only [Bool.and_eq_true, decide_eq_true_eq, Bool.not_eq_true'] at a
    obtain ⟨h1, h2, h3, h4, h5⟩ := a
    refine ⟨?_, ?_, ?_, ?_, ?_⟩
    · simp only [PyData.showableAll, h1, b1, Bool.and_self]
    · simp only [PyData.hasDictAll, h2, b2, Bool.or_self]
    · simp only [PyData.depthAll]
      omega
    · simp only [PyData.leavesShortAll, h4, b4, Bool.and_self]
    · simp only [PyData.weightAll, List.length_cons, Nat.mul_succ]
      omega
theorem ft_tup {k n m : Nat} {ds : List PyData} (h : ∀ d ∈ ds, ftB k n d = true) (e : (n + 1) * ds.length ≤ m) : ftB (k + 1) m (.tuple ds) = true := by
  obtain ⟨b1, b2, b3, b4, b5⟩ := ft_all h
  unfold ftB
  simp only [Bool.and_eq_true, decide_eq_true_eq, Bool.not_eq_true']
  refine ⟨b1, b2, ?_, b4, Nat.le_trans b5 e⟩
  simp only [PyData.depth]
  omega
end Rs


set_option Elab.async false
set_option linter.all false
set_option maxRecDepth 100000
set_option maxHeartbeats 400000
namespace Dd
open PySem L2 Bs
def tD (K : PySem.W.Frag) (d : PyData) : TE := fun _ H Q => ∀ v H', Same H H' → Dp K H' v d → Q v H'
def tDs (K : PySem.W.Frag) (ds : List PyData) : TA := fun _ H Q => ∀ vs H', Same H H' → DpAll K H' vs ds → Q vs H'
mutual
theorem dp_same {K : PySem.W.Frag} {H H' : Hp} (e : Same H H') : ∀ (d : PyData) (v : V), Dp K H v d → Dp K H' v d
  | .none, _, .non => .non
  | .bool _, _, .bl b => .bl b
  | .int _, _, .int i => .int i
  | .str _, _, .str x => .str x
  | .list ds, _, .lst s a => .lst (e.seq s) (dps_same e ds _ a)
  | .tuple ds, _, .tup s a => .tup (Bs.Same.t e s) (dps_same e ds _ a)
theorem dps_same {K : PySem.W.Frag} {H H' : Hp} (e : Same H H') : ∀ (ds : List PyData) (vs : List V), DpAll K H vs ds → DpAll K H' vs ds
  | [], _, .nil => .nil
  | d :: ds, _, .cons a b => .cons (dp_same e d _ a) (dps_same e ds _ b)
end
theorem dps_len {K : PySem.W.Frag} {H : Hp} : ∀ {ds : List PyData} {vs : List V}, DpAll K H vs ds → vs.length = ds.length
  | [], _, .nil => rfl
  | _ :: _, _, .cons _ b => congrArg (· + 1) (dps_len b)
section
variable {X : Cx} {e : Expr} {es : List Expr} {d : PyData} {ds : List PyData} {pos : Pos}
theorem pe_to {t t' : TE} (he : PE X e t) (h : ∀ σ H Q, t' σ H Q → t σ H Q) : PE X e t' := ⟨fun pins s σ H Q I q => he.run pins s σ H Q I (h _ _ _ q)⟩
theorem pa_to {t t' : TA} (he : PA X es t) (h : ∀ σ H Q, t' σ H Q → t σ H Q) : PA X es t' := ⟨fun pos pins s σ H Q I q => he.run pos pins s σ H Q I (h _ _ _ q)⟩
theorem pd_int {i j} : PE X (.Constant (.int i) j pos) (tD X.K (.int i)) := pe_to pe_int fun _ H _ h => h _ H (fun _ _ z => z) (.int i)
theorem pd_neg {i j p} : PE X (.UnaryOp .USub (.Constant (.int i) j pos) p) (tD X.K (.int (-i))) := pe_to (pe_un un_neg pe_int) fun _ H _ h => ⟨i, rfl, h _ H (fun _ _ z => z) (.int (-i))⟩
theorem pd_bl {b j} : PE X (.Constant (.bool b) j pos) (tD X.K (.bool b)) := pe_to pe_bl fun _ H _ h => h _ H (fun _ _ z => z) (.bl b)
theorem pd_non {j} : PE X (.Constant .none j pos) (tD X.K .none) := pe_to pe_non fun _ H _ h => h _ H (fun _ _ z => z) .non
theorem pd_str {x j} : PE X (.Constant (.str x) j pos) (tD X.K (.str x)) := pe_to pe_str fun _ H _ h => h _ H (fun _ _ z => z) (.str x)
theorem pd_nil : PA X [] (tDs X.K []) := pa_to pa_nil fun _ H _ h => h _ H (fun _ _ z => z) .nil
theorem pd_cons (he : PE X e (tD X.K d)) (hr : PA X es (tDs X.K ds)) (hs : starEach (e :: es) X.env = (false, eval e X.env) :: starEach es X.env := by rfl) : PA X (e :: es) (tDs X.K (d :: ds)) :=
  pa_to (pa_cons he hr hs) fun _ _ _ h => fun x _ s1 dx => fun xs H2 s2 dxs => h (x :: xs) H2 (s1.trans s2) (.cons (dp_same s2 d x dx) dxs)
theorem pd_tup {x1} (ha : PA X es (tDs X.K ds)) (hl : ds.length ≤ 1000 := by decide) : PE X (.Tuple es x1 pos) (tD X.K (.tuple ds)) :=
  pe_to (pe_tup ha) fun _ _ _ h => fun xs H1 s1 dxs => ⟨by rw [dps_len dxs]; have e : sizeLine = 16777216 := sizeLine_eq; omega, fun p hp => h (.ref p) _ (s1.trans (same_new hp)) (.tup (SqT.of upd_same) (dps_same (same_new hp) ds xs dxs))⟩
theorem pd_lst (ha : PA X es (tDs X.K ds)) (hl : ds.length ≤ 1000 := by decide) : PE X (.List es pos) (tD X.K (.list ds)) :=
  pe_to (pe_lst ha) fun _ _ _ h => fun xs H1 s1 dxs => ⟨by rw [dps_len dxs]; have e : sizeLine = 16777216 := sizeLine_eq; omega, fun p hp => h (.ref p) _ (s1.trans (same_new hp)) (.lst (SqL.of upd_same) (dps_same (same_new hp) ds xs dxs))⟩
end
mutual
def noL : PyData → Bool
  | .none => true
  | .bool _ => true
  | .int _ => true
  | .str _ => true
  | .tuple ds => noLs ds
  | .list _ => false
  | .dict _ => false
def noLs : List PyData → Bool
  | [] => true
  | d :: ds => noL d && noLs ds
end
theorem sqT_upd {K : PySem.W.Frag} {H : Hp} {a D : Addr} {xs acc : List V} {o : HO} (hD : H D = some (.lst acc)) (s : SqT K H a xs) : SqT K (upd H D o) a xs := by
  rcases s with (s | ⟨o', s⟩) | s
  · exact .inl (.inl ((upd_ne (ne_of s hD (by intro z; cases z))).trans s))
  · exact .inl (.inr ⟨o', (upd_ne (ne_of s hD (by intro z; cases z))).trans s⟩)
  · exact .inr s
mutual
theorem dp_upd {K : PySem.W.Frag} {H : Hp} {L : Addr} {acc : List V} {o : HO} (hL : H L = some (.lst acc)) : ∀ (d : PyData) (v : V), noL d = true → Dp K H v d → Dp K (upd H L o) v d
  | .none, _, _, .non => .non
  | .bool _, _, _, .bl b => .bl b
  | .int _, _, _, .int i => .int i
  | .str _, _, _, .str x => .str x
  | .list ds, _, z, _ => by cases z
  | .tuple ds, _, z, .tup s a => .tup (sqT_upd hL s) (dps_upd hL ds _ (by rw [noL] at z; exact z) a)
theorem dps_upd {K : PySem.W.Frag} {H : Hp} {L : Addr} {acc : List V} {o : HO} (hL : H L = some (.lst acc)) : ∀ (ds : List PyData) (vs : List V), noLs ds = true → DpAll K H vs ds → DpAll K (upd H L o) vs ds
  | [], _, _, .nil => .nil
  | d :: ds, _, z, .cons a b => by
    rw [noLs, Bool.and_eq_true] at z
    exact .cons (dp_upd hL d _ z.1 a) (dps_upd hL ds _ z.2 b)
end
theorem dps_app {K : PySem.W.Frag} {H : Hp} : ∀ {vs us : List V} {ds es : List PyData}, DpAll K H vs ds → DpAll K H us es → DpAll K H (vs ++ us) (ds ++ es)
  | _, _, _, _, .nil, h => h
  | _, _, _, _, .cons a b, h => .cons a (dps_app b h)
mutual
theorem dp_t {K : PySem.W.Frag} {H H' : Hp} (f : ∀ a xs, SqT K H a xs → SqT K H' a xs) : ∀ (d : PyData) (v : V), noL d = true → Dp K H v d → Dp K H' v d
  | .none, _, _, .non => .non
  | .bool _, _, _, .bl b => .bl b
  | .int _, _, _, .int i => .int i
  | .str _, _, _, .str x => .str x
  | .list ds, _, z, _ => by cases z
  | .tuple ds, _, z, .tup s a => .tup (f _ _ s) (dps_t f ds _ (by rw [noL] at z; exact z) a)
theorem dps_t {K : PySem.W.Frag} {H H' : Hp} (f : ∀ a xs, SqT K H a xs → SqT K H' a xs) : ∀ (ds : List PyData) (vs : List V), noLs ds = true → DpAll K H vs ds → DpAll K H' vs ds
  | [], _, _, .nil => .nil
  | d :: ds, _, z, .cons a b => by
    rw [noLs, Bool.and_eq_true] at z
    exact .cons (dp_t f d _ z.1 a) (dps_t f ds _ z.2 b)
end
/-- a list that is being told, new since B -/
def Tl (K : PySem.W.Frag) (B H : Hp) (L : Addr) (ds : List PyData) : Prop := B L = none ∧ Same B H ∧ ∃ xs, H L = some (.lst xs) ∧ DpAll K H xs ds
section
variable {K : PySem.W.Frag} {B H H' : Hp} {L M q : Addr} {ds es : List PyData} {xs zs : List V}
theorem Tl.new (s : Same B H) (hq : H q = none) (d : DpAll K H zs es) : Tl K B (upd H q (.lst zs)) q es := ⟨s.free hq, s.trans (same_new hq), zs, upd_same, dps_same (same_new hq) es zs d⟩
theorem Tl.mono (h : Tl K B H L ds) (s : Same H H') : Tl K B H' L ds := by
  obtain ⟨a, b, xs, g, d⟩ := h
  exact ⟨a, b.trans s, xs, s _ _ g, dps_same s ds xs d⟩
theorem Tl.dp (h : Tl K B H L ds) : Dp K H (.ref L) (.list ds) := by
  obtain ⟨a, b, xs, g, d⟩ := h
  exact .lst (SqL.of g) d
theorem small_line {n : Nat} (h : n ≤ 1000) : n < sizeLine := by
  have e : sizeLine = 16777216 := sizeLine_eq
  omega
theorem Tl.cat {Q : VK} (h : Tl K B H L ds) (g : Tl K B H M es) (hl : ds.length + es.length ≤ 1000) (k : ∀ L2 H2, Same H H2 → Tl K B H2 L2 (ds ++ es) → Q (.ref L2) H2) : rCat (.ref L) (.ref M) H Q := by
  obtain ⟨a, b, xs, gx, d⟩ := h
  obtain ⟨_, _, zs, gz, e⟩ := g
  refine ⟨L, M, xs, zs, rfl, rfl, gx, gz, Nat.le_of_lt (small_line (by rw [dps_len d, dps_len e]; exact hl)), fun q hq => k q _ (same_new hq) (Tl.new b hq (dps_app d e))⟩
theorem Tl.push {v : V} {d : PyData} (h : Tl K B H L ds) (n1 : noLs ds = true) (n2 : noL d = true) (dv : Dp K H v d) (hl : ds.length ≤ 1000) : ∃ xs, H L = some (.lst xs) ∧ xs.length < sizeLine ∧ Tl K B (upd H L (.lst (xs ++ [v]))) L (ds ++ [d]) := by
  obtain ⟨a, b, xs, g, e⟩ := h
  refine ⟨xs, g, small_line (by rw [dps_len e]; exact hl), a, fun c o z => (upd_ne (ne_of_none z a)).trans (b c o z), xs ++ [v], upd_same, dps_app (dps_upd g ds xs n1 e) (.cons (dp_upd g d v n2 dv) .nil)⟩
theorem Tl.get (h : Tl K B H L ds) : ∃ xs, H L = some (.lst xs) ∧ DpAll K H xs ds := h.2.2
end
end Dd


set_option Elab.async false
set_option linter.all false
set_option maxRecDepth 100000
set_option maxHeartbeats 1000000
namespace Rs
open PySem L2 Bs LamX Pg RZ Dd
theorem Pt.kp {K : PySem.W.Frag} {H H' : Hp} {p c l : Addr} {n : Nat} {t : Int} {v : V} {q : Prt} (k : Kp p l H H') (S : Sta H p c l n t) (h : Pt K H v q) : Pt K H' v q := by
  obtain ⟨a, vs, rfl, s, al⟩ := h
  exact ⟨a, vs, rfl, sqT_kp k S s, al.imp fun _ _ ⟨b, e, z⟩ => ⟨b, e, sqT_kp k S z⟩⟩
end Rs


set_option Elab.async false
set_option linter.all false
set_option maxRecDepth 100000
namespace Cu
open Fq Pg
def pw (m : Nat → Rat) : Nat → Nat → Rat
  | 0, j => if j = 0 then 1 else 0
  | s + 1, j => sm (fun i => pw m s i * m (j - i)) (j + 1)
def chs : Nat → Nat → Int
  | _, 0 => 1
  | 0, _ + 1 => 0
  | n + 1, k + 1 => chs n k + chs n (k + 1)
def bes (k : Kd) (m : Nat → Rat) (n s : Nat) : Rat := match k with
  | .free => pw m s (n - s)
  | .all => (chs (n - 1) (s - 1) : Rat) * m (n - s)
  | .str => m (n - s)
def mf (k : Kd) (m c : Nat → Rat) (n j : Nat) : Rat := sm (fun i => c (i + 1) * bes k m n (i + 1)) j
def pT (c : Nat → Rat) : List Nat → Rat
  | [] => 1
  | l :: t => pT c t * c l
def sumT (c : Nat → Rat) : List (List Nat) → Rat
  | [] => 0
  | t :: ts => sumT c ts + pT c t
def sumS (c : Nat → Rat) : List (Int × List Nat) → Rat
  | [] => 0
  | t :: ts => sumS c ts + (t.1 : Rat) * pT c t.2
def lns (p : Prt) : List Nat := p.map List.length
def Pk (k : Kd) (c : Nat → Rat) (n : Nat) : Rat := sumT c ((partsOf k n).map lns)
def Sk (k : Kd) (m : Nat → Rat) (n : Nat) : Rat := sumS m ((partsOf k n).map fun p => (signB k p, lns p))
set_option maxHeartbeats 4000000
theorem ty_all0 : (partsOf Kd.all 0).map lns = [[]] := by decide +kernel
theorem sg_all0 : ((partsOf Kd.all 0).map fun p => (signB Kd.all p, lns p)) = [(1, [])] := by decide +kernel
theorem P_all0 (c : Nat → Rat) : Pk Kd.all c 0 = 1 := by
  unfold Pk
  rw [ty_all0]
  simp only [sumT, pT]
  grind
theorem S_all0 (m : Nat → Rat) : Sk Kd.all m 0 = 1 := by
  unfold Sk
  rw [sg_all0]
  simp only [sumS, pT]
  grind
theorem ty_all1 : (partsOf Kd.all 1).map lns = [[1]] := by decide +kernel
theorem sg_all1 : ((partsOf Kd.all 1).map fun p => (signB Kd.all p, lns p)) = [(1, [1])] := by decide +kernel
theorem P_all1 (c : Nat → Rat) : Pk Kd.all c 1 = c 1 := by
  unfold Pk
  rw [ty_all1]
  simp only [sumT, pT]
  grind
theorem S_all1 (m : Nat → Rat) : Sk Kd.all m 1 = m 1 := by
  unfold Sk
  rw [sg_all1]
  simp only [sumS, pT]
  grind
theorem ty_all2 : (partsOf Kd.all 2).map lns = [[1, 1], [2]] := by decide +kernel
theorem sg_all2 : ((partsOf Kd.all 2).map fun p => (signB Kd.all p, lns p)) = [(-1, [1, 1]), (1, [2])] := by decide +kernel
theorem P_all2 (c : Nat → Rat) : Pk Kd.all c 2 = c 2 + c 1 * c 1 := by
  unfold Pk
  rw [ty_all2]
  simp only [sumT, pT]
  grind
theorem S_all2 (m : Nat → Rat) : Sk Kd.all m 2 = m 2 + (-1 : Rat) * m 1 * m 1 := by
  unfold Sk
  rw [sg_all2]
  simp only [sumS, pT]
  grind
theorem ty_all3 : (partsOf Kd.all 3).map lns = [[1, 1, 1], [2, 1], [1, 2], [2, 1], [3]] := by decide +kernel
theorem sg_all3 : ((partsOf Kd.all 3).map fun p => (signB Kd.all p, lns p)) = [(2, [1, 1, 1]), (-1, [2, 1]), (-1, [1, 2]), (-1, [2, 1]), (1, [3])] := by decide +kernel
theorem P_all3 (c : Nat → Rat) : Pk Kd.all c 3 = c 3 + (3 : Rat) * c 2 * c 1 + c 1 * c 1 * c 1 := by
  unfold Pk
  rw [ty_all3]
  simp only [sumT, pT]
  grind
theorem S_all3 (m : Nat → Rat) : Sk Kd.all m 3 = m 3 + (-3 : Rat) * m 2 * m 1 + (2 : Rat) * m 1 * m 1 * m 1 := by
  unfold Sk
  rw [sg_all3]
  simp only [sumS, pT]
  grind
theorem ty_all4 : (partsOf Kd.all 4).map lns = [[1, 1, 1, 1], [2, 1, 1], [1, 2, 1], [1, 1, 2], [2, 1, 1], [3, 1], [2, 2], [1, 2, 1], [2, 2], [1, 3], [2, 1, 1], [3, 1], [2, 2], [3, 1], [4]] := by decide +kernel
theorem sg_all4 : ((partsOf Kd.all 4).map fun p => (signB Kd.all p, lns p)) = [(-6, [1, 1, 1, 1]), (2, [2, 1, 1]), (2, [1, 2, 1]), (2, [1, 1, 2]), (2, [2, 1, 1]), (-1, [3, 1]), (-1, [2, 2]), (2, [1, 2, 1]), (-1, [2, 2]), (-1, [1, 3]), (2, [2, 1, 1]), (-1, [3, 1]), (-1, [2, 2]), (-1, [3, 1]), (1, [4])] := by decide +kernel
theorem P_all4 (c : Nat → Rat) : Pk Kd.all c 4 = c 4 + (4 : Rat) * c 3 * c 1 + (3 : Rat) * c 2 * c 2 + (6 : Rat) * c 2 * c 1 * c 1 + c 1 * c 1 * c 1 * c 1 := by
  unfold Pk
  rw [ty_all4]
  simp only [sumT, pT]
  grind
theorem S_all4 (m : Nat → Rat) : Sk Kd.all m 4 = m 4 + (-4 : Rat) * m 3 * m 1 + (-3 : Rat) * m 2 * m 2 + (12 : Rat) * m 2 * m 1 * m 1 + (-6 : Rat) * m 1 * m 1 * m 1 * m 1 := by
  unfold Sk
  rw [sg_all4]
  simp only [sumS, pT]
  grind
theorem ty_all5 : (partsOf Kd.all 5).map lns = [[1, 1, 1, 1, 1], [2, 1, 1, 1], [1, 2, 1, 1], [1, 1, 2, 1], [1, 1, 1, 2], [2, 1, 1, 1], [3, 1, 1], [2, 2, 1], [2, 1, 2], [1, 2, 1, 1], [2, 2, 1], [1, 3, 1], [1, 2, 2], [1, 1, 2, 1], [2, 1, 2], [1, 2, 2], [1, 1, 3], [2, 1, 1, 1], [3, 1, 1], [2, 2, 1], [2, 1, 2], [3, 1, 1], [4, 1], [3, 2], [2, 2, 1], [3, 2], [2, 3], [1, 2, 1, 1], [2, 2, 1], [1, 3, 1], [1, 2, 2], [2, 2, 1], [3, 2], [2, 3], [1, 3, 1], [2, 3], [1, 4], [2, 1, 1, 1], [3, 1, 1], [2, 2, 1], [2, 1, 2], [3, 1, 1], [4, 1], [3, 2], [2, 2, 1], [3, 2], [2, 3], [3, 1, 1], [4, 1], [3, 2], [4, 1], [5]] := by decide +kernel
theorem sg_all5 : ((partsOf Kd.all 5).map fun p => (signB Kd.all p, lns p)) = [(24, [1, 1, 1, 1, 1]), (-6, [2, 1, 1, 1]), (-6, [1, 2, 1, 1]), (-6, [1, 1, 2, 1]), (-6, [1, 1, 1, 2]), (-6, [2, 1, 1, 1]), (2, [3, 1, 1]), (2, [2, 2, 1]), (2, [2, 1, 2]), (-6, [1, 2, 1, 1]), (2, [2, 2, 1]), (2, [1, 3, 1]), (2, [1, 2, 2]), (-6, [1, 1, 2, 1]), (2, [2, 1, 2]), (2, [1, 2, 2]), (2, [1, 1, 3]), (-6, [2, 1, 1, 1]), (2, [3, 1, 1]), (2, [2, 2, 1]), (2, [2, 1, 2]), (2, [3, 1, 1]), (-1, [4, 1]), (-1, [3, 2]), (2, [2, 2, 1]), (-1, [3, 2]), (-1, [2, 3]), (-6, [1, 2, 1, 1]), (2, [2, 2, 1]), (2, [1, 3, 1]), (2, [1, 2, 2]), (2, [2, 2, 1]), (-1, [3, 2]), (-1, [2, 3]), (2, [1, 3, 1]), (-1, [2, 3]), (-1, [1, 4]), (-6, [2, 1, 1, 1]), (2, [3, 1, 1]), (2, [2, 2, 1]), (2, [2, 1, 2]), (2, [3, 1, 1]), (-1, [4, 1]), (-1, [3, 2]), (2, [2, 2, 1]), (-1, [3, 2]), (-1, [2, 3]), (2, [3, 1, 1]), (-1, [4, 1]), (-1, [3, 2]), (-1, [4, 1]), (1, [5])] := by decide +kernel
theorem P_all5 (c : Nat → Rat) : Pk Kd.all c 5 = c 5 + (5 : Rat) * c 4 * c 1 + (10 : Rat) * c 3 * c 2 + (10 : Rat) * c 3 * c 1 * c 1 + (15 : Rat) * c 2 * c 2 * c 1 + (10 : Rat) * c 2 * c 1 * c 1 * c 1 + c 1 * c 1 * c 1 * c 1 * c 1 := by
  unfold Pk
  rw [ty_all5]
  simp only [sumT, pT]
  grind
theorem S_all5 (m : Nat → Rat) : Sk Kd.all m 5 = m 5 + (-5 : Rat) * m 4 * m 1 + (-10 : Rat) * m 3 * m 2 + (20 : Rat) * m 3 * m 1 * m 1 + (30 : Rat) * m 2 * m 2 * m 1 + (-60 : Rat) * m 2 * m 1 * m 1 * m 1 + (24 : Rat) * m 1 * m 1 * m 1 * m 1 * m 1 := by
  unfold Sk
  rw [sg_all5]
  simp only [sumS, pT]
  grind
theorem ty_free0 : (partsOf Kd.free 0).map lns = [[]] := by decide +kernel
theorem sg_free0 : ((partsOf Kd.free 0).map fun p => (signB Kd.free p, lns p)) = [(1, [])] := by decide +kernel
theorem P_free0 (c : Nat → Rat) : Pk Kd.free c 0 = 1 := by
  unfold Pk
  rw [ty_free0]
  simp only [sumT, pT]
  grind
theorem S_free0 (m : Nat → Rat) : Sk Kd.free m 0 = 1 := by
  unfold Sk
  rw [sg_free0]
  simp only [sumS, pT]
  grind
theorem ty_free1 : (partsOf Kd.free 1).map lns = [[1]] := by decide +kernel
theorem sg_free1 : ((partsOf Kd.free 1).map fun p => (signB Kd.free p, lns p)) = [(1, [1])] := by decide +kernel
theorem P_free1 (c : Nat → Rat) : Pk Kd.free c 1 = c 1 := by
  unfold Pk
  rw [ty_free1]
  simp only [sumT, pT]
  grind
theorem S_free1 (m : Nat → Rat) : Sk Kd.free m 1 = m 1 := by
  unfold Sk
  rw [sg_free1]
  simp only [sumS, pT]
  grind
theorem ty_free2 : (partsOf Kd.free 2).map lns = [[1, 1], [2]] := by decide +kernel
theorem sg_free2 : ((partsOf Kd.free 2).map fun p => (signB Kd.free p, lns p)) = [(-1, [1, 1]), (1, [2])] := by decide +kernel
theorem P_free2 (c : Nat → Rat) : Pk Kd.free c 2 = c 2 + c 1 * c 1 := by
  unfold Pk
  rw [ty_free2]
  simp only [sumT, pT]
  grind
theorem S_free2 (m : Nat → Rat) : Sk Kd.free m 2 = m 2 + (-1 : Rat) * m 1 * m 1 := by
  unfold Sk
  rw [sg_free2]
  simp only [sumS, pT]
  grind
theorem ty_free3 : (partsOf Kd.free 3).map lns = [[1, 1, 1], [2, 1], [1, 2], [2, 1], [3]] := by decide +kernel
theorem sg_free3 : ((partsOf Kd.free 3).map fun p => (signB Kd.free p, lns p)) = [(2, [1, 1, 1]), (-1, [2, 1]), (-1, [1, 2]), (-1, [2, 1]), (1, [3])] := by decide +kernel
theorem P_free3 (c : Nat → Rat) : Pk Kd.free c 3 = c 3 + (3 : Rat) * c 2 * c 1 + c 1 * c 1 * c 1 := by
  unfold Pk
  rw [ty_free3]
  simp only [sumT, pT]
  grind
theorem S_free3 (m : Nat → Rat) : Sk Kd.free m 3 = m 3 + (-3 : Rat) * m 2 * m 1 + (2 : Rat) * m 1 * m 1 * m 1 := by
  unfold Sk
  rw [sg_free3]
  simp only [sumS, pT]
  grind
theorem ty_free4 : (partsOf Kd.free 4).map lns = [[1, 1, 1, 1], [2, 1, 1], [1, 2, 1], [1, 1, 2], [2, 1, 1], [3, 1], [1, 2, 1], [2, 2], [1, 3], [2, 1, 1], [3, 1], [2, 2], [3, 1], [4]] := by decide +kernel
theorem sg_free4 : ((partsOf Kd.free 4).map fun p => (signB Kd.free p, lns p)) = [(-5, [1, 1, 1, 1]), (2, [2, 1, 1]), (1, [1, 2, 1]), (2, [1, 1, 2]), (1, [2, 1, 1]), (-1, [3, 1]), (2, [1, 2, 1]), (-1, [2, 2]), (-1, [1, 3]), (2, [2, 1, 1]), (-1, [3, 1]), (-1, [2, 2]), (-1, [3, 1]), (1, [4])] := by decide +kernel
theorem P_free4 (c : Nat → Rat) : Pk Kd.free c 4 = c 4 + (4 : Rat) * c 3 * c 1 + (2 : Rat) * c 2 * c 2 + (6 : Rat) * c 2 * c 1 * c 1 + c 1 * c 1 * c 1 * c 1 := by
  unfold Pk
  rw [ty_free4]
  simp only [sumT, pT]
  grind
theorem S_free4 (m : Nat → Rat) : Sk Kd.free m 4 = m 4 + (-4 : Rat) * m 3 * m 1 + (-2 : Rat) * m 2 * m 2 + (10 : Rat) * m 2 * m 1 * m 1 + (-5 : Rat) * m 1 * m 1 * m 1 * m 1 := by
  unfold Sk
  rw [sg_free4]
  simp only [sumS, pT]
  grind
theorem ty_free5 : (partsOf Kd.free 5).map lns = [[1, 1, 1, 1, 1], [2, 1, 1, 1], [1, 2, 1, 1], [1, 1, 2, 1], [1, 1, 1, 2], [2, 1, 1, 1], [3, 1, 1], [1, 2, 1, 1], [2, 2, 1], [1, 3, 1], [1, 1, 2, 1], [2, 1, 2], [1, 2, 2], [1, 1, 3], [2, 1, 1, 1], [3, 1, 1], [2, 1, 2], [3, 1, 1], [4, 1], [1, 2, 1, 1], [2, 2, 1], [1, 3, 1], [1, 2, 2], [2, 2, 1], [3, 2], [1, 3, 1], [2, 3], [1, 4], [2, 1, 1, 1], [3, 1, 1], [2, 2, 1], [2, 1, 2], [3, 1, 1], [4, 1], [2, 2, 1], [3, 2], [2, 3], [3, 1, 1], [4, 1], [3, 2], [4, 1], [5]] := by decide +kernel
theorem sg_free5 : ((partsOf Kd.free 5).map fun p => (signB Kd.free p, lns p)) = [(14, [1, 1, 1, 1, 1]), (-5, [2, 1, 1, 1]), (-2, [1, 2, 1, 1]), (-2, [1, 1, 2, 1]), (-5, [1, 1, 1, 2]), (-2, [2, 1, 1, 1]), (2, [3, 1, 1]), (-2, [1, 2, 1, 1]), (1, [2, 2, 1]), (1, [1, 3, 1]), (-5, [1, 1, 2, 1]), (2, [2, 1, 2]), (1, [1, 2, 2]), (2, [1, 1, 3]), (-2, [2, 1, 1, 1]), (1, [3, 1, 1]), (1, [2, 1, 2]), (1, [3, 1, 1]), (-1, [4, 1]), (-5, [1, 2, 1, 1]), (2, [2, 2, 1]), (1, [1, 3, 1]), (2, [1, 2, 2]), (1, [2, 2, 1]), (-1, [3, 2]), (2, [1, 3, 1]), (-1, [2, 3]), (-1, [1, 4]), (-5, [2, 1, 1, 1]), (2, [3, 1, 1]), (1, [2, 2, 1]), (2, [2, 1, 2]), (1, [3, 1, 1]), (-1, [4, 1]), (2, [2, 2, 1]), (-1, [3, 2]), (-1, [2, 3]), (2, [3, 1, 1]), (-1, [4, 1]), (-1, [3, 2]), (-1, [4, 1]), (1, [5])] := by decide +kernel
theorem P_free5 (c : Nat → Rat) : Pk Kd.free c 5 = c 5 + (5 : Rat) * c 4 * c 1 + (5 : Rat) * c 3 * c 2 + (10 : Rat) * c 3 * c 1 * c 1 + (10 : Rat) * c 2 * c 2 * c 1 + (10 : Rat) * c 2 * c 1 * c 1 * c 1 + c 1 * c 1 * c 1 * c 1 * c 1 := by
  unfold Pk
  rw [ty_free5]
  simp only [sumT, pT]
  grind
theorem S_free5 (m : Nat → Rat) : Sk Kd.free m 5 = m 5 + (-5 : Rat) * m 4 * m 1 + (-5 : Rat) * m 3 * m 2 + (15 : Rat) * m 3 * m 1 * m 1 + (15 : Rat) * m 2 * m 2 * m 1 + (-35 : Rat) * m 2 * m 1 * m 1 * m 1 + (14 : Rat) * m 1 * m 1 * m 1 * m 1 * m 1 := by
  unfold Sk
  rw [sg_free5]
  simp only [sumS, pT]
  grind
theorem ty_str0 : (partsOf Kd.str 0).map lns = [[]] := by decide +kernel
theorem sg_str0 : ((partsOf Kd.str 0).map fun p => (signB Kd.str p, lns p)) = [(1, [])] := by decide +kernel
theorem P_str0 (c : Nat → Rat) : Pk Kd.str c 0 = 1 := by
  unfold Pk
  rw [ty_str0]
  simp only [sumT, pT]
  grind
theorem S_str0 (m : Nat → Rat) : Sk Kd.str m 0 = 1 := by
  unfold Sk
  rw [sg_str0]
  simp only [sumS, pT]
  grind
theorem ty_str1 : (partsOf Kd.str 1).map lns = [[1]] := by decide +kernel
theorem sg_str1 : ((partsOf Kd.str 1).map fun p => (signB Kd.str p, lns p)) = [(1, [1])] := by decide +kernel
theorem P_str1 (c : Nat → Rat) : Pk Kd.str c 1 = c 1 := by
  unfold Pk
  rw [ty_str1]
  simp only [sumT, pT]
  grind
theorem S_str1 (m : Nat → Rat) : Sk Kd.str m 1 = m 1 := by
  unfold Sk
  rw [sg_str1]
  simp only [sumS, pT]
  grind
theorem ty_str2 : (partsOf Kd.str 2).map lns = [[1, 1], [2]] := by decide +kernel
theorem sg_str2 : ((partsOf Kd.str 2).map fun p => (signB Kd.str p, lns p)) = [(-1, [1, 1]), (1, [2])] := by decide +kernel
theorem P_str2 (c : Nat → Rat) : Pk Kd.str c 2 = c 2 + c 1 * c 1 := by
  unfold Pk
  rw [ty_str2]
  simp only [sumT, pT]
  grind
theorem S_str2 (m : Nat → Rat) : Sk Kd.str m 2 = m 2 + (-1 : Rat) * m 1 * m 1 := by
  unfold Sk
  rw [sg_str2]
  simp only [sumS, pT]
  grind
theorem ty_str3 : (partsOf Kd.str 3).map lns = [[1, 1, 1], [1, 2], [2, 1], [3]] := by decide +kernel
theorem sg_str3 : ((partsOf Kd.str 3).map fun p => (signB Kd.str p, lns p)) = [(1, [1, 1, 1]), (-1, [1, 2]), (-1, [2, 1]), (1, [3])] := by decide +kernel
theorem P_str3 (c : Nat → Rat) : Pk Kd.str c 3 = c 3 + (2 : Rat) * c 2 * c 1 + c 1 * c 1 * c 1 := by
  unfold Pk
  rw [ty_str3]
  simp only [sumT, pT]
  grind
theorem S_str3 (m : Nat → Rat) : Sk Kd.str m 3 = m 3 + (-2 : Rat) * m 2 * m 1 + m 1 * m 1 * m 1 := by
  unfold Sk
  rw [sg_str3]
  simp only [sumS, pT]
  grind
theorem ty_str4 : (partsOf Kd.str 4).map lns = [[1, 1, 1, 1], [1, 1, 2], [1, 2, 1], [1, 3], [2, 1, 1], [2, 2], [3, 1], [4]] := by decide +kernel
theorem sg_str4 : ((partsOf Kd.str 4).map fun p => (signB Kd.str p, lns p)) = [(-1, [1, 1, 1, 1]), (1, [1, 1, 2]), (1, [1, 2, 1]), (-1, [1, 3]), (1, [2, 1, 1]), (-1, [2, 2]), (-1, [3, 1]), (1, [4])] := by decide +kernel
theorem P_str4 (c : Nat → Rat) : Pk Kd.str c 4 = c 4 + (2 : Rat) * c 3 * c 1 + c 2 * c 2 + (3 : Rat) * c 2 * c 1 * c 1 + c 1 * c 1 * c 1 * c 1 := by
  unfold Pk
  rw [ty_str4]
  simp only [sumT, pT]
  grind
theorem S_str4 (m : Nat → Rat) : Sk Kd.str m 4 = m 4 + (-2 : Rat) * m 3 * m 1 + (-1 : Rat) * m 2 * m 2 + (3 : Rat) * m 2 * m 1 * m 1 + (-1 : Rat) * m 1 * m 1 * m 1 * m 1 := by
  unfold Sk
  rw [sg_str4]
  simp only [sumS, pT]
  grind
theorem ty_str5 : (partsOf Kd.str 5).map lns = [[1, 1, 1, 1, 1], [1, 1, 1, 2], [1, 1, 2, 1], [1, 1, 3], [1, 2, 1, 1], [1, 2, 2], [1, 3, 1], [1, 4], [2, 1, 1, 1], [2, 1, 2], [2, 2, 1], [2, 3], [3, 1, 1], [3, 2], [4, 1], [5]] := by decide +kernel
theorem sg_str5 : ((partsOf Kd.str 5).map fun p => (signB Kd.str p, lns p)) = [(1, [1, 1, 1, 1, 1]), (-1, [1, 1, 1, 2]), (-1, [1, 1, 2, 1]), (1, [1, 1, 3]), (-1, [1, 2, 1, 1]), (1, [1, 2, 2]), (1, [1, 3, 1]), (-1, [1, 4]), (-1, [2, 1, 1, 1]), (1, [2, 1, 2]), (1, [2, 2, 1]), (-1, [2, 3]), (1, [3, 1, 1]), (-1, [3, 2]), (-1, [4, 1]), (1, [5])] := by decide +kernel
theorem P_str5 (c : Nat → Rat) : Pk Kd.str c 5 = c 5 + (2 : Rat) * c 4 * c 1 + (2 : Rat) * c 3 * c 2 + (3 : Rat) * c 3 * c 1 * c 1 + (3 : Rat) * c 2 * c 2 * c 1 + (4 : Rat) * c 2 * c 1 * c 1 * c 1 + c 1 * c 1 * c 1 * c 1 * c 1 := by
  unfold Pk
  rw [ty_str5]
  simp only [sumT, pT]
  grind
theorem S_str5 (m : Nat → Rat) : Sk Kd.str m 5 = m 5 + (-2 : Rat) * m 4 * m 1 + (-2 : Rat) * m 3 * m 2 + (3 : Rat) * m 3 * m 1 * m 1 + (3 : Rat) * m 2 * m 2 * m 1 + (-4 : Rat) * m 2 * m 1 * m 1 * m 1 + m 1 * m 1 * m 1 * m 1 * m 1 := by
  unfold Sk
  rw [sg_str5]
  simp only [sumS, pT]
  grind
end Cu


set_option Elab.async false
set_option linter.all false
set_option maxRecDepth 100000
set_option maxHeartbeats 4000000
namespace Cu
open Fq Pg
section
variable (k : Kd) (m c : Nat → Rat)
theorem P_zero : Pk k c 0 = 1 := by cases k <;> first | exact P_all0 c | exact P_free0 c | exact P_str0 c
theorem S_zero : Sk k m 0 = 1 := by cases k <;> first | exact S_all0 m | exact S_free0 m | exact S_str0 m
theorem P_S {n : Nat} (h1 : 1 ≤ n) (h5 : n ≤ 5) : Pk k (Sk k m) n = m n := by
  rcases (by omega : n = 1 ∨ n = 2 ∨ n = 3 ∨ n = 4 ∨ n = 5) with rfl | rfl | rfl | rfl | rfl <;> cases k
  all_goals simp only [P_all1, P_all2, P_all3, P_all4, P_all5, P_free1, P_free2, P_free3, P_free4, P_free5, P_str1, P_str2, P_str3, P_str4, P_str5, S_all1, S_all2, S_all3, S_all4, S_all5, S_free1, S_free2, S_free3, S_free4, S_free5, S_str1, S_str2, S_str3, S_str4, S_str5]
  all_goals grind
theorem S_P {n : Nat} (h1 : 1 ≤ n) (h5 : n ≤ 5) : Sk k (Pk k c) n = c n := by
  rcases (by omega : n = 1 ∨ n = 2 ∨ n = 3 ∨ n = 4 ∨ n = 5) with rfl | rfl | rfl | rfl | rfl <;> cases k
  all_goals simp only [P_all1, P_all2, P_all3, P_all4, P_all5, P_free1, P_free2, P_free3, P_free4, P_free5, P_str1, P_str2, P_str3, P_str4, P_str5, S_all1, S_all2, S_all3, S_all4, S_all5, S_free1, S_free2, S_free3, S_free4, S_free5, S_str1, S_str2, S_str3, S_str4, S_str5]
  all_goals grind
theorem mf_S (h0 : m 0 = 1) {n : Nat} (h1 : 1 ≤ n) (h5 : n ≤ 5) : mf k m (Sk k m) n n = m n := by
  rcases (by omega : n = 1 ∨ n = 2 ∨ n = 3 ∨ n = 4 ∨ n = 5) with rfl | rfl | rfl | rfl | rfl <;> cases k
  all_goals simp only [mf, sm, bes, Nat.reduceAdd, Nat.zero_add]
  all_goals simp only [S_all1, S_all2, S_all3, S_all4, S_all5, S_free1, S_free2, S_free3, S_free4, S_free5, S_str1, S_str2, S_str3, S_str4, S_str5]
  all_goals simp [pw, sm, chs, h0]
  all_goals grind
theorem mf_congr {m m' c c' : Nat → Rat} {n j : Nat} (hm : ∀ i, i < n → m i = m' i) (hc : ∀ i, 1 ≤ i → i ≤ j → c i = c' i) (hj : j ≤ n) : mf k m c n j = mf k m' c' n j := by
  have hp : ∀ s p, p < n → pw m s p = pw m' s p := by
    intro s
    induction s with
    | zero => intro p _; rfl
    | succ s ih =>
      intro p hp
      show sm _ _ = sm _ _
      refine sm_congr fun i hi => ?_
      show pw m s i * m (p - i) = pw m' s i * m' (p - i)
      rw [ih i (by omega), hm (p - i) (by omega)]
  unfold mf
  refine sm_congr fun i hi => ?_
  show c (i + 1) * bes k m n (i + 1) = c' (i + 1) * bes k m' n (i + 1)
  rw [hc (i + 1) (by omega) (by omega)]
  have e : bes k m n (i + 1) = bes k m' n (i + 1) := by
    cases k with
    | free => exact hp _ _ (by omega)
    | all =>
      show (_ : Rat) * m _ = _ * m' _
      rw [hm _ (by omega)]
    | str => exact hm _ (by omega)
  rw [e]
theorem mf_P {n : Nat} (h1 : 1 ≤ n) (h5 : n ≤ 5) : mf k (Pk k c) c n n = Pk k c n := by
  have h := mf_S k (Pk k c) (P_zero k c) h1 h5
  rw [← h]
  exact mf_congr k (fun _ _ => rfl) (fun i a b => (S_P k c a (by omega)).symm) (Nat.le_refl _)
end
end Cu


set_option Elab.async false
set_option linter.all false
set_option maxRecDepth 100000
set_option maxHeartbeats 1000000
namespace Cu
open Fq
/-- the fractions of a row of rationals -/
def rl (f : Nat → Rat) (L : Nat) : List F := (List.range L).map fun i => rf (f i)
theorem rf_eq {q : F} {x : Rat} (o : Ok q) (h : val q = x) : q = rf x := rf_is o h
section
variable {f g : Nat → Rat} {L i n : Nat} {D : Int}
theorem rl_len : (rl f L).length = L := by rw [rl, List.length_map, List.length_range]
theorem rl_get (h : i < L) : (rl f L)[i]? = some (rf (f i)) := by rw [rl, List.getElem?_map, List.getElem?_range h]; rfl
theorem rl_co (h : i < L) : Rs.co (rl f L) i = rf (f i) := Rs.co_get (rl_get h)
theorem rl_succ : rl f (L + 1) = rl f L ++ [rf (f L)] := by rw [rl, List.range_succ, List.map_append]; rfl
theorem rl_take : (rl f L).take n = rl f (min n L) := by rw [rl, ← List.map_take, List.take_range]; rfl
theorem rl_congr (h : ∀ i, i < L → f i = g i) : rl f L = rl g L := by
  unfold rl
  exact List.map_congr_left fun i hi => by rw [h i (List.mem_range.mp hi)]
structure Sz (D : Int) (m : Nat → Rat) : Prop where
  p : 0 < D
  l : D.natAbs ≤ 2 ^ 150
  o : ∀ i, Ov D 170 (m i)
theorem Sz.ca (h : Sz D f) (L : Nat) : Ca D 170 (rl f L) := fun q hq => by
  obtain ⟨i, _, rfl⟩ := List.mem_map.mp hq
  exact rf_cb (h.o i)
theorem Sz.pw (h : Sz D f) (s : Nat) : 0 < D ^ s ∧ (D ^ s).natAbs ≤ 2 ^ (150 * s) := by
  refine ⟨Int.pow_pos h.p, ?_⟩
  rw [Int.natAbs_pow, Nat.pow_mul]
  exact Nat.pow_le_pow_left h.l s
theorem Sz.bd (h : Sz D f) {s n : Nat} (hs : s ≤ 29) (hn : n ≤ 4390) : Rs.Bd (D ^ s) n := by
  obtain ⟨a, b⟩ := h.pw s
  exact Rs.Bd.of a b (by omega) hn
end
end Cu
namespace Rs
open PySem PySem.Spec PyProof.Rows L2 Bs Fq LamX RZ Cu
/-- a list of fractions -/
def PoL (K : PySem.W.Frag) (H : Hp) (v : V) (qs : List F) : Prop := ∃ a xs, v = .ref a ∧ H a = some (.lst xs) ∧ FrAll K H xs qs
theorem PoL.mono {K : PySem.W.Frag} {H H' : Hp} {v : V} {qs : List F} (h : PoL K H v qs) (e : Same H H') : PoL K H' v qs := by
  obtain ⟨a, xs, rfl, g, f⟩ := h
  exact ⟨a, xs, rfl, e _ _ g, f.mono e⟩
def spPTimedL (K : PySem.W.Frag) : Sp := fun vs H Q _ => ∃ (x y : V) (qs rs : List F) (D1 D2 : Int) (n m : Nat), vs = [x, y] ∧ Po K H x qs ∧ PoL K H y rs ∧ Ca D1 n qs ∧ Ca D2 m rs ∧ Bd D1 n ∧ Bd D2 m ∧ Bd (D1 * D2) (n + m + 170) ∧ qs.length ≤ 12 ∧ rs.length ≤ 12 ∧
  ∀ H' p, Same H H' → Po K H' (.ref p) (trim (prodN (qs.length + rs.length) qs rs)) → Q (.ref p) H'
section
variable {P : Program} {w : World} {K : PySem.W.Frag} {mg : Str → Option Value} {base : Heap} {f : Addr} {fd : FuncData}
theorem ok_ptimedL (F : Fun K "poly_timed" "poly_timed" sPTimed f fd) (T : Blt mg) (en : mg "enumerate" = none) (Z : Nou K mg) (Ad : Cal P w K mg base 2 "added" (spOp K add dom2)) (Ti : Cal P w K mg base 2 "timed" (spOp K mul dom2)) (Tr : Cal P w K mg base 1 "trimmed" (spTrim K)) :
    FnOk P w K mg base CX0 3 f fd ["one", "other"] (spPTimedL K) := by
  refine F.ok scPTimed (fun vs H Q E h => ?_) (fun cdv A outer s H vs Q E hr h => ?_)
  · obtain ⟨x, y, qs, rs, _, _, _, _, rfl, _⟩ := h
    rfl
  · obtain ⟨x, y, qs, rs, D1, D2, za, zb, rfl, ⟨a, xs, rfl, sx, fx⟩, ⟨b, ys, rfl, sy, fy⟩, hq, hrs, bd1, bd2, hab, lq, lr, kk⟩ := h
    obtain ⟨z, mz, sz⟩ := Z.ex
    refine ⟨_, pss_cons (ps_set (i := 2) scPTimed.nd rfl (Or.inl rfl) (pe_op op_rep (pe_lst (pa_cons (pe_glob (v := .ref z) (by rfl) mz rfl) pa_nil)) (pe_op op_add (pe_callB call_len_seq (by rfl) T.len (by decide +kernel) (pa_cons (pv 0) pa_nil)) (pe_callB call_len_seq (by rfl) T.len (by decide +kernel) (pa_cons (pv 1) pa_nil)))))
      (pss_cons (ps_for PassesOwn.never rfl (EnT.pi_enumT (by rfl) en (pa_cons (pv 0) pa_nil)) (pg_tup rfl (pgs_cons (pg_name (i := 3) scPTimed.nd rfl (.inl rfl)) (pgs_cons (pg_name (i := 4) scPTimed.nd rfl (.inl rfl)) pgs_nil)))
        (pss_one (ps_for PassesOwn.never rfl (pi_enum (by rfl) en (pa_cons (pv 1) pa_nil)) (pg_tup rfl (pgs_cons (pg_name (i := 5) scPTimed.nd rfl (.inl rfl)) (pgs_cons (pg_name (i := 6) scPTimed.nd rfl (.inl rfl)) pgs_nil)))
          (pss_one (ps_asg (pe_n Ad hr (by decide) (by rfl) (pa_cons (pe_ix ix_list (pv 2) (pe_op op_add (pv 3) (pv 5)) (fun _ _ => rfl)) (pa_cons (pe_n Ti hr (by decide) (by rfl) (pa_cons (pv 4) (pa_cons (pv 6) pa_nil))) pa_nil))) (pg_sub (pv 2) (pe_op op_add (pv 3) (pv 5)) set_list))))))
      (pss_one (ps_ret (pe_n Tr hr (by decide) (by rfl) (pa_cons (pv 2) pa_nil))))), ?_⟩
    have lx := fx.len
    have ly := fy.len
    refine ⟨(by show 1 ≤ sizeLine; decide), fun p0 hp0 => ?_⟩
    have s0 : Same H (upd H p0 (.lst [V.ref z])) := same_new hp0
    refine ⟨_, rfl, a, xs, rfl, Or.inr (Bs.Same.t s0 sx), _, rfl, b, ys, rfl, Or.inl (SqL.of (s0 _ _ sy)), _, _, rfl, rfl, ?_⟩
    have hn : ((([V.ref z] : List V).length) * ((xs.length : Int) + (ys.length : Int)).toNat) ≤ sizeLine := by
      rw [List.length_singleton, Nat.one_mul]
      exact Nat.le_of_lt (small1000 (by omega))
    refine ⟨p0, _, _, rfl, rfl, upd_same, by omega, by omega, hn, fun W hW => ?_⟩
    have eW : (List.replicate ((xs.length : Int) + (ys.length : Int)).toNat [V.ref z]).flatten = List.replicate (qs.length + rs.length) (V.ref z) := by
      rw [List.flatten_replicate_singleton]
      congr 1
      omega
    rw [eW]
    have s1 : Same H (upd (upd H p0 (.lst [V.ref z])) W (.lst (List.replicate (qs.length + rs.length) (V.ref z)))) := s0.trans (same_new hW)
    have wn : H W = none := s0.free hW
    generalize eH : upd (upd H p0 (.lst [V.ref z])) W (.lst (List.replicate (qs.length + rs.length) (V.ref z))) = H1 at s1
    have hW1 : H1 W = some (.lst (List.replicate (qs.length + rs.length) (V.ref z))) := by rw [← eH]; exact upd_same
    clear hn hW eW eH
    -- what holds of the list
    let St : List Fq.F → Hp → Prop := fun ws H2 => Same H H2 ∧ ∃ vs, H2 W = some (.lst vs) ∧ FrAll K H2 vs ws
    refine ⟨_, rfl, a, xs, rfl, Bs.Same.t s1 sx, ?_⟩
    refine for_it walk_enumT (fun i σ H2 => St (stepI (List.replicate (qs.length + rs.length) (0, 1)) qs rs i) H2 ∧ ∃ v3 v4 v5 v6, σ = [some (V.ref a), some (V.ref b), some (V.ref W), v3, v4, v5, v6])
      ⟨⟨s1, _, hW1, FrAll.rep ⟨z, rfl, sz _⟩ _⟩, none, none, none, none, rfl⟩ (fun i σ H2 _ p => Bs.Same.t p.1.1 sx) ?_ ?_
    · rintro i x σ H2 H3 hi ⟨⟨s2, vs, hv, fv⟩, v3, v4, v5, v6, rfl⟩ ⟨T, x', y', rfl, hT, rfl, h1, h2⟩
      cases h1
      have s3 := same_new (o := .tup [.int (i : Nat), y']) hT
      obtain ⟨y'', q, g1, g2, g3⟩ := fx.get (i := i) (by omega)
      have h2' : xs[i]? = some y' := h2
      rw [g1] at h2'
      cases h2'
      have eq_ : co qs i = q := co_get g2
      refine ⟨T, _, rfl, SqT.of upd_same, rfl, _, _, rfl, _, _, rfl, rfl, ?_⟩
      refine ⟨_, rfl, b, ys, rfl, SqL.of ((s2.trans s3) _ _ sy), ?_⟩
      refine for_it walk_enum (fun j σ H2 => St (stepJ (stepI (List.replicate (qs.length + rs.length) (0, 1)) qs rs i) i (co qs i) rs j) H2 ∧ ∃ v5 v6, σ = [some (V.ref a), some (V.ref b), some (V.ref W), some (V.int i), some y', v5, v6])
        ⟨⟨s2.trans s3, vs, s3 _ _ hv, fv.mono s3⟩, v5, v6, rfl⟩ (fun i σ H2 _ p => SqL.of (p.1.1 _ _ sy)) ?_ ?_
      · rintro j x σ H4 H5 hj ⟨⟨s4, us, hu, fu⟩, v5, v6, rfl⟩ ⟨T2, x2, y2, rfl, hT2, rfl, h3, h4⟩
        cases h3
        have s5 := same_new (o := .tup [.int (j : Nat), y2]) hT2
        obtain ⟨y3, r, g4, g5, g6⟩ := fy.get (i := j) (by omega)
        have h4' : ys[j]? = some y2 := h4
        rw [g4] at h4'
        cases h4'
        have er_ : co rs j = r := co_get g5
        refine ⟨T2, _, rfl, SqT.of upd_same, rfl, _, _, rfl, _, _, rfl, rfl, ?_⟩
        have lw : (stepJ (stepI (List.replicate (qs.length + rs.length) (0, 1)) qs rs i) i (co qs i) rs j).length = qs.length + rs.length := by
          rw [stepJ_len, stepI_len, List.length_replicate]
        have zr : Ca (D1 * D2) (za + zb) (List.replicate (qs.length + rs.length) ((0, 1) : Fq.F)) := fun q hq => by
          rw [(List.mem_replicate.mp hq).2]
          exact Cb.zero
        have pb := (stepJ_wtC (i := i) (stepI_wtC zr hq hrs (Nat.le_refl _) (fun _ => 0) i (by rw [List.length_replicate]; omega)).1 (hq.co i) hrs (by omega) (fun _ => 0) j (by rw [stepI_len, List.length_replicate]; omega)).1
        have hk : za + zb + i * rs.length + j ≤ za + zb + 170 := by
          have : i * rs.length ≤ 11 * 12 := Nat.mul_le_mul (by omega) lr
          omega
        have ss := s4.trans s5
        have eij : (i : Int) + (j : Int) = ((i + j : Nat) : Int) := by omega
        obtain ⟨u, p, k1, k2, k3⟩ := fu.get (i := i + j) (by rw [lw]; omega)
        have eu := co_get k2
        have pm : Cb (D1 * D2) (za + zb + i * rs.length + j) p := pb p (List.mem_of_getElem? k2)
        have hus : us.length = qs.length + rs.length := by rw [fu.len, lw]
        have ha : atI us ((i : Int) + (j : Int)) = some u := by
          rw [eij]
          exact atI_nat k1
        have hix : ixN us.length ((i : Int) + (j : Int)) = some (i + j) := by
          rw [eij]
          unfold ixN
          rw [if_pos (by omega), if_pos (by omega), Int.toNat_natCast]
        have sq : Cb D1 za q := by rw [← eq_]; exact hq.co i
        have sr : Cb D2 zb r := by rw [← er_]; exact hrs.co j
        refine ⟨_, rfl, _, rfl, _, rfl, _, _, rfl, rfl, W, us, _, u, rfl, rfl, SqL.of (s5 _ _ hu), ha, _, rfl, _, rfl, y', y2, q, r, rfl, g3.mono ss, g6.mono ss, ⟨cb_dm sq bd1, cb_dm sr bd2⟩, fun c1 hc1 => ?_⟩
        have s6 := same_new (o := fr (mul q r)) hc1
        refine ⟨u, .ref c1, p, mul q r, rfl, (k3.mono s5).mono s6, Fr.of upd_same, ⟨cb_dm (pm.mono hk) hab, cb_dm (sq.mul sr) (hab.mono (by omega))⟩, fun c2 hc2 => ?_⟩
        have s7 := same_new (o := fr (add p (mul q r))) hc2
        have hu7 := s7 _ _ (s6 _ _ (s5 _ _ hu))
        refine ⟨_, rfl, _, rfl, _, rfl, _, _, rfl, rfl, W, us, _, i + j, rfl, rfl, hu7, hix, ?_⟩
        refine ⟨⟨fun c o e => (upd_ne (ne_of_none e wn)).trans (s7 c o (s6 c o (s5 c o (s4 c o e)))), _, upd_same, ?_⟩, _, _, rfl⟩
        show FrAll K _ _ (List.set _ _ _)
        rw [eu, er_, eq_]
        rw [eq_] at fu
        exact FrAll.set _ (FrAll.off hu7 (((fu.mono s5).mono s6).mono s7)) ((Fr.of upd_same).off hu7)
      · rintro σ H4 ⟨w4, v5, v6, rfl⟩
        rw [ly] at w4
        exact ⟨w4, _, _, _, _, rfl⟩
    · rintro σ H2 ⟨⟨s2, vs, hv, fv⟩, v3, v4, v5, v6, rfl⟩
      have l : vs.length ≤ 1000 := by
        rw [fv.len, stepI_len, List.length_replicate]
        omega
      refine ⟨_, rfl, W, vs, _, rfl, Or.inl (SqL.of hv), fv, l, fun H' p zs s3 st ft => kk H' p (s2.trans s3) ⟨p, zs, rfl, st, ?_⟩⟩
      rw [lx] at ft
      exact ft
end
end Rs


set_option Elab.async false
set_option linter.all false
set_option maxRecDepth 100000
set_option maxHeartbeats 1000000
namespace Cu
open Fq
theorem sm_one (g : Nat → Rat) (k : Nat) : ∀ n, sm (fun l => g l * (if l = k then 1 else 0)) n = if k < n then g k else 0
  | 0 => by simp [sm]
  | n + 1 => by
    have ih := sm_one g k n
    show sm _ n + g n * (if n = k then 1 else 0) = _
    rw [ih]
    by_cases e : n = k
    · subst e
      simp
      grind
    · by_cases h : k < n
      · simp [h, e, show k < n + 1 by omega]
        grind
      · simp [h, e, show ¬ k < n + 1 by omega]
        grind
theorem sm_any {f : Nat → Rat} {a b : Nat} (h : ∀ i, a ≤ i → f i = 0) (g : ∀ i, b ≤ i → f i = 0) : sm f a = sm f b := by
  rcases Nat.le_total a b with e | e
  · obtain ⟨d, rfl⟩ := Nat.le.dest e
    exact (sm_more h d).symm
  · obtain ⟨d, rfl⟩ := Nat.le.dest e
    exact sm_more g d
theorem val_hi {w : List F} {j : Nat} (h : w.length ≤ j) : val (Rs.co w j) = 0 := by rw [Rs.co_ge h, val_zero]
/-- a product, power by power -/
theorem prod_co {D1 D2 : Int} {a b : Nat} {w ms : List F} (hw : Ca D1 a w) (hr : Ca D2 b ms) (j : Nat) :
    val (Rs.co (Rs.trim (Rs.prodN (w.length + ms.length) w ms)) j) = sm (fun i => val (Rs.co w i) * val (Rs.co ms (j - i))) (j + 1) := by
  rw [trim_co]
  obtain ⟨x, y⟩ := prodN_wtC hw hr (Nat.le_succ (w.length + ms.length)) (fun m => if m = j then 1 else 0)
  have e1 : wt (fun m => if m = j then (1 : Rat) else 0) (Rs.prodN (w.length + ms.length) w ms) = val (Rs.co (Rs.prodN (w.length + ms.length) w ms) j) := by
    unfold wt
    rw [sm_one (fun m => val (Rs.co (Rs.prodN (w.length + ms.length) w ms) m)) j]
    split
    · rfl
    · rename_i h
      exact (val_hi (by omega)).symm
  rw [← e1, y]
  have e2 : ∀ i, sm (fun l => val (Rs.co ms l) * (if i + l = j then 1 else 0)) ms.length = if i ≤ j then val (Rs.co ms (j - i)) else 0 := fun i => by
    by_cases h : i ≤ j
    · rw [if_pos h, sm_congr (g := fun l => val (Rs.co ms l) * (if l = j - i then 1 else 0)) (fun l _ => by
        by_cases e : i + l = j
        · rw [if_pos e, if_pos (by omega)]
        · rw [if_neg e, if_neg (by omega)]), sm_one]
      split
      · rfl
      · exact (val_hi (by omega)).symm
    · rw [if_neg h]
      refine sm_zero fun l _ => ?_
      rw [if_neg (by omega)]
      grind
  rw [sm_congr (g := fun i => val (Rs.co w i) * (if i ≤ j then val (Rs.co ms (j - i)) else 0)) (fun i _ => by rw [e2 i])]
  rw [sm_any (a := w.length) (b := j + 1) (fun i hi => by rw [val_hi hi]; grind) (fun i hi => by rw [if_neg (by omega)]; grind)]
  refine sm_congr fun i hi => ?_
  show val _ * (if i ≤ j then _ else 0) = _
  rw [if_pos (by omega)]
/-- the i-th power, to power p -/
structure PW (D : Int) (m : Nat → Rat) (p i : Nat) (w : List F) : Prop where
  l : w.length ≤ p + 1
  c : Ca (D ^ i) (251 * i) w
  v : ∀ j, j ≤ p → val (Rs.co w j) = pw m i j
theorem PW.start (D : Int) (m : Nat → Rat) (p : Nat) : PW D m p 0 [(1, 1)] := by
  refine ⟨by simp, fun q hq => ?_, fun j _ => ?_⟩
  · rw [List.mem_singleton.mp hq]
    exact ⟨⟨by decide, by decide⟩, by rw [val_one, Int.pow_zero]; exact Ov.one⟩
  · cases j with
    | zero => exact val_one
    | succ j => exact val_zero
theorem PW.step {D : Int} {m : Nat → Rat} {p i : Nat} {w : List F} (h : PW D m p i w) (z : Sz D m) (hp : p ≤ 8) : PW D m p (i + 1) ((Rs.trim (Rs.prodN (w.length + (rl m (p + 1)).length) w (rl m (p + 1)))).take (p + 1)) := by
  refine ⟨by rw [List.length_take]; omega, fun q hq => ?_, fun j hj => ?_⟩
  · have := (prodN_wtC h.c (z.ca (p + 1)) (Nat.le_succ (w.length + (rl m (p + 1)).length)) (fun _ => 0)).1 q (Rs.trim_mem (List.mem_of_mem_take hq))
    rw [Int.pow_succ]
    refine this.mono ?_
    rw [rl_len]
    have := Nat.mul_le_mul h.l (Nat.le_refl (p + 1))
    have : (p + 1) * (p + 1) ≤ 9 * 9 := Nat.mul_le_mul (by omega) (by omega)
    omega
  · have e : ∀ T : List F, Rs.co (T.take (p + 1)) j = Rs.co T j := fun T => by
      unfold Rs.co
      rw [List.getD_eq_getElem?_getD, List.getD_eq_getElem?_getD, List.getElem?_take, if_pos (by omega)]
    rw [e, prod_co h.c (z.ca (p + 1)) j]
    show _ = sm _ (j + 1)
    refine sm_congr fun i' hi => ?_
    show val _ * val _ = pw m i i' * m (j - i')
    rw [h.v i' (by omega), rl_co (by omega), rf_val]
end Cu
namespace Rs
open PySem PySem.Spec PyProof.Rows L2 Bs Fq LamX RZ Cu
theorem cut_to' {xs : List V} {k : Nat} : cutV xs none (some (k : Int)) = xs.take k := by
  unfold cutV
  have e : HT.sIx xs.length xs.length (some (k : Int)) = min k xs.length := by
    rw [HT.sIx_nat]
  rw [e]
  show (xs.drop 0).take (min k xs.length - 0) = _
  rw [List.drop_zero, Nat.sub_zero]
  by_cases h : k ≤ xs.length
  · rw [Nat.min_eq_left h]
  · rw [Nat.min_eq_right (by omega), List.take_length, List.take_of_length_le (by omega)]
structure OneG (K : PySem.W.Frag) (mg : Str → Option Value) : Prop where
  ex : ∃ a : Addr, mg "ONE" = some (.ref a) ∧ ∀ H : Hp, SqT K H a [.int 1, .int 1]
abbrev sPP : Stmt := top 65
abbrev NPP : List Str := ["moments", "number", "place", "whole", "_"]
def spPP (K : PySem.W.Frag) : Sp := fun vs H Q _ => ∃ (v : V) (D : Int) (m : Nat → Rat) (L s p : Nat), vs = [v, .int (s : Nat), .int (p : Nat)] ∧ PoL K H v (rl m L) ∧ Sz D m ∧ p < L ∧ L ≤ 9 ∧ s ≤ 8 ∧ ∀ H' u, Same H H' → Fr K H' u (rf (pw m s p)) → Q u H'
section
variable {P : Program} {w : World} {K : PySem.W.Frag} {mg : Str → Option Value} {base : Heap} {f : Addr} {fd : FuncData}
theorem scPP : FnScope NPP ["moments", "number", "place"] (defScope sPP) := ⟨rfl, rfl, rfl, by decide +kernel, rfl, by decide +kernel, by decide +kernel⟩
theorem ok_pp (F : Fun K "power_part" "power_part" sPP f fd) (T : Blt mg) (O : OneG K mg) (PT : Cal P w K mg base 3 "poly_timed" (spPTimedL K)) (AT : Cal P w K mg base 1 "at_power" (spAt K)) : FnOk P w K mg base CX0 4 f fd ["moments", "number", "place"] (spPP K) := by
  refine F.ok scPP (fun vs H Q E h => ?_) (fun cdv A outer s H vs Q E hr h => ?_)
  · obtain ⟨v, D, m, L, s, p, rfl, _⟩ := h
    rfl
  · obtain ⟨v, D, m, L, s, p, rfl, ⟨a, xs, rfl, ga, fa⟩, z, pL, L9, s8, kk⟩ := h
    obtain ⟨og, mog, sog⟩ := O.ex
    refine ⟨_, C8.pss_cut (ps_set (i := 0) scPP.nd rfl (Or.inl rfl) (pe_slice sl_list (pv 0) po_none (po_some (pe_op op_add (pv 2) pe_int))))
      (C8.pss_cut (ps_set (i := 3) scPP.nd rfl (Or.inl rfl) (pe_tup (pa_cons (pe_glob (v := .ref og) (by rfl) mog rfl) pa_nil)))
      (C8.pss_cut (ps_for PassesOwn.never rfl (pi_range1 rfl T.range (pa_cons (pv 1) pa_nil)) (pg_name (i := 4) scPP.nd rfl (Or.inl rfl))
      (pss_one (ps_set (i := 3) scPP.nd rfl (Or.inl rfl) (pe_slice sl_tupA (pe_n PT hr (by decide) (by rfl) (pa_cons (pv 3) (pa_cons (pv 0) pa_nil))) po_none (po_some (pe_op op_add (pv 2) pe_int))))))
      (pss_one (ps_ret (pe_n AT hr (by decide) (by rfl) (pa_cons (pv 3) (pa_cons (pv 2) pa_nil))))))), ?_⟩
    refine ⟨fun σ H1 => ∃ M, Same H H1 ∧ PoL K H1 (.ref M) (rl m (p + 1)) ∧ σ = [some (.ref M), some (.int (s : Nat)), some (.int (p : Nat)), none, none], ?_, ?_⟩
    · refine ⟨_, rfl, _, rfl, _, _, rfl, rfl, _, rfl, a, xs, rfl, SqL.of ga, fun q hq => ?_⟩
      have s1 := same_new (o := .lst (cutV xs none (some ((p : Int) + 1)))) hq
      refine ⟨q, s1, ⟨q, _, rfl, upd_same, ?_⟩, rfl⟩
      rw [show (p : Int) + 1 = ((p + 1 : Nat) : Int) by omega, cut_to']
      have := FrAll.take (p + 1) (fa.mono s1)
      rw [rl_take, Nat.min_eq_left (by omega)] at this
      rw [show (p : Int) + 1 = ((p + 1 : Nat) : Int) by omega, cut_to'] at this
      exact this
    rintro σ H1 ⟨M, s1, pM, rfl⟩
    refine ⟨fun σ H2 => ∃ wv, Same H1 H2 ∧ Po K H2 wv [(1, 1)] ∧ σ = [some (.ref M), some (.int (s : Nat)), some (.int (p : Nat)), some wv, none], ?_, ?_⟩
    · refine ⟨(by show 1 ≤ sizeLine; decide), fun q hq => ⟨_, same_new hq, ⟨q, _, rfl, SqT.of upd_same, .cons ⟨og, rfl, sog _⟩ .nil⟩, rfl⟩⟩
    rintro σ H2 ⟨wv, s2, pw0, rfl⟩
    refine ⟨fun σ H3 => ∃ wv w v4, Same H1 H3 ∧ Po K H3 wv w ∧ PW D m p s w ∧ σ = [some (.ref M), some (.int (s : Nat)), some (.int (p : Nat)), some wv, v4], ?_, ?_⟩
    · refine ⟨_, rfl, _, rfl, by omega, by omega, for_range (n := ((s : Nat) : Int).toNat) (fun i σ H3 => ∃ wv w v4, Same H1 H3 ∧ Po K H3 wv w ∧ PW D m p i w ∧ σ = [some (.ref M), some (.int (s : Nat)), some (.int (p : Nat)), some wv, v4])
        ⟨wv, _, none, s2, pw0, PW.start D m p, rfl⟩ ?_ (fun σ H3 q => q)⟩
      rintro i σ H3 hi ⟨wv, w, v4, s3, po, pi, rfl⟩
      have i7 : i ≤ 7 := by omega
      have hl := pi.l
      refine ⟨_, rfl, _, rfl, wv, _, w, rl m (p + 1), D ^ i, D, 251 * i, 170, rfl, po, pM.mono s3, pi.c, z.ca _, z.bd (by omega) (by omega), (by have := z.bd (s := 1) (n := 170) (by decide) (by decide); rwa [Int.pow_one] at this), (by rw [← Int.pow_succ]; exact z.bd (by omega) (by omega)), by omega, by rw [rl_len]; omega, fun H4 c s4 pc => ?_⟩
      obtain ⟨c', ys, ec, sc, fc⟩ := pc
      cases ec
      refine ⟨_, rfl, _, _, rfl, rfl, _, rfl, ?_⟩
      refine sl_cut (ys := ys.take (p + 1)) sc (by rw [show (p : Int) + 1 = ((p + 1 : Nat) : Int) by omega, cut_to']) fun c2 H5 s5 sc2 => ?_
      exact ⟨_, _, _, s3.trans (s4.trans s5), ⟨c2, _, rfl, sc2, FrAll.take (p + 1) (fc.mono s5)⟩, pi.step z (by omega), rfl⟩
    rintro σ H3 ⟨wv, w, v4, s3, po, pi, rfl⟩
    refine ⟨_, rfl, _, rfl, wv, w, p, rfl, po, fun u fu => kk H3 u (s1.trans s3) ?_⟩
    have e : co w p = rf (pw m s p) := rf_eq (pi.c.co p).ok (pi.v p (Nat.le_refl _))
    rw [← e]
    exact fu
end
end Rs


set_option Elab.async false
set_option linter.all false
set_option maxRecDepth 100000
set_option maxHeartbeats 1000000
namespace Cu
open Fq Pg
theorem pw_has {D : Int} {m : Nat → Rat} (z : Sz D m) {p : Nat} (hp : p ≤ 8) : ∀ s, ∃ w, PW D m p s w
  | 0 => ⟨_, PW.start D m p⟩
  | s + 1 => by
    obtain ⟨w, h⟩ := pw_has z hp s
    exact ⟨_, h.step z hp⟩
theorem pw_ov {D : Int} {m : Nat → Rat} (z : Sz D m) {s p : Nat} (hp : p ≤ 8) : Ov (D ^ s) (251 * s) (pw m s p) := by
  obtain ⟨w, h⟩ := pw_has z hp s
  have := (h.c.co p).v
  rwa [h.v p (Nat.le_refl _)] at this
theorem ov_up {D : Int} {m : Nat → Rat} (z : Sz D m) {s t n : Nat} {x : Rat} (h : Ov (D ^ s) n x) (e : s ≤ t) : Ov (D ^ t) (n + 150 * (t - s)) x := by
  have := h.scale (z.pw (t - s)).2
  rw [← Int.pow_add, Nat.add_sub_cancel' e] at this
  exact this
theorem chs_small : ∀ n ∈ [0, 1, 2, 3, 4, 5, 6, 7], ∀ k ∈ [0, 1, 2, 3, 4, 5, 6, 7], PySem.W.mcComb (n : Nat) (k : Nat) = chs n k ∧ (chs n k).natAbs ≤ 2 ^ 7 := by decide +kernel
theorem chs_cb {n k : Nat} (hn : n ≤ 7) (hk : k ≤ 7) : Cb 1 7 (chs n k, 1) ∧ val (chs n k, 1) = (chs n k : Rat) := by
  have h := chs_small n (by simp; omega) k (by simp; omega)
  have e : val (chs n k, 1) = (chs n k : Rat) := by
    show (chs n k : Rat) / ((1 : Int) : Rat) = _
    rw [show ((1 : Int) : Rat) = 1 from rfl, Rat.div_def]
    grind
  refine ⟨⟨⟨by show (0 : Int) < 1; decide, by show Nat.gcd (chs n k).natAbs 1 = 1; exact Nat.gcd_one_right _⟩, chs n k, ?_, h.2⟩, e⟩
  rw [e]
  show _ * ((1 : Int) : Rat) = _
  rw [show ((1 : Int) : Rat) = 1 from rfl]
  grind
theorem bes_ov (k : Kd) {D : Int} {m : Nat → Rat} (z : Sz D m) {n s : Nat} (s1 : 1 ≤ s) (hs : s ≤ n) (n8 : n ≤ 8) : Ov (D ^ 8) 2008 (bes k m n s) := by
  cases k with
  | free => exact (ov_up z (pw_ov z (p := n - s) (by omega)) (by omega : s ≤ 8)).mono (by omega)
  | all =>
    have h := (chs_cb (n := n - 1) (k := s - 1) (by omega) (by omega)).1.v.mul (z.o (n - s))
    rw [(chs_cb (n := n - 1) (k := s - 1) (by omega) (by omega)).2, Int.one_mul] at h
    have h1 : Ov (D ^ 1) (7 + 170) (bes .all m n s) := by rw [Int.pow_one]; exact h
    exact (ov_up z h1 (by omega : 1 ≤ 8)).mono (by omega)
  | str =>
    have h1 : Ov (D ^ 1) 170 (bes .str m n s) := by rw [Int.pow_one]; exact z.o _
    exact (ov_up z h1 (by omega : 1 ≤ 8)).mono (by omega)
theorem ov_smb {D : Int} {n : Nat} {f : Nat → Rat} : ∀ j, (∀ i, i < j → Ov D n (f i)) → Ov D (n + j) (sm f j)
  | 0, _ => Ov.zero
  | j + 1, h => (ov_smb j fun i hi => h i (by omega)).add ((h j (by omega)).mono (by omega))
theorem mf_ov (k : Kd) {D : Int} {m c : Nat → Rat} (z : Sz D m) (zc : Sz D c) {n j : Nat} (hj : j ≤ n) (n1 : j ≤ 8) (n8 : n ≤ 8) : Ov (D * D ^ 8) (2178 + j) (mf k m c n j) :=
  ov_smb j fun i hi => (zc.o (i + 1)).mul (bes_ov k z (by omega) (by omega) n8)
theorem bd9 {D : Int} {m : Nat → Rat} (z : Sz D m) {n : Nat} (hn : n ≤ 4390) : Rs.Bd (D * D ^ 8) n := by
  have := z.bd (s := 9) (n := n) (by decide) hn
  rwa [show D ^ 9 = D * D ^ 8 by
    show D ^ (8 + 1) = _
    rw [Int.pow_succ, Int.mul_comm]] at this
end Cu
namespace Rs
open PySem PySem.Spec PyProof.Rows L2 Bs Fq LamX RZ Cu Pg
abbrev sBE : Stmt := top 66
abbrev NBE : List Str := ["kind", "moments", "number", "size", "left"]
def spBE (K : PySem.W.Frag) : Sp := fun vs H Q _ => ∃ (k : Kd) (v : V) (D : Int) (m : Nat → Rat) (L n s : Nat), vs = [.str (kdS k), v, .int (n : Nat), .int (s : Nat)] ∧ PoL K H v (rl m L) ∧ Sz D m ∧ 1 ≤ s ∧ s ≤ n ∧ n - s < L ∧ L ≤ 9 ∧ n ≤ 8 ∧ ∀ H' u, Same H H' → Fr K H' u (rf (bes k m n s)) → Q u H'
abbrev sMF : Stmt := top 67
abbrev NMF : List Str := ["kind", "moments", "cumulants", "number", "whole", "k", "cumulant"]
def spMFL (K : PySem.W.Frag) : Sp := fun vs H Q _ => ∃ (k : Kd) (v u : V) (D : Int) (m c : Nat → Rat) (L J n : Nat), vs = [.str (kdS k), v, u, .int (n : Nat)] ∧ PoL K H v (rl m L) ∧ PoL K H u (rl (fun i => c (i + 1)) J) ∧ Sz D m ∧ Sz D c ∧ 1 ≤ n ∧ n ≤ 8 ∧ n ≤ L ∧ L ≤ 9 ∧ J ≤ 8 ∧ ∀ H' u, Same H H' → Fr K H' u (rf (mf k m c n (min n J))) → Q u H'
def spMFT (K : PySem.W.Frag) : Sp := fun vs H Q _ => ∃ (k : Kd) (v u : V) (D : Int) (m c : Nat → Rat) (L J n : Nat), vs = [.str (kdS k), v, u, .int (n : Nat)] ∧ PoL K H v (rl m L) ∧ Po K H u (rl (fun i => c (i + 1)) J) ∧ Sz D m ∧ Sz D c ∧ 1 ≤ n ∧ n ≤ 8 ∧ n ≤ L ∧ L ≤ 9 ∧ J ≤ 8 ∧ ∀ H' u, Same H H' → Fr K H' u (rf (mf k m c n (min n J))) → Q u H'
section
variable {P : Program} {w : World} {K : PySem.W.Frag} {mg : Str → Option Value} {base : Heap} {f : Addr} {fd : FuncData}
theorem scBE : FnScope NBE ["kind", "moments", "number", "size"] (defScope sBE) := ⟨rfl, rfl, rfl, by decide +kernel, rfl, by decide +kernel, by decide +kernel⟩
theorem ok_be (F : Fun K "beside" "beside" sBE f fd) (T : Blt mg) (PP : Cal P w K mg base 4 "power_part" (spPP K)) (TI : Cal P w K mg base 2 "timed" (spOp K mul dom2)) : FnOk P w K mg base CX0 5 f fd ["kind", "moments", "number", "size"] (spBE K) := by
  refine F.ok scBE (fun vs H Q E h => ?_) (fun cdv A outer s H vs Q E hr h => ?_)
  · obtain ⟨k, v, D, m, L, n, s, rfl, _⟩ := h
    rfl
  · obtain ⟨k, v, D, m, L, n, s, rfl, pm, z, s1, sn, nL, L9, n8, kk⟩ := h
    refine ⟨_, C8.pss_cut (ps_set (i := 4) scBE.nd rfl (Or.inl rfl) (pe_op op_sub (pv 2) (pv 3)))
      (pss_cons (ps_if (pt_cmpR op_eq (pv 0) pe_str (nomark _)) (pss_one (ps_ret (pe_n PP hr (by decide) (by rfl) (pa_cons (pv 1) (pa_cons (pv 3) (pa_cons (pv 4) pa_nil)))))) pss_nil)
      (pss_cons (ps_if (pt_cmpR op_eq (pv 0) pe_str (nomark _)) (pss_one (ps_ret (pe_n TI hr (by decide) (by rfl) (pa_cons (pe_tup (pa_cons (pe_callBfun cr_comb (by rfl) T.comb (pa_cons (pe_op op_sub (pv 2) pe_int) (pa_cons (pe_op op_sub (pv 3) pe_int) pa_nil))) (pa_cons pe_int pa_nil))) (pa_cons (pe_ix ix_list (pv 1) (pv 4) (fun _ _ => rfl)) pa_nil))))) pss_nil)
      (pss_one (ps_ret (pe_ix ix_list (pv 1) (pv 4) (fun _ _ => rfl)))))), ?_⟩
    obtain ⟨va, xs, rfl, ga, fa⟩ := id pm
    have el : (n : Int) - (s : Int) = ((n - s : Nat) : Int) := by omega
    refine ⟨fun σ H1 => H1 = H ∧ σ = [some (.str (kdS k)), some (.ref va), some (.int (n : Nat)), some (.int (s : Nat)), some (.int ((n - s : Nat) : Int))], ?_, ?_⟩
    · exact ⟨_, rfl, _, rfl, _, _, rfl, rfl, rfl, by rw [← el]; rfl⟩
    rintro σ H1 ⟨rfl, rfl⟩
    obtain ⟨y, q, g1, g2, g3⟩ := fa.get (i := n - s) (by rw [rl_len]; exact nL)
    rw [rl_get nL] at g2
    cases g2
    refine ⟨_, rfl, rfl, _, rfl, ?_⟩
    cases k with
    | free =>
      refine ite2 (fun _ => ?_) (fun c => absurd (decide_eq_true rfl) c)
      exact ⟨_, rfl, _, rfl, _, rfl, _, D, m, L, s, n - s, rfl, pm, z, nL, L9, by omega, kk⟩
    | all =>
      refine ite2 (fun c => absurd c (by decide +kernel)) (fun _ => ?_)
      refine ⟨_, rfl, rfl, _, rfl, ?_⟩
      refine ite2 (fun _ => ?_) (fun c => absurd (decide_eq_true rfl) c)
      have h1 := chs_small (n - 1) (by simp; omega) (s - 1) (by simp; omega)
      have h2 := chs_cb (n := n - 1) (k := s - 1) (by omega) (by omega)
      refine ⟨_, rfl, _, _, rfl, rfl, _, rfl, _, _, rfl, rfl, _, _, rfl, by omega, by omega, by omega, by omega, ?_⟩
      rw [show (n : Int) - 1 = ((n - 1 : Nat) : Int) by omega, show (s : Int) - 1 = ((s - 1 : Nat) : Int) by omega, h1.1]
      refine ⟨(by show 2 ≤ sizeLine; decide), fun p hp => ?_⟩
      have s1 := same_new (o := .tup [.int (chs (n - 1) (s - 1)), .int 1]) hp
      refine ⟨_, rfl, _, rfl, va, xs, _, y, rfl, rfl, SqL.of (s1 _ _ ga), atI_nat g1, _, _, (chs (n - 1) (s - 1), 1), rf (m (n - s)), rfl, ⟨p, rfl, SqT.of upd_same⟩, g3.mono s1, ⟨cb_dm h2.1 (Bd.of (by decide) (by decide) (by decide) (by decide) (N := 1)), cb_dm (rf_cb (z.o _)) (by have := z.bd (s := 1) (n := 170) (by decide) (by decide); rwa [Int.pow_one] at this)⟩, fun c1 hc1 => ?_⟩
      have s2 := same_new (o := fr (mul (chs (n - 1) (s - 1), 1) (rf (m (n - s))))) hc1
      refine kk _ _ (s1.trans s2) ?_
      have e : mul (chs (n - 1) (s - 1), 1) (rf (m (n - s))) = rf (bes .all m n s) := rf_eq (ok_mul' (by show (0 : Int) < 1; decide) (rf_ok _).1) (by
        rw [val_mul (by show (0 : Int) < 1; decide) (rf_ok _).1, h2.2, rf_val]
        rfl)
      rw [← e]
      exact Fr.of upd_same
    | str =>
      refine ite2 (fun c => absurd c (by decide +kernel)) (fun _ => ?_)
      refine ⟨_, rfl, rfl, _, rfl, ?_⟩
      refine ite2 (fun c => absurd c (by decide +kernel)) (fun _ => ?_)
      exact ⟨_, rfl, _, rfl, va, xs, _, y, rfl, rfl, SqL.of ga, atI_nat g1, kk H1 y (fun _ _ z => z) g3⟩
theorem scMF : FnScope NMF ["kind", "moments", "cumulants", "number"] (defScope sMF) := ⟨rfl, rfl, rfl, by decide +kernel, rfl, by decide +kernel, by decide +kernel⟩
theorem ok_mfL (F : Fun K "moment_from" "moment_from" sMF f fd) (T : Blt mg) (Z : Nou K mg) (en : mg "enumerate" = none) (AD : Cal P w K mg base 2 "added" (spOp K add dom2)) (TI : Cal P w K mg base 2 "timed" (spOp K mul dom2)) (BE : Cal P w K mg base 5 "beside" (spBE K)) : FnOk P w K mg base CX0 6 f fd ["kind", "moments", "cumulants", "number"] (spMFL K) := by
  refine F.ok scMF (fun vs H Q E h => ?_) (fun cdv A outer s H vs Q E hr h => ?_)
  · obtain ⟨k, v, u, D, m, c, L, J, n, rfl, _⟩ := h
    rfl
  · obtain ⟨k, v, u, D, m, c, L, J, n, rfl, pm, ⟨a, xs, rfl, ga, fa⟩, zm, zc, n1, n8, nL, L9, J8, kk⟩ := h
    obtain ⟨z, mz, sz⟩ := Z.ex
    obtain ⟨va, rfl, -⟩ : ∃ a, v = V.ref a ∧ True := by
      obtain ⟨a, _, rfl, _⟩ := pm
      exact ⟨a, rfl, trivial⟩
    refine ⟨_, C8.pss_cut (ps_set (i := 4) scMF.nd rfl (Or.inl rfl) (pe_glob (v := .ref z) (by rfl) mz rfl))
      (C8.pss_cut (ps_for PassesOwn.never rfl (pi_enum (by rfl) en (pa_cons (pe_slice sl_list (pv 2) po_none (po_some (pv 3))) pa_nil)) (pg_tup rfl (pgs_cons (pg_name (i := 5) scMF.nd rfl (Or.inl rfl)) (pgs_cons (pg_name (i := 6) scMF.nd rfl (Or.inl rfl)) pgs_nil)))
      (pss_one (ps_set (i := 4) scMF.nd rfl (Or.inl rfl) (pe_n AD hr (by decide) (by rfl) (pa_cons (pv 4) (pa_cons (pe_n TI hr (by decide) (by rfl) (pa_cons (pv 6) (pa_cons (pe_n BE hr (by decide) (by rfl) (pa_cons (pv 0) (pa_cons (pv 1) (pa_cons (pv 3) (pa_cons (pe_op op_add (pv 5) pe_int) pa_nil))))) pa_nil))) pa_nil))))))
      (pss_one (ps_ret (pv 4)))), ?_⟩
    refine ⟨fun σ H1 => ∃ w, H1 = H ∧ Fr K H w (rf (mf k m c n 0)) ∧ σ = [some (.str (kdS k)), some (.ref va), some (.ref a), some (.int (n : Nat)), some w, none, none], ?_, ?_⟩
    · exact ⟨.ref z, rfl, ⟨z, rfl, sz _⟩, rfl⟩
    rintro σ H1 ⟨w0, rfl, fw0, rfl⟩
    refine ⟨fun σ H2 => ∃ w v5 v6, Same H1 H2 ∧ Fr K H2 w (rf (mf k m c n (min n J))) ∧ σ = [some (.str (kdS k)), some (.ref va), some (.ref a), some (.int (n : Nat)), some w, v5, v6], ?_, ?_⟩
    · refine ⟨_, rfl, _, rfl, _, rfl, a, xs, rfl, SqL.of ga, fun q hq => ?_⟩
      obtain ⟨H2, ys, s2, gq, fy, eH⟩ : ∃ H2 ys, Same H1 H2 ∧ H2 q = some (.lst ys) ∧ FrAll K H2 ys (rl (fun i => c (i + 1)) (min n J)) ∧ upd H1 q (.lst (cutV xs none (some (n : Int)))) = H2 := by
        refine ⟨_, _, same_new hq, upd_same, ?_, rfl⟩
        rw [cut_to']
        have := FrAll.take n (fa.mono (same_new (o := .lst (xs.take n)) hq))
        rw [rl_take] at this
        exact this
      rw [eH]
      have lc : ys.length = min n J := by rw [fy.len, rl_len]
      refine ⟨_, _, rfl, SqL.of gq, ?_⟩
      refine for_it (walk_enum (xs := ys)) (fun i σ H3 => ∃ w v5 v6, Same H2 H3 ∧ Fr K H3 w (rf (mf k m c n i)) ∧ σ = [some (.str (kdS k)), some (.ref va), some (.ref a), some (.int (n : Nat)), some w, v5, v6])
        ⟨w0, none, none, fun _ _ z => z, fw0.mono s2, rfl⟩ (fun i σ H3 _ q => by
          obtain ⟨_, _, _, s3, _⟩ := q
          exact SqL.of (s3 _ _ gq)) ?_ ?_
      · rintro i x σ H3 H4 hi ⟨w, v5, v6, s3, fw, rfl⟩ ⟨T', x', y', rfl, hT, rfl, h1, h2⟩
        cases h1
        have h2' : ys[i]? = some y' := h2
        have il : i < min n J := by omega
        obtain ⟨y2, q, g1, g2, g3⟩ := fy.get (i := i) (by rw [rl_len]; exact il)
        have ey : y2 = y' := by
          rw [g1] at h2'
          exact Option.some.inj h2'
        subst ey
        rw [rl_get il] at g2
        cases g2
        have s4 := same_new (o := .tup [.int (i : Nat), y2]) hT
        have s24 := s3.trans s4
        have b1 := bes_ov k zm (n := n) (s := i + 1) (by omega) (by omega) n8
        refine ⟨T', _, rfl, SqT.of upd_same, rfl, _, _, rfl, _, _, rfl, rfl, ?_⟩
        generalize upd H3 T' (.tup [.int (i : Nat), y2]) = H4 at *
        refine ⟨_, rfl, _, rfl, _, rfl, _, rfl, _, rfl, _, rfl, _, _, rfl, rfl, k, _, D, m, L, n, i + 1, rfl, pm.mono (s2.trans s24), zm, by omega, by omega, by omega, L9, n8, fun H5 u s5 fu => ?_⟩
        refine ⟨y2, u, _, _, rfl, g3.mono (s24.trans s5), fu, ⟨cb_dm (rf_cb (zc.o (i + 1))) (by have := zc.bd (s := 1) (n := 170) (by decide) (by decide); rwa [Int.pow_one] at this), cb_dm (rf_cb b1) (zm.bd (by decide) (by decide))⟩, fun c1 hc1 => ?_⟩
        have s6 := same_new (o := fr (mul (rf (c (i + 1))) (rf (bes k m n (i + 1))))) hc1
        have e1 : mul (rf (c (i + 1))) (rf (bes k m n (i + 1))) = rf (c (i + 1) * bes k m n (i + 1)) := rf_eq (ok_mul' (rf_ok _).1 (rf_ok _).1) (by rw [val_mul (rf_ok _).1 (rf_ok _).1, rf_val, rf_val])
        have b2 := mf_ov k zm zc (n := n) (j := i) (by omega) (by omega) n8
        refine ⟨w, .ref c1, _, _, rfl, (fw.mono (s4.trans s5)).mono s6, Fr.of upd_same, ⟨cb_dm (rf_cb b2) (bd9 zm (by omega)), cb_dm (by rw [e1]; exact rf_cb ((zc.o (i + 1)).mul b1)) (bd9 zm (by omega))⟩, fun c2 hc2 => ?_⟩
        have s7 := same_new (o := fr (add (rf (mf k m c n i)) (mul (rf (c (i + 1))) (rf (bes k m n (i + 1)))))) hc2
        refine ⟨.ref c2, some (.int (i : Nat)), some y2, ((s24.trans s5).trans s6).trans s7, ?_, rfl⟩
        have e2 : add (rf (mf k m c n i)) (mul (rf (c (i + 1))) (rf (bes k m n (i + 1)))) = rf (mf k m c n (i + 1)) := by
          rw [e1]
          exact rf_eq (ok_add' (rf_ok _).1 (rf_ok _).1) (by
            rw [val_add (rf_ok _).1 (rf_ok _).1, rf_val, rf_val]
            rfl)
        rw [← e2]
        exact Fr.of upd_same
      · rintro σ H3 ⟨w, v5, v6, s3, fw, rfl⟩
        rw [lc] at fw
        exact ⟨w, v5, v6, s2.trans s3, fw, rfl⟩
    rintro σ H2 ⟨w, v5, v6, s2, fw, rfl⟩
    exact ⟨_, rfl, kk H2 w s2 fw⟩
theorem ok_mfT (F : Fun K "moment_from" "moment_from" sMF f fd) (T : Blt mg) (Z : Nou K mg) (en : mg "enumerate" = none) (AD : Cal P w K mg base 2 "added" (spOp K add dom2)) (TI : Cal P w K mg base 2 "timed" (spOp K mul dom2)) (BE : Cal P w K mg base 5 "beside" (spBE K)) : FnOk P w K mg base CX0 6 f fd ["kind", "moments", "cumulants", "number"] (spMFT K) := by
  refine F.ok scMF (fun vs H Q E h => ?_) (fun cdv A outer s H vs Q E hr h => ?_)
  · obtain ⟨k, v, u, D, m, c, L, J, n, rfl, _⟩ := h
    rfl
  · obtain ⟨k, v, u, D, m, c, L, J, n, rfl, pm, ⟨a, xs, rfl, ga, fa⟩, zm, zc, n1, n8, nL, L9, J8, kk⟩ := h
    obtain ⟨z, mz, sz⟩ := Z.ex
    obtain ⟨va, rfl, -⟩ : ∃ a, v = V.ref a ∧ True := by
      obtain ⟨a, _, rfl, _⟩ := pm
      exact ⟨a, rfl, trivial⟩
    refine ⟨_, C8.pss_cut (ps_set (i := 4) scMF.nd rfl (Or.inl rfl) (pe_glob (v := .ref z) (by rfl) mz rfl))
      (C8.pss_cut (ps_for PassesOwn.never rfl (EnT.pi_enumT (by rfl) en (pa_cons (pe_slice sl_tupA (pv 2) po_none (po_some (pv 3))) pa_nil)) (pg_tup rfl (pgs_cons (pg_name (i := 5) scMF.nd rfl (Or.inl rfl)) (pgs_cons (pg_name (i := 6) scMF.nd rfl (Or.inl rfl)) pgs_nil)))
      (pss_one (ps_set (i := 4) scMF.nd rfl (Or.inl rfl) (pe_n AD hr (by decide) (by rfl) (pa_cons (pv 4) (pa_cons (pe_n TI hr (by decide) (by rfl) (pa_cons (pv 6) (pa_cons (pe_n BE hr (by decide) (by rfl) (pa_cons (pv 0) (pa_cons (pv 1) (pa_cons (pv 3) (pa_cons (pe_op op_add (pv 5) pe_int) pa_nil))))) pa_nil))) pa_nil))))))
      (pss_one (ps_ret (pv 4)))), ?_⟩
    refine ⟨fun σ H1 => ∃ w, H1 = H ∧ Fr K H w (rf (mf k m c n 0)) ∧ σ = [some (.str (kdS k)), some (.ref va), some (.ref a), some (.int (n : Nat)), some w, none, none], ?_, ?_⟩
    · exact ⟨.ref z, rfl, ⟨z, rfl, sz _⟩, rfl⟩
    rintro σ H1 ⟨w0, rfl, fw0, rfl⟩
    refine ⟨fun σ H2 => ∃ w v5 v6, Same H1 H2 ∧ Fr K H2 w (rf (mf k m c n (min n J))) ∧ σ = [some (.str (kdS k)), some (.ref va), some (.ref a), some (.int (n : Nat)), some w, v5, v6], ?_, ?_⟩
    · refine ⟨_, rfl, _, rfl, _, rfl, ?_⟩
      refine sl_cut (ys := xs.take n) ga cut_to' fun q H2 s2 gq => ?_
      have fy : FrAll K H2 (xs.take n) (rl (fun i => c (i + 1)) (min n J)) := by
        have := FrAll.take n (fa.mono s2)
        rwa [rl_take] at this
      generalize xs.take n = ys at fy gq
      have lc : ys.length = min n J := by rw [fy.len, rl_len]
      refine ⟨_, _, rfl, gq, ?_⟩
      refine for_it (walk_enumT (xs := ys)) (fun i σ H3 => ∃ w v5 v6, Same H2 H3 ∧ Fr K H3 w (rf (mf k m c n i)) ∧ σ = [some (.str (kdS k)), some (.ref va), some (.ref a), some (.int (n : Nat)), some w, v5, v6])
        ⟨w0, none, none, fun _ _ z => z, fw0.mono s2, rfl⟩ (fun i σ H3 _ q => by
          obtain ⟨_, _, _, s3, _⟩ := q
          exact Bs.Same.t s3 gq) ?_ ?_
      · rintro i x σ H3 H4 hi ⟨w, v5, v6, s3, fw, rfl⟩ ⟨T', x', y', rfl, hT, rfl, h1, h2⟩
        cases h1
        have h2' : ys[i]? = some y' := h2
        have il : i < min n J := by omega
        obtain ⟨y2, q, g1, g2, g3⟩ := fy.get (i := i) (by rw [rl_len]; exact il)
        have ey : y2 = y' := by
          rw [g1] at h2'
          exact Option.some.inj h2'
        subst ey
        rw [rl_get il] at g2
        cases g2
        have s4 := same_new (o := .tup [.int (i : Nat), y2]) hT
        have s24 := s3.trans s4
        have b1 := bes_ov k zm (n := n) (s := i + 1) (by omega) (by omega) n8
        refine ⟨T', _, rfl, SqT.of upd_same, rfl, _, _, rfl, _, _, rfl, rfl, ?_⟩
        generalize upd H3 T' (.tup [.int (i : Nat), y2]) = H4 at *
        refine ⟨_, rfl, _, rfl, _, rfl, _, rfl, _, rfl, _, rfl, _, _, rfl, rfl, k, _, D, m, L, n, i + 1, rfl, pm.mono (s2.trans s24), zm, by omega, by omega, by omega, L9, n8, fun H5 u s5 fu => ?_⟩
        refine ⟨y2, u, _, _, rfl, g3.mono (s24.trans s5), fu, ⟨cb_dm (rf_cb (zc.o (i + 1))) (by have := zc.bd (s := 1) (n := 170) (by decide) (by decide); rwa [Int.pow_one] at this), cb_dm (rf_cb b1) (zm.bd (by decide) (by decide))⟩, fun c1 hc1 => ?_⟩
        have s6 := same_new (o := fr (mul (rf (c (i + 1))) (rf (bes k m n (i + 1))))) hc1
        have e1 : mul (rf (c (i + 1))) (rf (bes k m n (i + 1))) = rf (c (i + 1) * bes k m n (i + 1)) := rf_eq (ok_mul' (rf_ok _).1 (rf_ok _).1) (by rw [val_mul (rf_ok _).1 (rf_ok _).1, rf_val, rf_val])
        have b2 := mf_ov k zm zc (n := n) (j := i) (by omega) (by omega) n8
        refine ⟨w, .ref c1, _, _, rfl, (fw.mono (s4.trans s5)).mono s6, Fr.of upd_same, ⟨cb_dm (rf_cb b2) (bd9 zm (by omega)), cb_dm (by rw [e1]; exact rf_cb ((zc.o (i + 1)).mul b1)) (bd9 zm (by omega))⟩, fun c2 hc2 => ?_⟩
        have s7 := same_new (o := fr (add (rf (mf k m c n i)) (mul (rf (c (i + 1))) (rf (bes k m n (i + 1)))))) hc2
        refine ⟨.ref c2, some (.int (i : Nat)), some y2, ((s24.trans s5).trans s6).trans s7, ?_, rfl⟩
        have e2 : add (rf (mf k m c n i)) (mul (rf (c (i + 1))) (rf (bes k m n (i + 1)))) = rf (mf k m c n (i + 1)) := by
          rw [e1]
          exact rf_eq (ok_add' (rf_ok _).1 (rf_ok _).1) (by
            rw [val_add (rf_ok _).1 (rf_ok _).1, rf_val, rf_val]
            rfl)
        rw [← e2]
        exact Fr.of upd_same
      · rintro σ H3 ⟨w, v5, v6, s3, fw, rfl⟩
        rw [lc] at fw
        exact ⟨w, v5, v6, s2.trans s3, fw, rfl⟩
    rintro σ H2 ⟨w, v5, v6, s2, fw, rfl⟩
    exact ⟨_, rfl, kk H2 w s2 fw⟩
end
end Rs


set_option Elab.async false
set_option linter.all false
set_option maxRecDepth 100000
set_option maxHeartbeats 1000000
namespace Cu
open Fq Pg
theorem val_divL {q r : F} (oq : Ok q) (o : Ok r) (h : 0 < r.1) : Ok (Rs.divL q r) ∧ val (Rs.divL q r) = val q / val r := by
  have hp : 0 < q.2 * r.1 := Int.mul_pos oq.1 h
  refine ⟨red_ok hp, ?_⟩
  show val (red _ _) = _
  rw [val_red hp]
  unfold val
  have h1 := ne0 oq.1
  have h2 := ne0 o.1
  have h3 := ne0 h
  rw [Rat.intCast_mul, Rat.intCast_mul]
  grind
/-- a row -/
structure Rwc (ρ : Nat → Rat) (L : Nat) (D : Int) : Prop where
  z : Sz D ρ
  p : 0 < ρ 0
  l1 : 1 ≤ L
  l9 : L ≤ 9
def um (ρ : Nat → Rat) : Nat → Rat := fun i => ρ i / ρ 0
theorem rf_pos {x : Rat} (h : 0 < x) : 0 < (rf x).1 := (val_pos (rf_ok x)).mp (by rw [rf_val]; exact h)
theorem Sz.b1 {D : Int} {m : Nat → Rat} (z : Sz D m) : Rs.Bd D 170 := by
  have := z.bd (s := 1) (n := 170) (by decide) (by decide)
  rwa [Int.pow_one] at this
theorem Sz.dm {D : Int} {m : Nat → Rat} (z : Sz D m) (i : Nat) : Rs.Dm (rf (m i)) := Rs.cb_dm (rf_cb (z.o i)) z.b1
theorem um_eq {ρ : Nat → Rat} (h : 0 < ρ 0) (i : Nat) : Rs.divL (rf (ρ i)) (rf (ρ 0)) = rf (um ρ i) := by
  obtain ⟨a, b⟩ := val_divL (rf_ok (ρ i)) (rf_ok (ρ 0)) (rf_pos h)
  exact rf_eq a (by rw [b, rf_val, rf_val]; rfl)
theorem um_zero {ρ : Nat → Rat} (h : 0 < ρ 0) : um ρ 0 = 1 := by
  unfold um
  have : ρ 0 ≠ 0 := fun z => by
    rw [z] at h
    exact absurd h (by decide)
  grind
theorem chs_diag : ∀ n ∈ [0, 1, 2, 3, 4, 5, 6, 7], chs n n = 1 := by decide
theorem pw_one {m : Nat → Rat} (h : m 0 = 1) : ∀ s, pw m s 0 = 1
  | 0 => rfl
  | s + 1 => by
    show (0 : Rat) + pw m s 0 * m 0 = 1
    rw [pw_one h s, h]
    grind
theorem bes_diag (k : Kd) {m : Nat → Rat} (h : m 0 = 1) {n : Nat} (n1 : 1 ≤ n) (n8 : n ≤ 8) : bes k m n n = 1 := by
  cases k with
  | free =>
    show pw m n (n - n) = 1
    rw [Nat.sub_self]
    exact pw_one h n
  | all =>
    show (chs (n - 1) (n - 1) : Rat) * m (n - n) = 1
    rw [Nat.sub_self, h, chs_diag (n - 1) (by simp; omega)]
    grind
  | str =>
    show m (n - n) = 1
    rw [Nat.sub_self, h]
theorem mf_last (k : Kd) {m c : Nat → Rat} (h : m 0 = 1) {i : Nat} (n8 : i + 1 ≤ 8) : mf k m c (i + 1) (i + 1) = mf k m c (i + 1) i + c (i + 1) := by
  show mf k m c (i + 1) i + c (i + 1) * bes k m (i + 1) (i + 1) = _
  rw [bes_diag k h (by omega) n8]
  grind
end Cu
namespace Rs
open PySem PySem.Spec PyProof.Rows L2 Bs Fq LamX RZ Cu Pg
theorem rowD_rl {ρ : Nat → Rat} {L : Nat} (p : 0 < ρ 0) (l1 : 1 ≤ L) (l9 : L ≤ 9) : rowD (dP (rl ρ L)) = true := by
  have e : fracsD 9 (dP (rl ρ L)) = true := by
    show (decide ((((rl ρ L).map dF).length : Int) ≤ 9) && ((rl ρ L).map dF).all fracD) = true
    rw [all_frac_of (fun q hq => by
      obtain ⟨i, _, rfl⟩ := List.mem_map.mp hq
      exact rf_ok _), List.length_map, rl_len, decide_eq_true (by omega)]
    rfl
  rw [rowD, e, Bool.true_and]
  obtain ⟨L, rfl⟩ : ∃ J, L = J + 1 := ⟨L - 1, by omega⟩
  unfold rl
  rw [List.range_succ_eq_map, List.map_cons]
  exact decide_eq_true (rf_pos p)
theorem fracs_rl {c : Nat → Rat} {L : Nat} (l8 : L ≤ 8) : fracsD 8 (dP (rl c L)) = true := by
  show (decide ((((rl c L).map dF).length : Int) ≤ 8) && ((rl c L).map dF).all fracD) = true
  rw [all_frac_of (fun q hq => by
    obtain ⟨i, _, rfl⟩ := List.mem_map.mp hq
    exact rf_ok _), List.length_map, rl_len, decide_eq_true (by omega)]
  rfl
structure MostC (mg : Str → Option Value) : Prop where
  ex : ∃ t, mg "MOST" = some (.int 8 t)
abbrev sUM : Stmt := top 68
abbrev sCB : Stmt := top 69
abbrev sCO : Stmt := top 70
abbrev NCB : List Str := ["row", "kind", "moments", "cumulants", "number"]
abbrev NRB : List Str := ["total", "cumulants", "kind", "moments", "number", "moment"]
def spUM (K : PySem.W.Frag) : Sp := fun vs H Q _ => ∃ (v : V) (ρ : Nat → Rat) (L : Nat) (D : Int), vs = [v] ∧ Po K H v (rl ρ L) ∧ Rwc ρ L D ∧ ∀ H' a, Same H H' → PoL K H' (.ref a) (rl (um ρ) L) → Q (.ref a) H'
/-- of what there are cumulants, by what kind -/
def CuHyp (k : Kd) (ρ c : Nat → Rat) (L : Nat) (D E : Int) : Prop := Rwc ρ L D ∧ Sz E (um ρ) ∧ Sz E c ∧ ∀ n, 1 ≤ n → n < L → mf k (um ρ) c n n = um ρ n
def spCB (K : PySem.W.Frag) : Sp := fun vs H Q _ => ∃ (v : V) (k : Kd) (ρ c : Nat → Rat) (L : Nat) (D E : Int), vs = [v, .str (kdS k)] ∧ Po K H v (rl ρ L) ∧ CuHyp k ρ c L D E ∧ ∀ H' a, Same H H' → Po K H' (.ref a) (rl (fun i => c (i + 1)) (L - 1)) → Q (.ref a) H'
def RbHyp (k : Kd) (t : Rat) (m c : Nat → Rat) (L : Nat) (E : Int) : Prop := Sz E m ∧ Sz E c ∧ m 0 = 1 ∧ 0 < t ∧ Dm (rf t) ∧ L ≤ 8 ∧ ∀ n, 1 ≤ n → n ≤ L → mf k m c n n = m n
def spRB (K : PySem.W.Frag) : Sp := fun vs H Q _ => ∃ (u v : V) (k : Kd) (t : Rat) (m c : Nat → Rat) (L : Nat) (E : Int), vs = [u, v, .str (kdS k)] ∧ Fr K H u (rf t) ∧ Po K H v (rl (fun i => c (i + 1)) L) ∧ RbHyp k t m c L E ∧ ∀ H' a, Same H H' → Po K H' (.ref a) (rl (fun i => t * m i) (L + 1)) → Q (.ref a) H'
def spNR0 (K : PySem.W.Frag) : Sp := fun vs H Q _ => ∃ (v : V) (d : PyData), vs = [v] ∧ Dp K H v d ∧ rowD d = true ∧ ∀ H', Same H H' → Q v H'
def spNP0 (K : PySem.W.Frag) : Sp := fun vs H Q _ => ∃ (v : V) (d : PyData), vs = [v] ∧ Dp K H v d ∧ posD d = true ∧ Q v H
def spNC0 (K : PySem.W.Frag) : Sp := fun vs H Q _ => ∃ (v : V) (d : PyData), vs = [v] ∧ Dp K H v d ∧ fracsD 8 d = true ∧ ∀ H', Same H H' → Q .non H'
section
variable {P : Program} {w : World} {K : PySem.W.Frag} {mg : Str → Option Value} {base : Heap} {f : Addr} {fd : FuncData}
theorem ok_needRow0 (F : Fun K "need_row" "need_row" sNeedRow f fd) (IR : Cal P w K mg base 4 "is_row" (spIsRow K)) : FnOk P w K mg base CX0 5 f fd ["thing"] (spNR0 K) := by
  refine F.ok scNeedRow (fun vs H Q E h => ?_) (fun cdv A outer s H vs Q E hr h => ?_)
  · obtain ⟨v, d, rfl, _⟩ := h
    rfl
  · obtain ⟨v, d, rfl, hd, e, kk⟩ := h
    refine ⟨_, pss_cons (ps_if (pt_not (pt_val (pe_n IR hr (by decide) (by rfl) (pa_cons (pv 0) pa_nil)))) (pss_one ps_never) pss_nil)
      (pss_one (ps_ret (pv 0))), ?_⟩
    refine ⟨_, rfl, v, d, rfl, hd, fun H1 s1 => ⟨_, rfl, ?_⟩⟩
    rw [e]
    exact iteF ⟨_, rfl, kk H1 s1⟩
theorem scUM : FnScope ["row", "moment"] ["row"] (defScope sUM) := ⟨rfl, rfl, rfl, by decide +kernel, rfl, by decide +kernel, by decide +kernel⟩
theorem ok_um (F : Fun K "unit_moments" "unit_moments" sUM f fd) (DI : Cal P w K mg base 2 "divided" (spOp K divL domP)) : FnOk P w K mg base CX0 3 f fd ["row"] (spUM K) := by
  refine F.ok scUM (fun vs H Q E h => ?_) (fun cdv A outer s H vs Q E hr h => ?_)
  · obtain ⟨v, ρ, L, D, rfl, _⟩ := h
    rfl
  · obtain ⟨v, ρ, L, D, rfl, ⟨a, xs, rfl, sx, fx⟩, R, kk⟩ := h
    have lx := fx.len
    rw [rl_len] at lx
    have l1 := R.l1
    have l9 := R.l9
    obtain ⟨y0, q0, g0, g1, f0⟩ := fx.get (i := 0) (by rw [rl_len]; exact l1)
    rw [rl_get l1] at g1
    cases g1
    refine ⟨_, pss_one (ps_ret (pe_lc (own := [("moment", 1)]) (g := gName 1) (tt := tYes) rfl scUM.nd (pi_tup (pv 0)) (blkOk_by (N := ["row", "moment"]) (sc := defScope sUM) (by decide +kernel))
          (fun _ _ _ _ _ => pg_name (i := 1) scUM.nd rfl (Or.inl rfl)) (fun _ _ _ _ _ => pts_nil)
          (fun _ _ _ _ _ => (pe_n DI hr (by decide) (by rfl) (pa_cons (pv 1) (pa_cons (pe_ix (r := rIxT K) ix_tup (pv 0) pe_int (fun _ _ => rfl)) pa_nil)))))), ?_⟩
    refine ⟨_, rfl, a, rfl, ⟨_, sx⟩, fun D hD => lc_tup (K := K) (a := a) (xs := xs) (fun i H2 => Same H H2 ∧ ∃ vs, H2 D = some (.lst vs) ∧ FrAll K H2 vs (rl (um ρ) i)) ⟨same_new hD, [], upd_same, .nil⟩ (fun i H2 _ z => Bs.Same.t z.1 sx) ?_ ?_⟩
    · rintro i x H2 hx ⟨s2, vs, hD2, fv⟩
      have hi : i < xs.length := (List.getElem?_eq_some_iff.mp hx).1
      obtain ⟨y, q, g2, g3, g4⟩ := fx.get (i := i) (by rw [rl_len]; omega)
      rw [hx] at g2
      cases g2
      rw [rl_get (by omega)] at g3
      cases g3
      have lv := fv.len
      rw [rl_len] at lv
      refine ⟨rfl, ?_⟩
      refine iteT (B := Same H H2 ∧ ∃ vs, H2 D = some (.lst vs) ∧ FrAll K H2 vs (rl (um ρ) (i + 1))) ?_
      refine ⟨_, rfl, _, rfl, a, xs, _, y0, rfl, rfl, Bs.Same.t s2 sx, atI_nat (j := 0) g0, x, y0, _, _, rfl, g4.mono s2, f0.mono s2, ⟨R.z.dm i, R.z.dm 0, rf_pos R.p⟩, fun p hp => ?_⟩
      have s3 := same_new (o := fr (divL (rf (ρ i)) (rf (ρ 0)))) hp
      have g5 := s3 _ _ hD2
      refine ⟨vs, g5, small1000 (by omega), fun c o e => (upd_ne (ne_of_none e hD)).trans (s3 c o (s2 c o e)), _, upd_same, ?_⟩
      rw [rl_succ, ← um_eq R.p i]
      exact (FrAll.off g5 (fv.mono s3)).snoc ((Fr.of upd_same).off g5)
    · rintro H2 ⟨s2, vs, hD2, fv⟩
      rw [lx] at fv
      exact kk H2 D s2 ⟨D, vs, rfl, hD2, fv⟩
theorem scCB : FnScope NCB ["row", "kind"] (defScope sCB) := ⟨rfl, rfl, rfl, by decide +kernel, rfl, by decide +kernel, by decide +kernel⟩
theorem ok_cb (F : Fun K "cumulants_by" "cumulants_by" sCB f fd) (T : Blt mg) (UM : Cal P w K mg base 3 "unit_moments" (spUM K)) (MF : Cal P w K mg base 6 "moment_from" (spMFL K)) (LE : Cal P w K mg base 2 "lessened" (spOp K sub dom2)) : FnOk P w K mg base CX0 7 f fd ["row", "kind"] (spCB K) := by
  refine F.ok scCB (fun vs H Q E h => ?_) (fun cdv A outer s H vs Q E hr h => ?_)
  · obtain ⟨v, k, ρ, c, L, D, E, rfl, _⟩ := h
    rfl
  · obtain ⟨v, k, ρ, c, L, D, E, rfl, ⟨a, xs, rfl, sx, fx⟩, ⟨R, zm, zc, hm⟩, kk⟩ := h
    have lx := fx.len
    rw [rl_len] at lx
    have l1 := R.l1
    have l9 := R.l9
    have m0 := um_zero R.p
    refine ⟨_, C8.pss_cut (ps_set (i := 2) scCB.nd rfl (Or.inl rfl) (pe_n UM hr (by decide) (by rfl) (pa_cons (pv 0) pa_nil)))
      (C8.pss_cut (ps_set (i := 3) scCB.nd rfl (Or.inl rfl) (pe_lst pa_nil))
      (C8.pss_cut (ps_for PassesOwn.never rfl (pi_range2 rfl T.range (pa_cons pe_int (pa_cons (pe_callB call_len_seq (by rfl) T.len (by decide +kernel) (pa_cons (pv 0) pa_nil)) pa_nil))) (pg_name (i := 4) scCB.nd rfl (Or.inl rfl))
      (pss_one (ps_expr (pe_bm PySem.F.plainAttrs_list PySem.F.slot_list_append PySem.F.type_list_append mt_append (pv 3) (pa_cons (pe_n LE hr (by decide) (by rfl) (pa_cons (pe_ix ix_list (pv 2) (pv 4) (fun _ _ => rfl)) (pa_cons (pe_n MF hr (by decide) (by rfl) (pa_cons (pv 1) (pa_cons (pv 2) (pa_cons (pv 3) (pa_cons (pv 4) pa_nil))))) pa_nil))) pa_nil)))))
      (pss_one (ps_ret (pe_callTy call_tuple_of (by rfl) T.tuple (by decide +kernel) (pa_cons (pv 3) pa_nil)))))), ?_⟩
    refine ⟨fun σ H1 => ∃ M, Same H H1 ∧ PoL K H1 (.ref M) (rl (um ρ) L) ∧ σ = [some (.ref a), some (.str (kdS k)), some (.ref M), none, none], ?_, ?_⟩
    · exact ⟨_, rfl, _, ρ, L, D, rfl, ⟨a, xs, rfl, sx, fx⟩, R, fun H1 M s1 pM => ⟨M, s1, pM, rfl⟩⟩
    rintro σ H1 ⟨M, s1, pM, rfl⟩
    refine ⟨fun σ H2 => ∃ C, Same H1 H2 ∧ H1 C = none ∧ H2 C = some (.lst []) ∧ σ = [some (.ref a), some (.str (kdS k)), some (.ref M), some (.ref C), none], ?_, ?_⟩
    · exact ⟨(by show 0 ≤ sizeLine; decide), fun C hC => ⟨C, same_new hC, hC, upd_same, rfl⟩⟩
    rintro σ H2 ⟨C, s2, nC, gC, rfl⟩
    refine ⟨fun σ H3 => ∃ vs v4, Same H1 H3 ∧ H3 C = some (.lst vs) ∧ FrAll K H3 vs (rl (fun i => c (i + 1)) (L - 1)) ∧ σ = [some (.ref a), some (.str (kdS k)), some (.ref M), some (.ref C), v4], ?_, ?_⟩
    · refine ⟨_, rfl, a, xs, rfl, .inr (Bs.Same.t (s1.trans s2) sx), _, _, rfl, ⟨by omega, by omega, by omega, by omega⟩, for_range (lo := 1) (n := ((xs.length : Int) - 1).toNat) (fun i σ H3 => ∃ vs v4, Same H1 H3 ∧ H3 C = some (.lst vs) ∧ FrAll K H3 vs (rl (fun i => c (i + 1)) i) ∧ σ = [some (.ref a), some (.str (kdS k)), some (.ref M), some (.ref C), v4])
        ⟨[], none, s2, gC, .nil, rfl⟩ ?_ ?_⟩
      · rintro i σ H3 hi ⟨vs, v4, s3, gC3, fv, rfl⟩
        have es : (1 : Int) + (i : Nat) = ((i + 1 : Nat) : Int) := by omega
        rw [es]
        have il : i + 1 < L := by omega
        have lv := fv.len
        rw [rl_len] at lv
        obtain ⟨Ma, ms, eM, gM, fM⟩ := pM.mono s3
        cases eM
        obtain ⟨y, q, g2, g3, g4⟩ := fM.get (i := i + 1) (by rw [rl_len]; exact il)
        rw [rl_get il] at g3
        cases g3
        refine ⟨_, rfl, .inl ⟨rfl, _, SqL.of gC3⟩, _, rfl, _, rfl, M, ms, _, y, rfl, rfl, SqL.of gM, atI_nat g2, _, rfl, _, rfl, _, rfl, _, rfl, k, _, _, E, um ρ, c, L, i, i + 1, rfl, pM.mono s3, ⟨C, vs, rfl, gC3, fv⟩, zm, zc, by omega, by omega, by omega, l9, by omega, fun H4 u s4 fu => ?_⟩
        rw [Nat.min_eq_right (by omega)] at fu
        refine ⟨y, u, _, _, rfl, g4.mono s4, fu, ⟨zm.dm _, cb_dm (rf_cb (mf_ov k zm zc (by omega) (by omega) (by omega))) (bd9 zm (by omega))⟩, fun p hp => ?_⟩
        have s5 := same_new (o := fr (sub (rf (um ρ (i + 1))) (rf (mf k (um ρ) c (i + 1) i)))) hp
        have e1 : sub (rf (um ρ (i + 1))) (rf (mf k (um ρ) c (i + 1) i)) = rf (c (i + 1)) := rf_eq (ok_sub' (rf_ok _).1 (rf_ok _).1) (by
          rw [val_sub (rf_ok _).1 (rf_ok _).1, rf_val, rf_val, ← hm (i + 1) (by omega) il, mf_last k m0 (by omega)]
          grind)
        have g6 := s5 _ _ (s4 _ _ gC3)
        refine ⟨C, vs, _, rfl, rfl, g6, small1000 (by omega), _, _, fun b o e => (upd_ne (ne_of_none e nC)).trans (s5 b o (s4 b o (s3 b o e))), upd_same, ?_, rfl⟩
        rw [rl_succ, ← e1]
        exact (FrAll.off g6 ((fv.mono s4).mono s5)).snoc ((Fr.of upd_same).off g6)
      · rintro σ H3 ⟨vs, v4, s3, gC3, fv, rfl⟩
        rw [show ((xs.length : Int) - 1).toNat = L - 1 by omega] at fv
        exact ⟨vs, v4, s3, gC3, fv, rfl⟩
    rintro σ H3 ⟨vs, v4, s3, gC3, fv, rfl⟩
    refine ⟨_, rfl, C, vs, rfl, .inl ⟨SqL.of gC3, fun p hp => ?_⟩⟩
    have s4 := same_new (o := .tup vs) hp
    exact kk _ p ((s1.trans s3).trans s4) ⟨p, vs, rfl, SqT.of upd_same, fv.mono s4⟩
theorem scCO : FnScope ["row", "kind"] ["row", "kind"] (defScope sCO) := ⟨rfl, rfl, rfl, by decide +kernel, rfl, by decide +kernel, by decide +kernel⟩
theorem ok_co (F : Fun K "cumulants_of" "cumulants_of" sCO f fd) (NR : Cal P w K mg base 5 "need_row" (spNR0 K)) (CB : Cal P w K mg base 7 "cumulants_by" (spCB K)) (NK : Cal P w K mg base 1 "need_kind" spNeedKind) : FnOk P w K mg base CX0 8 f fd ["row", "kind"] (spCB K) := by
  refine F.ok scCO (fun vs H Q E h => ?_) (fun cdv A outer s H vs Q E hr h => ?_)
  · obtain ⟨v, k, ρ, c, L, D, E, rfl, _⟩ := h
    rfl
  · obtain ⟨v, k, ρ, c, L, D, E, rfl, po, hy, kk⟩ := h
    refine ⟨_, pss_cons (ps_expr (pe_n NR hr (by decide) (by rfl) (pa_cons (pv 0) pa_nil)))
      (pss_one (ps_ret (pe_n CB hr (by decide) (by rfl) (pa_cons (pv 0) (pa_cons (pe_n NK hr (by decide) (by rfl) (pa_cons (pv 1) pa_nil)) pa_nil))))), ?_⟩
    exact ⟨_, rfl, v, _, rfl, po.dp, rowD_rl hy.1.p hy.1.l1 hy.1.l9, fun H1 s1 => ⟨_, rfl, _, rfl, k, rfl, v, k, ρ, c, L, D, E, rfl, Po.mono s1 po, hy, fun H2 a s2 q => kk H2 a (s1.trans s2) q⟩⟩
end
end Rs


set_option Elab.async false
set_option linter.all false
set_option maxRecDepth 100000
set_option maxHeartbeats 1000000
namespace Cu
open Fq Pg Rs
theorem fold_pT (g : Nat → Rat) : ∀ (ls : List Nat) (w : Rat), ls.foldl (fun w l => w * g l) w = w * pT g ls
  | [], w => by show w = w * 1; grind
  | l :: ls, w => by
    show ls.foldl _ (w * g l) = w * (pT g ls * g l)
    rw [fold_pT g ls]
    grind
def pl (g : Nat → Rat) (p : Prt) (i : Nat) : Rat := ((lns p).take i).foldl (fun w l => w * g l) 1
theorem lns_get {p : Prt} {i : Nat} {b : Blk} (h : p[i]? = some b) : (lns p)[i]? = some b.length := by
  unfold lns
  rw [List.getElem?_map, h]
  rfl
theorem pl_succ {g : Nat → Rat} {p : Prt} {i : Nat} {b : Blk} (h : p[i]? = some b) : pl g p (i + 1) = pl g p i * g b.length := by
  unfold pl
  have h2 := lns_get h
  rw [List.take_succ, h2, List.foldl_append]
  rfl
theorem pl_all (g : Nat → Rat) (p : Prt) : pl g p p.length = pT g (lns p) := by
  unfold pl
  rw [List.take_of_length_le (by unfold lns; rw [List.length_map]; exact Nat.le_refl _), fold_pT]
  grind
theorem sumS_perm (c : Nat → Rat) {a b : List (Int × List Nat)} (h : a.Perm b) : sumS c a = sumS c b := by
  induction h with
  | nil => rfl
  | cons x _ ih => show sumS c _ + _ = sumS c _ + _; rw [ih]
  | swap x y l => show sumS c l + _ + _ = sumS c l + _ + _; grind
  | trans _ _ h1 h2 => rw [h1, h2]
/-- what is summed so far -/
def su (f : Prt → Rat) (ps : List Prt) (i : Nat) : Rat := (ps.take i).foldl (fun w p => w + f p) 0
theorem su_succ {f : Prt → Rat} {ps : List Prt} {i : Nat} {p : Prt} (h : ps[i]? = some p) : su f ps (i + 1) = su f ps i + f p := by
  unfold su
  rw [List.take_succ, h, List.foldl_append]
  rfl
theorem foldl_S (k : Kd) (c : Nat → Rat) : ∀ (ps : List Prt) (w : Rat), ps.foldl (fun w p => w + (signB k p : Rat) * pT c (lns p)) w = w + sumS c (ps.map fun p => (signB k p, lns p))
  | [], w => by show w = w + 0; grind
  | p :: ps, w => by
    show ps.foldl _ (w + _) = w + (sumS c _ + _)
    rw [foldl_S k c ps]
    grind
theorem su_S (k : Kd) (c : Nat → Rat) (n : Nat) : su (fun p => (signB k p : Rat) * pT c (lns p)) (sortW (partsOf k n)) (sortW (partsOf k n)).length = Sk k c n := by
  unfold su Sk
  rw [List.take_length, foldl_S, sumS_perm c ((sortW_perm (partsOf k n)).map _)]
  grind
/-- blocks and their sizes -/
def blkOk (n : Nat) (p : Prt) : Bool := decide (p.length ≤ 8) && p.all fun b => decide (1 ≤ b.length) && decide (b.length ≤ n)
theorem blk_all : ∀ n ∈ [0, 1, 2, 3, 4, 5, 6], ∀ k ∈ kds, (partsOf k n).all (blkOk n) = true := by decide +kernel
theorem sgn_all : ∀ n ∈ [0, 1, 2, 3, 4, 5], ∀ k ∈ kds, (partsOf k n).all (fun p => gdB p && decide ((signB k p).natAbs ≤ 32)) = true := by decide +kernel
theorem kd_mem (k : Kd) : k ∈ kds := by cases k <;> decide
theorem blk_at {n : Nat} {k : Kd} (hn : n ≤ 6) {p : Prt} (h : p ∈ sortW (partsOf k n)) : p.length ≤ 8 ∧ ∀ b ∈ p, 1 ≤ b.length ∧ b.length ≤ n := by
  have h1 := List.all_eq_true.mp (blk_all n (by simp; omega) k (kd_mem k)) p ((sortW_perm _).mem_iff.mp h)
  unfold blkOk at h1
  rw [Bool.and_eq_true, decide_eq_true_eq, List.all_eq_true] at h1
  refine ⟨h1.1, fun b hb => ?_⟩
  have := h1.2 b hb
  rwa [Bool.and_eq_true, decide_eq_true_eq, decide_eq_true_eq] at this
theorem sgn_at {n : Nat} {k : Kd} (hn : n ≤ 5) {p : Prt} (h : p ∈ sortW (partsOf k n)) : gdB p = true ∧ (signB k p).natAbs ≤ 32 := by
  have h1 := List.all_eq_true.mp (sgn_all n (by simp; omega) k (kd_mem k)) p ((sortW_perm _).mem_iff.mp h)
  rwa [Bool.and_eq_true, decide_eq_true_eq] at h1
theorem int_cb {x : Int} {b : Nat} (h : x.natAbs ≤ 2 ^ b) : Cb 1 b (x, 1) ∧ val (x, 1) = (x : Rat) := by
  have e : val (x, 1) = (x : Rat) := by
    show (x : Rat) / ((1 : Int) : Rat) = _
    rw [show ((1 : Int) : Rat) = 1 from rfl, Rat.div_def]
    grind
  refine ⟨⟨⟨by show (0 : Int) < 1; decide, by show Nat.gcd x.natAbs 1 = 1; exact Nat.gcd_one_right _⟩, x, ?_, h⟩, e⟩
  rw [e]
  show _ * ((1 : Int) : Rat) = _
  rw [show ((1 : Int) : Rat) = 1 from rfl]
  grind
end Cu
namespace Rs
open PySem PySem.Spec PyProof.Rows L2 Bs Fq LamX RZ Cu Pg
structure MostN (mg : Str → Option Value) : Prop where
  ex : ∃ t, mg "MOST_NUMBERS" = some (.int 7 t)
/-- a cumulant is told by its number, one for the empty block -/
def g1 (c : Nat → Rat) : Nat → Rat := fun i => if i = 0 then 1 else c i
end Rs


set_option Elab.async false
set_option linter.all false
set_option maxRecDepth 100000
set_option maxHeartbeats 400000
namespace Dd
open PySem L2 Bs
abbrev RQ := L2.St → Hp → Prop
def tV (K : PySem.W.Frag) (R : RQ) (d : PyData) : TE := fun σ H Q => R σ H ∧ ∀ v H', Same H H' → Dp K H' v d → Q v H'
def tVs (K : PySem.W.Frag) (R : RQ) (ds : List PyData) : TA := fun σ H Q => R σ H ∧ ∀ vs H', Same H H' → DpAll K H' vs ds → Q vs H'
def rT : RQ := fun _ _ => True
def rS (K : PySem.W.Frag) (i : Nat) (d : PyData) : RQ := fun σ H => ∃ v, σ[i]? = some (some v) ∧ Dp K H v d
def rA (R S : RQ) : RQ := fun σ H => R σ H ∧ S σ H
def Mo (R : RQ) : Prop := ∀ σ H H', Same H H' → R σ H → R σ H'
theorem mo_T : Mo rT := fun _ _ _ _ _ => trivial
theorem mo_S {K : PySem.W.Frag} {i : Nat} {d : PyData} : Mo (rS K i d) := fun _ _ _ e ⟨v, h, g⟩ => ⟨v, h, dp_same e d v g⟩
theorem mo_A {R S : RQ} (h : Mo R) (g : Mo S) : Mo (rA R S) := fun σ H H' e ⟨a, b⟩ => ⟨h σ H H' e a, g σ H H' e b⟩
theorem reps_dp {K : PySem.W.Frag} {H : Hp} {xs : List V} {ds : List PyData} (h : DpAll K H xs ds) : ∀ n, DpAll K H (List.replicate n xs).flatten (List.replicate n ds).flatten
  | 0 => .nil
  | n + 1 => by
    rw [List.replicate_succ, List.flatten_cons, List.replicate_succ, List.flatten_cons]
    exact dps_app h (reps_dp h n)
section
variable {X : Cx} {e a b : Expr} {es : List Expr} {d : PyData} {ds bs : List PyData} {pos : Pos} {R S : RQ} {i : Nat}
theorem vd_g (he : PE X e (tD X.K d)) : PE X e (tV X.K rT d) := pe_to he fun _ _ _ h => h.2
theorem vd_v (he : PE X e (tVar i)) : PE X e (tV X.K (rS X.K i d) d) := pe_to he fun _ H _ ⟨⟨v, h, g⟩, q⟩ => ⟨v, h, q v H (fun _ _ z => z) g⟩
theorem vd_nil : PA X [] (tVs X.K rT []) := pa_to pa_nil fun _ H _ h => h.2 _ H (fun _ _ z => z) .nil
theorem vd_cons (he : PE X e (tV X.K R d)) (hr : PA X es (tVs X.K S ds)) (m : Mo S) (hs : starEach (e :: es) X.env = (false, eval e X.env) :: starEach es X.env := by rfl) : PA X (e :: es) (tVs X.K (rA R S) (d :: ds)) :=
  pa_to (pa_cons he hr hs) fun σ H _ h => ⟨h.1.1, fun x H1 s1 dx => ⟨m σ H H1 s1 h.1.2, fun xs H2 s2 dxs => h.2 (x :: xs) H2 (s1.trans s2) (.cons (dp_same s2 d x dx) dxs)⟩⟩
theorem vd_tup {x1} (ha : PA X es (tVs X.K R ds)) (hl : ds.length ≤ 1000 := by decide) : PE X (.Tuple es x1 pos) (tV X.K R (.tuple ds)) :=
  pe_to (pe_tup ha) fun _ _ _ h => ⟨h.1, fun xs H1 s1 dxs => ⟨Nat.le_of_lt (small_line (by rw [dps_len dxs]; exact hl)), fun p hp => h.2 (.ref p) _ (s1.trans (same_new hp)) (.tup (SqT.of upd_same) (dps_same (same_new hp) ds xs dxs))⟩⟩
theorem vd_lst (ha : PA X es (tVs X.K R ds)) (hl : ds.length ≤ 1000 := by decide) : PE X (.List es pos) (tV X.K R (.list ds)) :=
  pe_to (pe_lst ha) fun _ _ _ h => ⟨h.1, fun xs H1 s1 dxs => ⟨Nat.le_of_lt (small_line (by rw [dps_len dxs]; exact hl)), fun p hp => h.2 (.ref p) _ (s1.trans (same_new hp)) (.lst (SqL.of upd_same) (dps_same (same_new hp) ds xs dxs))⟩⟩
theorem vd_rep {n : Int} {j : Nat} {p2 : Pos} (he : PE X a (tV X.K R (.tuple ds))) (h2 : 2 ≤ n := by decide) (hn : n ≤ 1000 := by decide) (hd : ds ≠ [] := by simp) (hl : ds.length ≤ 1000 := by decide) :
    PE X (.BinOp a .Mult (.Constant (.int n) j p2) pos) (tV X.K R (.tuple (List.replicate n.toNat ds).flatten)) :=
  pe_to (pe_op op_repT he pe_int) fun _ H _ h => ⟨h.1, fun v H1 s1 dv => by
    cases dv with
    | @tup t xs _ st dx =>
      have lx := dps_len dx
      refine ⟨t, n, xs, rfl, rfl, st, fun z => hd ?_, h2, hn, by omega, fun p hp => ?_⟩
      · rw [z] at lx
        exact List.eq_nil_of_length_eq_zero lx.symm
      · exact h.2 (.ref p) _ (s1.trans (same_new hp)) (.tup (SqT.of upd_same) (dps_same (same_new hp) _ _ (reps_dp dx _)))⟩
theorem vd_cat (ha : PE X a (tV X.K R (.tuple ds))) (hb : PE X b (tV X.K S (.tuple bs))) (m : Mo S) (hl : ds.length + bs.length ≤ 1000 := by decide) :
    PE X (.BinOp a .Add b pos) (tV X.K (rA R S) (.tuple (ds ++ bs))) :=
  pe_to (pe_op op_catA ha hb) fun σ H _ h => ⟨h.1.1, fun v H1 s1 dv => ⟨m σ H H1 s1 h.1.2, fun u H2 s2 du => by
    cases dv with
    | tup st dx =>
      cases du with
      | tup su dy => exact Rs.cat_any (Bs.Same.t s2 st) su (Nat.le_of_lt (small_line (by rw [dps_len dx, dps_len dy]; exact hl))) fun c H3 s3 sc => h.2 (.ref c) H3 ((s1.trans s2).trans s3) (.tup sc (dps_app (dps_same (s2.trans s3) _ _ dx) (dps_same s3 _ _ dy)))⟩⟩
end
end Dd


set_option Elab.async false
set_option linter.all false
set_option maxRecDepth 100000
set_option maxHeartbeats 1000000
namespace Cu
open Fq Pg Rs
/-- all but the one block -/
def big (p : Prt) : Bool := decide (1 < p.length)
end Cu
namespace Rs
open PySem PySem.Spec PyProof.Rows L2 Bs Fq LamX RZ Cu Pg Dd
def cs (c : Nat → Rat) : Nat → Rat := fun i => c (i + 1)
end Rs


set_option Elab.async false
set_option linter.all false
set_option maxRecDepth 100000
set_option maxHeartbeats 2000000
namespace Bs
open PySem PySem.Spec PyProof.Rows L2
section
variable {X : Cx}
/-- repr of data in lists and tuples -/
def rRepr (K : PySem.W.Frag) : List V → Hp → VK → Prop := fun xs H Q => ∃ (a : Addr) (d : PyData), xs = [.ref a] ∧ Dp K H (.ref a) d ∧ d.showable = true ∧ d.hasDict = false ∧ d.depth ≤ 60 ∧ d.shown.length ≤ sizeLine ∧ Q (.str d.shown) H
theorem call_repr (hg : X.A.guards = some []) (hu : X.A.units + 64 < cLine) : CallR X (.builtin "repr") (rRepr X.K) := by
  rintro pins s σ H xs us Q I r ⟨a, d, rfl, hd, h1, h2, h3, h4, q⟩
  obtain ⟨u, rfl, ru⟩ := vals1 r
  obtain ⟨as, rd⟩ := Dp.reads I d (.ref a) u hd ru
  obtain rfl : u = Value.ref a := ru
  refine repr_of_reads' rd h1 (PyData.noDict_hsm h2) hg (by omega) (fun _ _ e => e) (fun h' u tk hk => ?_) h4
  exact ⟨.str d.shown, H, I.kept (h' := h') hk, ⟨u, rfl⟩, q⟩
end
section
variable {X : Cx} {k j : Nat} {x : Str} {sp : Sp} {p pos : Pos} {e : Expr} {es : List Expr} {t : TA} {E : XK}
theorem pe_x (c : CalX X.prog X.w X.K X.mg X.base k x sp) (hr : Room j X.A) (hk : k ≤ j) (hg : Gl X x) (hx : Passes (L2.CX X.prog X.w) X E) (ha : PA X (e :: es) t)
    (hdb : (x == ("__debug__" : Str)) = false := by decide) (he : starEach (e :: es) X.env = (false, eval e X.env) :: starEach es X.env := by rfl) (hpl : (backTo pos (starEach es X.env)).any (·.1) = false := by rfl) :
    PE X (.Call (.Name x p) (e :: es) [] pos) (tCall sp [] E t) := by
  obtain ⟨f, fd, ps, F, hm, kp, b⟩ := c.ex
  exact pe_call F (hr.mono hk) hg hm kp b .nil hx ha hdb he hpl
theorem run_g {pins : List (Addr × Obj)} {σ : L2.St} {H : Hp} {s : Shared} {Q : VK} {f : Addr} {fd : FuncData} {ps : List Str} {us : List Value} {vs : List V} (F : FnG X.prog X.w X.K X.mg X.base k f fd ps sp) (hg : X.A.guards = some []) (hr : Room k X.A)
    (hb : Binds X.K fd ps []) (I : L2.Inv X pins σ H s) (r : Vals vs us) (h : sp vs H Q E) : wpAny (model X.prog X.w) X.A (call (.ref f) us) (EP X pins σ Q) X.xe s := by
  have hl : (us ++ []).length = ps.length := by rw [List.append_nil, ← r.length]; exact F.len _ _ _ _ h
  have b0 := hb s us I.kIn hl
  rw [List.append_nil] at b0
  refine wpAny_call (codeAny_mono (F.run X.A X.stack s H ⟨us, []⟩ us vs Q E hg hr I.env0 b0 r h) (fun r s' hq => ?_))
  rcases r with e | fl
  · exact (show False from hq).elim
  · cases fl with
    | ret u => exact I.after hq
    | next => exact hq.elim
    | brk => exact hq.elim
    | cont => exact hq.elim
theorem pe_g (c : CalG X.prog X.w X.K X.mg X.base k x sp) (hgd : X.A.guards = some []) (hr : Room j X.A) (hk : k ≤ j) (hg : Gl X x) (ha : PA X (e :: es) t)
    (hdb : (x == ("__debug__" : Str)) = false := by decide) (he : starEach (e :: es) X.env = (false, eval e X.env) :: starEach es X.env := by rfl) (hpl : (backTo pos (starEach es X.env)).any (·.1) = false := by rfl) :
    PE X (.Call (.Name x p) (e :: es) [] pos) (tCall sp [] E0 t) := by
  obtain ⟨f, fd, ps, F, hm, kp, b⟩ := c.ex
  constructor
  intro pins s σ H Q I h
  refine wpAny_Call_Name_kw (ld_glob I hg hm ?_ hdb)
  refine PySem.W.callWith_K (h₀ := X.base) I.ok.mod.kin kp (thn (ha.run pos pins s σ H _ I h) (fun us s1 ⟨vs, H1, I1, r, q⟩ => ⟨I1.kIn, ?_⟩)) he hpl
  have q' : sp (vs ++ []) H1 Q E0 := q
  rw [List.append_nil] at q'
  exact run_g F hgd (hr.mono hk) b I1 r q'
theorem pe_g0 (c : CalG X.prog X.w X.K X.mg X.base k x sp) (hgd : X.A.guards = some []) (hr : Room j X.A) (hk : k ≤ j) (hg : Gl X x) (hdb : (x == ("__debug__" : Str)) = false := by decide) :
    PE X (.Call (.Name x p) [] [] pos) (tCall sp [] E0 tNil) := by
  obtain ⟨f, fd, ps, F, hm, kp, b⟩ := c.ex
  constructor
  intro pins s σ H Q I h
  refine wpAny_Call_Name_kw (ld_glob I hg hm ?_ hdb)
  exact PySem.W.callWith_K0 I.kIn kp (run_g (us := []) F hgd (hr.mono hk) b I .nil h)
end
end Bs


set_option Elab.async false
set_option linter.all false
set_option maxRecDepth 100000
set_option maxHeartbeats 1000000
namespace Rs
open PySem PySem.Spec PyProof.Rows L2 Bs Fq LamX RZ Cu Pg Dd
theorem ftB_int {x : Int} (h : x.natAbs < 2 ^ 350) : ftB 0 350 (.int x) = true := by
  have l : x.natAbs.log2 < 350 := PySem.Flt.log2_lt_of (by decide) h
  have t := int_text_length_le (a := x) (k := 350) (by decide) l
  have e : (PyData.shown (.int x)).length = (toString x).length := by
    show (Str.ofString (toString x)).length = _
    exact PySem.ofString_length _
  unfold ftB
  simp only [Bool.and_eq_true, decide_eq_true_eq, Bool.not_eq_true']
  refine ⟨?_, rfl, ?_, ?_, ?_⟩
  · simp only [PyData.showable, decide_eq_true_eq]
    omega
  · simp [PyData.depth]
  · simp only [PyData.leavesShort, decide_eq_true_eq]
    omega
  · simp only [PyData.weight]
    split <;> omega
theorem ftB_frac {q : F} (h1 : q.1.natAbs < 2 ^ 350) (h2 : q.2.natAbs < 2 ^ 350) : ftB 1 702 (dF q) = true := by
  refine ft_tup (k := 0) (n := 350) (fun d hd => ?_) (by show 351 * 2 ≤ 702; decide)
  rcases List.mem_cons.mp hd with rfl | hd
  · exact ftB_int h1
  · rw [List.mem_singleton.mp hd]
    exact ftB_int h2
theorem sz_small {D : Int} {m : Nat → Rat} (z : Sz D m) (i : Nat) : (rf (m i)).1.natAbs < 2 ^ 350 ∧ (rf (m i)).2.natAbs < 2 ^ 350 := by
  obtain ⟨a, b, c⟩ := (rf_cb (z.o i)).small (N := 170) z.p (Nat.le_trans z.l (Nat.pow_le_pow_right (by decide) (by decide))) (Nat.le_refl _)
  have : (2 : Nat) ^ 170 < 2 ^ 350 := Nat.pow_lt_pow_right (by decide) (by decide)
  exact ⟨by omega, by omega⟩
theorem sh_rl {D : Int} {m : Nat → Rat} (z : Sz D m) {L : Nat} (h : L ≤ 9) : Sh.Ok (dP (rl m L)) := by
  refine ft_ok (k := 2) (n := 6327) (ft_tup (k := 1) (n := 702) (fun d hd => ?_) ?_) (by decide) (by decide)
  · obtain ⟨q, hq, rfl⟩ := List.mem_map.mp hd
    obtain ⟨i, _, rfl⟩ := List.mem_map.mp hq
    exact ftB_frac (sz_small z i).1 (sz_small z i).2
  · rw [List.length_map, rl_len]
    omega
theorem shaped_dP (qs : List F) : SeqAt.shaped (dP qs) = true := by
  unfold SeqAt.shaped
  rw [Bool.and_eq_true_iff]
  refine ⟨?_, decide_eq_true ?_⟩
  · simpa [dP, PyData.canLay0] using can_dFs qs
  · have := dep_dFs qs
    simp only [dP, PyData.depth]
    omega
theorem eqv_dFr (q : F) : PyData.eqv (dF q) (dF q) = true := by simp [dF, PyData.eqv, PyData.eqvAll]
theorem eqv_dPr (qs : List F) : PyData.eqv (dP qs) (dP qs) = true := by
  show PyData.eqvAll (qs.map dF) (qs.map dF) = true
  induction qs with
  | nil => rfl
  | cons q qs ih =>
    show (PyData.eqv (dF q) (dF q) && PyData.eqvAll (qs.map dF) (qs.map dF)) = true
    rw [eqv_dFr, ih]
    rfl
structure RR (k : Kd) (ρ c : Nat → Rat) (L : Nat) (D E : Int) : Prop where
  R : Rwc ρ L D
  zm : Sz E (um ρ)
  zc : Sz E c
  l6 : L ≤ 6
  hP : ∀ n, 1 ≤ n → n < L → Pk k c n = um ρ n
  hm : ∀ n, 1 ≤ n → n < L → mf k (um ρ) c n n = um ρ n
  hS : ∀ n, 1 ≤ n → n < L → Sk k (um ρ) n = c n
theorem Po.ref {K : PySem.W.Frag} {H : Hp} {v : V} {qs : List F} (h : Po K H v qs) : ∃ a, v = .ref a := by
  obtain ⟨a, _, rfl, _⟩ := h
  exact ⟨a, rfl⟩
end Rs


set_option Elab.async false
set_option linter.all false
set_option maxRecDepth 100000
set_option maxHeartbeats 1000000
set_option exponentiation.threshold 500
namespace Cu
open Fq Pg Rs
def OvN (D : Int) (N : Nat) (x : Rat) : Prop := ∃ t : Int, x * (D : Rat) = (t : Rat) ∧ t.natAbs ≤ N
theorem OvN.of {D : Int} {n : Nat} {x : Rat} (h : Ov D n x) : OvN D (2 ^ n) x := h
theorem su_ovN {D : Int} {N : Nat} {f : Prt → Rat} {ps : List Prt} (h : ∀ p ∈ ps, OvN D N (f p)) : ∀ i, i ≤ ps.length → OvN D (i * N) (su f ps i)
  | 0, _ => ⟨0, by show (0 : Rat) * _ = 0; rw [Rat.zero_mul], by simp⟩
  | i + 1, hi => by
    have hb : ps[i]? = some ps[i] := List.getElem?_eq_getElem (by omega)
    obtain ⟨t, a, b⟩ := su_ovN h i (by omega)
    obtain ⟨u, c, d⟩ := h _ (List.getElem_mem (show i < ps.length by omega))
    refine ⟨t + u, ?_, ?_⟩
    · rw [su_succ hb, Rat.intCast_add, ← a, ← c]
      grind
    · have := Int.natAbs_add_le t u
      rw [Nat.succ_mul]
      omega
theorem su_ov6 {D : Int} {n : Nat} {f : Prt → Rat} {ps : List Prt} (h : ∀ p ∈ ps, Ov D n (f p)) (l : ps.length ≤ 64) : Ov D (n + 6) (su f ps ps.length) := by
  obtain ⟨t, a, b⟩ := su_ovN (fun p hp => OvN.of (h p hp)) ps.length (Nat.le_refl _)
  refine ⟨t, a, Nat.le_trans b ?_⟩
  rw [Nat.pow_add, Nat.mul_comm (2 ^ n)]
  exact Nat.mul_le_mul l (Nat.le_refl _)
theorem pl_ov2 {D : Int} {b : Nat} {g : Nat → Rat} (z : ∀ i, Ov D b (g i)) (p : Prt) : ∀ i, i ≤ p.length → Ov (D ^ i) (b * i) (pl g p i)
  | 0, _ => by rw [Int.pow_zero]; exact Ov.one
  | i + 1, h => by
    have hb : p[i]? = some p[i] := List.getElem?_eq_getElem (by omega)
    rw [pl_succ hb, Int.pow_succ]
    exact ((pl_ov2 z p i (by omega)).mul (z _)).mono (by rw [Nat.mul_succ]; exact Nat.le_refl _)
theorem pT_ov5 {D : Int} {b d : Nat} {g : Nat → Rat} (z : ∀ i, Ov D b (g i)) (l : D.natAbs ≤ 2 ^ d) (hd : d ≤ b) {p : Prt} (h : p.length ≤ 5) : Ov (D ^ 5) (b * 5) (pT g (lns p)) := by
  have h1 := pl_ov2 z p p.length (Nat.le_refl _)
  rw [pl_all] at h1
  have h2 : (D ^ (5 - p.length)).natAbs ≤ 2 ^ (d * (5 - p.length)) := by
    rw [Int.natAbs_pow, Nat.pow_mul]
    exact Nat.pow_le_pow_left l _
  have h3 := h1.scale h2
  rw [← Int.pow_add, Nat.add_sub_cancel' h] at h3
  refine h3.mono ?_
  have : d * (5 - p.length) ≤ b * (5 - p.length) := Nat.mul_le_mul hd (Nat.le_refl _)
  have e : b * p.length + b * (5 - p.length) = b * 5 := by rw [← Nat.mul_add, Nat.add_sub_cancel' h]
  omega
theorem blk5 : ∀ n ∈ [0, 1, 2, 3, 4, 5], ∀ k ∈ kds, ((partsOf k n).all fun p => decide (p.length ≤ 5)) = true ∧ decide ((partsOf k n).length ≤ 64) = true := by decide +kernel
theorem blk5_at {n : Nat} {k : Kd} (hn : n ≤ 5) : (∀ p ∈ sortW (partsOf k n), p.length ≤ 5) ∧ (sortW (partsOf k n)).length ≤ 64 := by
  obtain ⟨a, b⟩ := blk5 n (by simp; omega) k (kd_mem k)
  refine ⟨fun p hp => of_decide_eq_true (List.all_eq_true.mp a p ((sortW_perm _).mem_iff.mp hp)), ?_⟩
  rw [(sortW_perm _).length_eq]
  exact of_decide_eq_true b
theorem Sk_ov {D : Int} {b d : Nat} {g : Nat → Rat} (z : ∀ i, Ov D b (g i)) (l : D.natAbs ≤ 2 ^ d) (hd : d ≤ b) (k : Kd) {n : Nat} (hn : n ≤ 5) : Ov (D ^ 5) (5 + b * 5 + 6) (Sk k g n) := by
  rw [← su_S]
  refine su_ov6 (fun p hp => ?_) (blk5_at hn).2
  have h1 := (int_cb (b := 5) (sgn_at hn hp).2).1.v.mul (pT_ov5 z l hd ((blk5_at hn).1 p hp))
  rwa [(int_cb (b := 5) (sgn_at hn hp).2).2, Int.one_mul] at h1
def S5 (k : Kd) (m : Nat → Rat) : Nat → Rat := fun n => if n ≤ 5 then Sk k m n else 0
theorem pT_congr {c c' : Nat → Rat} : ∀ {ls : List Nat}, (∀ l ∈ ls, c l = c' l) → pT c ls = pT c' ls
  | [], _ => rfl
  | l :: ls, h => by
    show pT c ls * c l = pT c' ls * c' l
    rw [pT_congr fun x hx => h x (List.mem_cons_of_mem _ hx), h l List.mem_cons_self]
theorem sumT_congr {c c' : Nat → Rat} : ∀ {ts : List (List Nat)}, (∀ t ∈ ts, ∀ l ∈ t, c l = c' l) → sumT c ts = sumT c' ts
  | [], _ => rfl
  | t :: ts, h => by
    show sumT c ts + pT c t = sumT c' ts + pT c' t
    rw [sumT_congr fun x hx => h x (List.mem_cons_of_mem _ hx), pT_congr fun l hl => h t List.mem_cons_self l hl]
theorem Pk_congr {k : Kd} {c c' : Nat → Rat} {n : Nat} (hn : n ≤ 6) (h : ∀ i, 1 ≤ i → i ≤ n → c i = c' i) : Pk k c n = Pk k c' n := by
  refine sumT_congr fun t ht l hl => ?_
  obtain ⟨p, hp, rfl⟩ := List.mem_map.mp ht
  obtain ⟨b, hb, rfl⟩ := List.mem_map.mp hl
  obtain ⟨_, h2⟩ := blk_at (k := k) hn ((sortW_perm (partsOf k n)).mem_iff.mpr hp)
  exact h _ (h2 b hb).1 (h2 b hb).2
/-- a row by its fractions -/
def rho (qs : List F) : Nat → Rat := fun i => val (co qs i)
theorem rr_of (k : Kd) {qs : List F} {D : Int} (hc : Ca D 29 qs) (p : 0 < D) (l : D.natAbs ≤ 2 ^ 100) (n : qs ≠ []) (l6 : qs.length ≤ 6) (h0 : 0 < (co qs 0).1) : ∃ c E, RR k (rho qs) c qs.length D E := by
  have z0 : Sz D (rho qs) := ⟨p, Nat.le_trans l (Nat.pow_le_pow_right (by decide) (by decide)), fun i => (hc.co i).v.mono (by decide)⟩
  have hp : 0 < rho qs 0 := (val_pos (hc.co 0).ok).mpr h0
  have l1 : 1 ≤ qs.length := List.length_pos_iff.mpr n
  obtain ⟨u, u0, ul, ue⟩ := (hc.co 0).v.top p hp
  have hu : ∀ i, Ov u 29 (um (rho qs) i) := fun i => by
    obtain ⟨t, a, b⟩ := (hc.co i).v
    refine ⟨t, ?_, b⟩
    rw [← a, ← ue]
    show rho qs i / rho qs 0 * (rho qs 0 * (D : Rat)) = rho qs i * (D : Rat)
    have : rho qs 0 ≠ 0 := fun z => by
      rw [z] at hp
      exact absurd hp (by decide)
    grind
  have p5 : 0 < u ^ 5 := Int.pow_pos u0
  have pw4 : ∀ n : Nat, (u ^ n).natAbs ≤ 2 ^ (29 * n) := fun n => by
    rw [Int.natAbs_pow, Nat.pow_mul]
    exact Nat.pow_le_pow_left ul n
  have l5 : (u ^ 5).natAbs ≤ 2 ^ 150 := Nat.le_trans (pw4 5) (Nat.pow_le_pow_right (by decide) (by decide))
  have hm5 : ∀ i, Ov (u ^ 5) 170 (um (rho qs) i) := fun i => by
    have h1 := (hu i).scale (pw4 4)
    rw [show u * u ^ 4 = u ^ 5 by rw [Int.mul_comm, ← Int.pow_succ]] at h1
    exact h1.mono (by decide)
  have cS : ∀ n, n ≤ 5 → S5 k (um (rho qs)) n = Sk k (um (rho qs)) n := fun n h => if_pos h
  have u1 := um_zero hp
  refine ⟨S5 k (um (rho qs)), u ^ 5, ⟨z0, hp, l1, by omega⟩, ⟨p5, l5, hm5⟩, ⟨p5, l5, fun i => ?_⟩, l6, fun n n1 nL => ?_, fun n n1 nL => ?_, fun n n1 nL => (cS n (by omega)).symm⟩
  · unfold S5
    split
    · rename_i h
      exact (Sk_ov hu ul (Nat.le_refl _) k h).mono (by decide)
    · exact Ov.zero
  · rw [Pk_congr (c' := Sk k (um (rho qs))) (by omega) (fun i a b => cS i (by omega))]
    exact P_S k _ n1 (by omega)
  · have h := mf_S k (um (rho qs)) u1 n1 (show n ≤ 5 by omega)
    refine Eq.trans ?_ h
    exact mf_congr k (fun _ _ => rfl) (fun i a b => cS i (by omega)) (Nat.le_refl _)
/-- cumulants by their fractions -/
def cum (qs : List F) : Nat → Rat := fun n => if n = 0 then 0 else val (co qs (n - 1))
end Cu


set_option Elab.async false
set_option linter.all false
set_option maxRecDepth 100000
set_option maxHeartbeats 1000000
namespace Cu
open Fq Pg Rs
/-- what is told by hand -/
def smB (q : F) : Bool := decide (q.2 = 1) && decide (q.1.natAbs ≤ 2 ^ 20)
def grB (k : Kd) (qs cl : List F) : Bool := decide (Rs.co qs 0 = (1, 1)) && (qs.all smB && (cl.all smB && (decide (cl.length + 1 = qs.length) && (decide (qs.length ≤ 9) && (List.range qs.length).all fun n => decide (n = 0) || decide (mf k (rho qs) (cum cl) n n = rho qs n)))))
theorem sm_cb {q : F} (h : smB q = true) : Cb 1 20 q := by
  unfold smB at h
  rw [Bool.and_eq_true, decide_eq_true_eq, decide_eq_true_eq] at h
  obtain ⟨a, b⟩ := q
  obtain ⟨h1, h2⟩ := h
  have h1 : b = 1 := h1
  subst h1
  exact (int_cb h2).1
theorem sm_ca {qs : List F} (h : qs.all smB = true) : Ca 1 20 qs := fun q hq => sm_cb (List.all_eq_true.mp h q hq)
structure Gr (k : Kd) (qs cl : List F) : Prop where
  c0 : Rs.co qs 0 = (1, 1)
  q : Ca 1 20 qs
  c : Ca 1 20 cl
  l : cl.length + 1 = qs.length
  l9 : qs.length ≤ 9
  m : ∀ n, 1 ≤ n → n < qs.length → mf k (rho qs) (cum cl) n n = rho qs n
theorem gr_of {k : Kd} {qs cl : List F} (h : grB k qs cl = true) : Gr k qs cl := by
  unfold grB at h
  simp only [Bool.and_eq_true, decide_eq_true_eq] at h
  obtain ⟨h1, h2, h3, h4, h5, h6⟩ := h
  refine ⟨h1, sm_ca h2, sm_ca h3, h4, h5, fun n n1 nl => ?_⟩
  have := List.all_eq_true.mp h6 n (List.mem_range.mpr nl)
  rw [Bool.or_eq_true, decide_eq_true_eq, decide_eq_true_eq] at this
  rcases this with z | z
  · omega
  · exact z
abbrev qR : List F := [(1, 1), (0, 1), (1, 1), (0, 1), (2, 1)]
abbrev q3 : List F := [(1, 1), (1, 1), (2, 1), (5, 1)]
abbrev c3 : List F := [(1, 1), (1, 1), (1, 1)]
theorem s4 : rf (Sk .all (um (rho qR)) 4) = (-1, 1) := by decide +kernel
theorem g5 : ∃ c E, CuHyp .all (rho [(5, 1)]) c 1 1 E := by
  obtain ⟨c, E, r⟩ := rr_of .all (qs := [(5, 1)]) (D := 1) (fun q hq => (sm_cb (by rw [List.mem_singleton.mp hq]; decide)).mono (by decide)) (by decide) Nat.one_le_two_pow (by decide) (by decide) (by decide)
  exact ⟨c, E, r.R, r.zm, r.zc, r.hm⟩
end Cu


set_option Elab.async false
set_option linter.all false
set_option maxRecDepth 100000
set_option maxHeartbeats 1000000
namespace Rs
open PySem PySem.Spec PyProof.Rows L2 Bs Fq LamX RZ Cu Pg Dd
theorem kp_none {p l D : Addr} {H H4 : Hp} (k : Kp p l H H4) (h : H4 D = none) (n1 : p ≠ D) (n2 : l ≠ D) : H D = none := by
  cases e : H D with
  | none => rfl
  | some o =>
    have := k D o e n1.symm n2.symm
    rw [h] at this
    cases this
theorem kinds_at {i : Nat} {x : V} (h : [V.str "all", V.str "free", V.str "stretch"][i]? = some x) : ∃ k : Kd, x = .str (kdS k) := by
  match i, h with
  | 0, h => exact ⟨.all, by cases h; rfl⟩
  | 1, h => exact ⟨.free, by cases h; rfl⟩
  | 2, h => exact ⟨.str, by cases h; rfl⟩
  | n + 3, h => simp at h
theorem dp_two {K : PySem.W.Frag} {H : Hp} {v : V} {d e : PyData} (h : Dp K H v (.tuple [d, e])) : ∃ t x y, v = .ref t ∧ SqT K H t [x, y] ∧ Dp K H x d ∧ Dp K H y e := by
  cases h with
  | @tup t xs _ st dx =>
    cases dx with
    | cons a1 b1 => cases b1 with
      | cons a2 b2 =>
        cases b2
        exact ⟨t, _, _, rfl, st, a1, a2⟩
/-- fractions being drawn into a list -/
structure Drn (K : PySem.W.Frag) (H0 H : Hp) (p c l : Addr) (n : Nat) (t : Int) (D : Addr) (qs : List F) : Prop where
  S : Sta H p c l n t
  k : Kp p l H0 H
  g : ∃ acc, H D = some (.lst acc) ∧ FrAll K H acc qs
theorem Drn.start {K : PySem.W.Frag} {H : Hp} {p c l D : Addr} {n : Nat} {t : Int} (S : Sta H p c l n t) (hD : H D = none) : Drn K H (upd H D (.lst [])) p c l n t D [] := by
  have s1 := same_new (o := .lst []) hD
  exact ⟨S.mono s1, Kp.of s1, [], upd_same, .nil⟩
theorem Drn.step {K : PySem.W.Frag} {H0 H H1 : Hp} {p c l D : Addr} {n : Nat} {t t1 : Int} {qs : List F} {v : V} {q : F} (d : Drn K H0 H p c l n t D qs) (S0 : Sta H0 p c l n t1) {t2 t3 : Int} (hD : H0 D = none) (S1 : Sta H1 p c l n t2) (k1 : Kp p l H H1) (f : Fr K H1 v q) (lq : qs.length ≤ 100) (e : t2 = t3) :
    ∃ acc, H1 D = some (.lst acc) ∧ acc.length < sizeLine ∧ Drn K H0 (upd H1 D (.lst (acc ++ [v]))) p c l n t3 D (qs ++ [q]) := by
  subst e
  obtain ⟨acc, g, fa⟩ := d.g
  obtain ⟨cs, c1, _⟩ := S0.cs
  obtain ⟨zs, l1, _⟩ := S0.ls
  have nc : c ≠ D := ne_of_none c1 hD
  have nl : l ≠ D := ne_of_none l1 hD
  have np : p ≠ D := ne_of_none S0.d hD
  have g1 := k1 D _ g np.symm nl.symm
  refine ⟨acc, g1, small1000 (by rw [fa.len]; omega), S1.off g1 nc nl, fun b o e m1 m2 => (upd_ne (ne_of_none e hD)).trans (k1 b o (d.k b o e m1 m2) m1 m2), _, upd_same, ?_⟩
  exact (FrAll.off g1 (fa.kp k1 d.S)).snoc (f.off g1)
end Rs


set_option Elab.async false
set_option linter.all false
set_option maxRecDepth 100000
set_option maxHeartbeats 1000000
namespace Rs
open PySem PySem.Spec PyProof.Rows L2 Bs Fq LamX RZ
theorem walk_zipT {K : PySem.W.Frag} {a b : Addr} {xs ys : List V} {n : Nat} (hn : n = min xs.length ys.length) : Walk (ItzT K a b) n (fun H => SqT K H a xs ∧ SqT K H b ys) (YPair (fun i => xs[i]?) (fun i => ys[i]?)) := by
  rw [hn]
  refine ⟨fun i _ hi q => ?_, fun _ q => ⟨xs, ys, q.1, q.2, by omega⟩, fun i H v H' _ q y => ?_⟩
  · have h1 : i < xs.length := by omega
    have h2 : i < ys.length := by omega
    exact ⟨xs, ys, xs[i], ys[i], q.1, q.2, List.getElem?_eq_getElem h1, List.getElem?_eq_getElem h2⟩
  · obtain ⟨T, x, z, e1, e2, e3, e4, e5⟩ := y
    exact ⟨T, x, z, e1, e2, e3, e4 xs q.1, e5 ys q.2⟩
end Rs


set_option Elab.async false
set_option linter.all false
set_option maxRecDepth 100000
set_option maxHeartbeats 1000000
namespace Rs
open PySem L2 Bs Fq LamX LmD RZ TA2
def ex2 : List PyData := [.tuple [.none, .tuple []]]
end Rs


set_option Elab.async false
set_option linter.all false
set_option maxRecDepth 100000
set_option maxHeartbeats 1000000
namespace Rs
open PySem L2 Bs LamX Pg RZ
theorem prs_get {b : Blk} {i : Nat} {t u : Int} (h1 : b[i]? = some t) (h2 : b[i + 1]? = some u) : (prs b)[i]? = some (t, u) := by
  unfold prs
  rw [List.getElem?_zip_eq_some]
  refine ⟨h1, ?_⟩
  rw [List.getElem?_tail]
  exact h2
end Rs


set_option Elab.async false
set_option linter.all false
set_option maxRecDepth 100000
set_option maxHeartbeats 1000000
namespace Pg
end Pg
namespace Rs
open PySem L2 Bs LamX Pg RZ
abbrev sLParts : Stmt := top 76
abbrev NLp : List Str := ["many", "rows", "number", "longer", "blocks", "spot"]
section
variable {P : Program} {w : World} {K : PySem.W.Frag} {mg : Str → Option Value} {base : Heap} {f : Addr} {fd : FuncData}
theorem scLParts : FnScope NLp ["many"] (defScope sLParts) := ⟨rfl, rfl, rfl, by decide +kernel, rfl, by decide +kernel, by decide +kernel⟩
theorem ok_lparts (F : Fun K "_law_partings" "_law_partings" sLParts f fd) (T : Blt mg) (so : mg "sorted" = none) : FnOk P w K mg base CX0 1 f fd ["many"] (spLParts K) := by
  refine F.ok scLParts (fun vs H Q E h => ?_) (fun cdv A outer s H vs Q E hr h => ?_)
  · obtain ⟨n, rfl, _⟩ := h
    rfl
  · obtain ⟨n, rfl, n5, kk⟩ := h
    have ro := all_rows n (by simp; omega)
    refine ⟨_, pss_cons (ps_set (i := 1) scLParts.nd rfl (Or.inl rfl) (pe_lst (pa_cons (pe_tup pa_nil) pa_nil)))
      (C8.pss_cut (ps_for PassesOwn.never rfl (pi_range1 rfl T.range (pa_cons (pv 0) pa_nil)) (pg_name (i := 2) scLParts.nd rfl (Or.inl rfl))
        (pss_cons (ps_set (i := 3) scLParts.nd rfl (Or.inl rfl) (pe_lst pa_nil))
        (C8.pss_cut (ps_for PassesOwn.never rfl (pi_list (pv 1)) (pg_name (i := 4) scLParts.nd rfl (Or.inl rfl))
          (C8.pss_cut (ps_expr (pe_bm PySem.F.plainAttrs_list PySem.F.slot_list_append PySem.F.type_list_append mt_append (pv 3) (pa_cons (pe_op op_catA (pv 4) (pe_tup (pa_cons (pe_tup (pa_cons (pv 2) pa_nil)) pa_nil))) pa_nil)))
          (pss_one (ps_for PassesOwn.never rfl (pi_range1 rfl T.range (pa_cons (pe_callB call_len_seq (by rfl) T.len (by decide +kernel) (pa_cons (pv 4) pa_nil)) pa_nil)) (pg_name (i := 5) scLParts.nd rfl (Or.inl rfl))
            (pss_one (ps_expr (pe_bm PySem.F.plainAttrs_list PySem.F.slot_list_append PySem.F.type_list_append mt_append (pv 3) (pa_cons (pe_op op_catA (pe_op op_catA (pe_slice sl_tupA (pv 4) po_none (po_some (pv 5))) (pe_tup (pa_cons (pe_op op_catA (pe_ix ix_tup (pv 4) (pv 5) (fun _ _ => rfl)) (pe_tup (pa_cons (pv 2) pa_nil))) pa_nil))) (pe_slice sl_tupA (pv 4) (po_some (pe_op op_add (pv 5) pe_int)) po_none)) pa_nil))))))))
        (pss_one (ps_set (i := 1) scLParts.nd rfl (Or.inl rfl) (pe_callTy call_list_of (by rfl) T.list (by decide +kernel) (pa_cons (pv 3) pa_nil)))))))
      (pss_one (ps_ret (pe_callB (cr_sortedW hr.units) (by rfl) so (by decide +kernel) (pa_cons (pv 1) pa_nil))))), ?_⟩
    refine ⟨(by show 0 ≤ sizeLine; decide), fun p0 hp0 => ⟨(by show 1 ≤ sizeLine; decide), fun L0 hL0 => ?_⟩⟩
    have t1 := same_new (o := .tup []) hp0
    have t2 := same_new (o := .lst [.ref p0]) hL0
    have t12 := t1.trans t2
    have pt0 : Al (Pt K (upd (upd H p0 (.tup [])) L0 (.lst [.ref p0]))) [V.ref p0] (lawRows 0) := .cons ⟨p0, [], rfl, Bs.Same.t t2 (SqT.of upd_same), .nil⟩ .nil
    have gL0 : upd (upd H p0 (.tup [])) L0 (.lst [V.ref p0]) L0 = some (.lst [V.ref p0]) := upd_same
    generalize upd (upd H p0 (.tup [])) L0 (.lst [V.ref p0]) = H0 at *
    refine ⟨fun σ H1 => ∃ L acc v2 v3 v4 v5, Same H H1 ∧ H1 L = some (.lst acc) ∧ Al (Pt K H1) acc (lawRows n) ∧ σ = [some (.int (n : Nat)), some (.ref L), v2, v3, v4, v5], ?_, ?_⟩
    · refine ⟨_, rfl, _, rfl, by omega, by omega, for_range (n := ((n : Nat) : Int).toNat) (fun i σ H1 => ∃ L acc v2 v3 v4 v5, Same H H1 ∧ H1 L = some (.lst acc) ∧ Al (Pt K H1) acc (lawRows i) ∧ σ = [some (.int (n : Nat)), some (.ref L), v2, v3, v4, v5])
        ⟨L0, _, none, none, none, none, t12, gL0, pt0, rfl⟩ ?_ (fun σ H1 z => z)⟩
      rintro i σ H1 hi ⟨L, acc, v2, v3, v4, v5, s1, gL, al, rfl⟩
      obtain ⟨y1, y2, y3, y4⟩ := rows_at ro (show i ≤ n by omega)
      rw [Int.zero_add]
      refine ⟨(by show 0 ≤ sizeLine; decide), fun D hD => ?_⟩
      have s2 := same_new (o := .lst []) hD
      have gD0 : upd H1 D (.lst []) D = some (.lst []) := upd_same
      have gL1 := s2 _ _ gL
      have nL : L ≠ D := fun e => by
        rw [e, hD] at gL
        cases gL
      generalize upd H1 D (.lst []) = H2 at *
      refine ⟨fun σ H3 => ∃ bcc v4 v5, Same H1 H3 ∧ H3 D = some (.lst bcc) ∧ Al (Pt K H3) bcc (lawRows (i + 1)) ∧ σ = [some (.int (n : Nat)), some (.ref L), some (.int (i : Nat)), some (.ref D), v4, v5], ?_, ?_⟩
      · refine ⟨_, rfl, L, rfl, ⟨_, SqL.of gL1⟩, for_it (walk_list (K := K) (a := L) (xs := acc)) (fun j σ H3 => Same H1 H3 ∧ ∃ bcc v4 v5, H3 D = some (.lst bcc) ∧ Al (Pt K H3) bcc (((lawRows i).take j).flatMap fun p => withN p i) ∧ σ = [some (.int (n : Nat)), some (.ref L), some (.int (i : Nat)), some (.ref D), v4, v5])
          ⟨s2, [], v4, v5, gD0, .nil, rfl⟩ (fun j σ H3 _ q => SqL.of (q.1 _ _ gL)) ?_ ?_⟩
        · rintro j x σ H3' H3 hj ⟨s3, bcc, v4', v5', gD, ga, rfl⟩ ⟨e3, hx⟩
          subst e3
          obtain ⟨p, hp, a, xs, rfl, sx0, ai0⟩ := al.get hx
          have zp := size_blk (y2 p (List.mem_of_getElem? hp))
          have fl := flat_one (f := fun p => withN p (i : Int)) hp
          have ln := flat_take_len (f := fun p => withN p (i : Int)) (lawRows i) (j + 1)
          rw [fl, List.length_append] at ln
          have wl : (withN p (i : Int)).length = p.length + 1 := by
            unfold withN
            rw [List.length_cons, List.length_map, List.length_range]
          have sx := Bs.Same.t s3 sx0
          have ai : Al (It K H3) xs p := alI_mono ai0 s3
          have lx := ai.len
          have lb := ga.len
          refine ⟨fun σ H4 => ∃ bc2, Same H1 H4 ∧ H4 D = some (.lst bc2) ∧ Al (Pt K H4) bc2 (((lawRows i).take j).flatMap (fun p => withN p i) ++ [p ++ [[(i : Int)]]]) ∧ σ = [some (.int (n : Nat)), some (.ref L), some (.int (i : Nat)), some (.ref D), some (.ref a), v5'], ?_, ?_⟩
          · refine ⟨_, rfl, .inl ⟨rfl, _, SqL.of gD⟩, _, rfl, _, rfl, (by show 1 ≤ sizeLine; decide), fun p1 hp1 => ⟨(by show 1 ≤ sizeLine; decide), fun p2 hp2 => ?_⟩⟩
            have u1 := same_new (o := .tup [.int (i : Nat)]) hp1
            have u2 := same_new (o := .tup [.ref p1]) hp2
            have u12 := u1.trans u2
            refine cat_any (Bs.Same.t u12 sx) (SqT.of upd_same) (Nat.le_of_lt (small1000 (by show _ + 1 ≤ 1000; omega))) (fun c H5 u3 sc => ?_)
            have u13 := u12.trans u3
            have gD5 := u13 _ _ gD
            refine ⟨D, bcc, _, rfl, rfl, gD5, small1000 (by omega), bcc ++ [.ref c], fun b' o e => (upd_ne (ne_of_none e hD)).trans (u13 b' o (s3 b' o e)), upd_same, ?_, rfl⟩
            have pz : Pt K H5 (.ref c) (p ++ [[(i : Int)]]) := ⟨c, _, rfl, sc, (alI_mono ai u13).snoc ⟨p1, rfl, Bs.Same.t u3 (SqT.of (u2 _ _ upd_same))⟩⟩
            exact (alP_off (alP_mono ga u13) gD5).snoc (pz.off gD5)
          rintro σ H4 ⟨bc2, s4, gD4, ga4, rfl⟩
          have sx4 := Bs.Same.t s4 sx0
          refine ⟨_, rfl, a, xs, rfl, .inr sx4, _, rfl, by omega, by omega, for_range (n := ((xs.length : Nat) : Int).toNat) (fun l σ H5 => ∃ bc3 v5, Same H1 H5 ∧ H5 D = some (.lst bc3) ∧ Al (Pt K H5) bc3 (((lawRows i).take j).flatMap (fun p => withN p i) ++ ((p ++ [[(i : Int)]]) :: (List.range l).map (more p i))) ∧ σ = [some (.int (n : Nat)), some (.ref L), some (.int (i : Nat)), some (.ref D), some (.ref a), v5])
            ⟨bc2, v5', s4, gD4, ga4, rfl⟩ ?_ ?_⟩
          · rintro l σ H5 hl ⟨bc3, v5, s5, gD5, ga5, rfl⟩
            have ii : l < p.length := by omega
            have hb : p[l]? = some (p[l]) := List.getElem?_eq_getElem ii
            obtain ⟨y, hy, c, rfl, sc⟩ := ai0.at hb
            have bb := zp.2 _ (List.mem_of_getElem? hb)
            have gd := getD_some hb
            generalize p[l] = b at *
            have lb5 := ga5.len
            rw [List.length_append, List.length_cons, List.length_map, List.length_range] at lb5
            have sx5 := Bs.Same.t s5 sx0
            rw [Int.zero_add]
            refine ⟨_, rfl, .inl ⟨rfl, _, SqL.of gD5⟩, _, rfl, _, rfl, (l : Int), rfl, ?_⟩
            refine sl_cut sx5 (cut_to (by omega)) fun d1 H6 s6 sd1 => ?_
            have s56 := s5.trans s6
            refine ⟨_, rfl, _, rfl, a, xs, _, _, rfl, rfl, Bs.Same.t s56 sx0, atI_nat hy, _, rfl, (by show 1 ≤ sizeLine; decide), fun p5 hp5 => ?_⟩
            have s7 := same_new (o := .tup [.int (i : Nat)]) hp5
            have s57 := s56.trans s7
            refine cat_any (Bs.Same.t s57 sc) (SqT.of upd_same) (Nat.le_of_lt (small1000 (by rw [List.length_map]; show _ + 1 ≤ 1000; omega))) (fun d2 H8 s8 sd2 => ⟨(by show 1 ≤ sizeLine; decide), fun p7 hp7 => ?_⟩)
            have s9 := same_new (o := .tup [.ref d2]) hp7
            have s89 := s8.trans s9
            refine cat_any (Bs.Same.t (s7.trans s89) sd1) (SqT.of upd_same) (Nat.le_of_lt (small1000 (by rw [List.length_take]; show _ + 1 ≤ 1000; omega))) (fun d3 H10 s10 sd3 => ?_)
            have s610 := (s7.trans s89).trans s10
            refine ⟨_, rfl, _, rfl, _, _, rfl, rfl, (l : Int) + 1, rfl, ?_⟩
            unfold tNoPart
            refine sl_cut (ys := xs.drop (l + 1)) (Bs.Same.t (s56.trans s610) sx0) (by rw [show (l : Int) + 1 = ((l + 1 : Nat) : Int) by omega]; exact cut_from (by omega)) fun d4 H11 s11 sd4 => ?_
            refine cat_any (Bs.Same.t s11 sd3) sd4 (Nat.le_of_lt (small1000 (by rw [List.length_append, List.length_take, List.length_drop]; show _ + 1 + _ ≤ 1000; omega))) (fun d5 H12 s12 sd5 => ?_)
            have s1112 := s11.trans s12
            have s512 := (s6.trans s610).trans s1112
            have gD12 := s512 _ _ gD5
            refine ⟨D, bc3, _, rfl, rfl, gD12, small1000 (by omega), bc3 ++ [.ref d5], _, fun b' o e => (upd_ne (ne_of_none e hD)).trans (s512 b' o (s5 b' o e)), upd_same, ?_, rfl⟩
            have al12 := alI_mono ai0 (s5.trans s512)
            have i2 : It K H12 (.ref d2) (b ++ [(i : Int)]) := ⟨d2, rfl, Bs.Same.t (s9.trans (s10.trans s1112)) (by rw [List.map_append]; exact sd2)⟩
            have pm : Pt K H12 (.ref d5) (more p i l) := ⟨d5, _, rfl, sd5, by
              unfold more
              rw [gd]
              exact ((al12.take l).app (.cons i2 .nil)).app (al12.drop (l + 1))⟩
            rw [List.range_succ, List.map_append, ← List.cons_append, ← List.append_assoc]
            exact (alP_off (alP_mono ga5 s512) gD12).snoc (pm.off gD12)
          · rintro σ H5 ⟨bc3, v5, s5, gD5, ga5, rfl⟩
            rw [show ((xs.length : Nat) : Int).toNat = p.length by omega] at ga5
            refine ⟨s5, bc3, _, _, gD5, ?_, rfl⟩
            rw [fl]
            exact ga5
        · rintro σ H3 ⟨s3, bcc, v4, v5, gD, ga, rfl⟩
          rw [al.len, List.take_length] at ga
          exact ⟨bcc, v4, v5, s3, gD, ga, rfl⟩
      rintro σ H3 ⟨bcc, v4, v5, s3, gD, ga, rfl⟩
      refine ⟨_, rfl, D, bcc, rfl, .inl (SqL.of gD), fun L2 hL2 => ?_⟩
      have s4 := same_new (o := .lst bcc) hL2
      exact ⟨L2, bcc, _, _, _, _, (s1.trans s3).trans s4, upd_same, alP_mono ga s4, rfl⟩
    rintro σ H1 ⟨L, acc, v2, v3, v4, v5, s1, gL, al, rfl⟩
    obtain ⟨y1, y2, y3, y4⟩ := rows_at ro (Nat.le_refl n)
    refine ⟨_, rfl, L, acc, lawRows n, rfl, SqL.of gL, al, y4, fun ys p2 ai hp2 => ?_⟩
    have s2 := same_new (o := .lst ys) hp2
    exact kk _ p2 ys (s1.trans s2) (s1.free hp2) upd_same (alP_mono ai s2)
end
end Rs


set_option Elab.async false
set_option linter.all false
set_option maxRecDepth 100000
set_option maxHeartbeats 1000000
namespace Pg
theorem homes_at {p : Prt} (h : homesOk p = true) : total p ≤ 7 ∧ ∀ n, n < total p → (homes p (n : Nat)) ≠ [] := by
  unfold homesOk at h
  rw [Bool.and_eq_true, decide_eq_true_eq, List.all_eq_true] at h
  refine ⟨h.1, fun n hn e => ?_⟩
  have := h.2 n (List.mem_range.mpr hn)
  rw [e] at this
  cases this
/-- what breaks freeness -/
def hitB (h : List Nat) (near spot late : Nat) : Bool := decide (h.getD near 0 = h.getD late 0) && (decide (h.getD late 0 ≠ h.getD spot 0) && (h.drop (late + 1)).contains (h.getD spot 0))
theorem freeB_true {h : List Nat} (z : ∀ near, near < h.length → ∀ spot, spot < h.length → near < spot → ∀ late, late < h.length → spot < late → hitB h near spot late = false) : freeB h = true := by
  unfold freeB
  rw [List.all_eq_true]
  intro near h1
  rw [List.all_eq_true]
  intro spot h2
  rw [List.all_eq_true]
  intro late h3
  rw [List.mem_range] at h1 h2 h3
  by_cases c1 : near < spot
  · by_cases c2 : spot < late
    · have := z near h1 spot h2 c1 late h3 c2
      unfold hitB at this
      rw [this]
      simp
    · simp [c2]
  · simp [c1]
theorem freeB_false {h : List Nat} {near spot late : Nat} (h1 : near < h.length) (h2 : spot < h.length) (h3 : late < h.length) (c1 : near < spot) (c2 : spot < late) (hit : hitB h near spot late = true) : freeB h = false := by
  rw [Bool.eq_false_iff]
  intro q
  unfold freeB at q
  have q1 := List.all_eq_true.mp q near (List.mem_range.mpr h1)
  have q2 := List.all_eq_true.mp q1 spot (List.mem_range.mpr h2)
  have q3 := List.all_eq_true.mp q2 late (List.mem_range.mpr h3)
  unfold hitB at hit
  rw [hit] at q3
  simp [c1, c2] at q3
end Pg
namespace Rs
open PySem L2 Bs LamX Pg RZ
abbrev sLHome : Stmt := top 77
abbrev sLFree : Stmt := top 78
abbrev NLh : List Str := ["parting", "number", "spot", "block"]
abbrev NLf : List Str := ["parting", "many", "homes", "number", "near", "spot", "late"]
def spLHome (K : PySem.W.Frag) : Sp := fun vs H Q _ => ∃ (v : V) (p : Prt) (n : Int), vs = [v, .int n] ∧ Pt K H v p ∧ sizeB p = true ∧ homes p n ≠ [] ∧ ∀ H', Same H H' → Q (.int (home p n : Nat)) H'
def spLFree (K : PySem.W.Frag) : Sp := fun vs H Q _ => ∃ (v : V) (p : Prt), vs = [v, .int (total p : Nat)] ∧ Pt K H v p ∧ sizeB p = true ∧ homesOk p = true ∧ ∀ H', Same H H' → Q (.bl (lawFree p)) H'
theorem flat_ints : ∀ b : List Int, (b.map V.int).all flatV = true
  | [] => rfl
  | x :: b => by
    rw [List.map_cons, List.all_cons, flat_ints b]
    rfl
theorem inV_ints (n : Int) : ∀ b : List Int, inV (.int n) (b.map V.int) = b.contains n
  | [] => rfl
  | x :: b => by
    have := inV_ints n b
    unfold inV at this ⊢
    rw [List.map_cons, List.any_cons, this, List.contains_cons]
    congr 1
    show decide _ = _
    by_cases e : n = x
    · subst e
      simp
    · simp [e, Ne.symm e]
section
variable {P : Program} {w : World} {K : PySem.W.Frag} {mg : Str → Option Value} {base : Heap} {f : Addr} {fd : FuncData}
theorem scLHome : FnScope NLh ["parting", "number"] (defScope sLHome) := ⟨rfl, rfl, rfl, by decide +kernel, rfl, by decide +kernel, by decide +kernel⟩
theorem ok_lhome (F : Fun K "_law_home" "_law_home" sLHome f fd) (en : mg "enumerate" = none) : FnOk P w K mg base CX0 1 f fd ["parting", "number"] (spLHome K) := by
  refine F.ok scLHome (fun vs H Q E h => ?_) (fun cdv A outer s H vs Q E hr h => ?_)
  · obtain ⟨v, p, n, rfl, _⟩ := h
    rfl
  · obtain ⟨v, p, n, rfl, ⟨a, xs, rfl, sx, al⟩, sz, ne, kk⟩ := h
    obtain ⟨l8, bl⟩ := size_blk sz
    have lx := al.len
    refine ⟨_, pss_one (ps_ret (pe_ix ix_list (pe_lc (own := [("spot", 2), ("block", 3)]) (g := gTup K 2 (gCons (gName 2) (gCons (gName 3) gNil))) rfl scLHome.nd
          (EnT.pi_enumT (by rfl) en (pa_cons (pv 0) pa_nil)) (blkOk_by (N := NLh) (sc := defScope sLHome) (by decide +kernel))
          (fun _ _ _ _ _ => pg_tup rfl (pgs_cons (pg_name (i := 2) scLHome.nd rfl (Or.inl rfl)) (pgs_cons (pg_name (i := 3) scLHome.nd rfl (Or.inl rfl)) pgs_nil)))
          (fun _ _ _ _ _ => pts_one (pt_cmpR (r := rIn K false) op_in_seq (pv 1) (pv 3) (by rfl)))
          (fun _ _ _ _ _ => pv 2)) pe_int (fun _ _ => rfl))), ?_⟩
    refine ⟨_, rfl, a, xs, rfl, sx, fun D hD => ?_⟩
    refine lc_it (walk_enumT (xs := xs)) (fun j H2 => Same H H2 ∧ H2 D = some (.lst (((List.range j).filter fun k => (p.getD k []).contains n).map fun k : Nat => V.int (k : Nat)))) ⟨same_new hD, upd_same⟩ (fun j H2 _ z => Bs.Same.t z.1 sx) ?_ ?_
    · rintro j x H2 H3 hj ⟨s2, hD2⟩ ⟨T', x', y', rfl, hT, rfl, h1, h2⟩
      cases h1
      have h2' : xs[j]? = some y' := h2
      obtain ⟨b, hb, c, rfl, sc⟩ := al.get h2'
      have s3 := same_new (o := .tup [.int (j : Nat), .ref c]) hT
      have s13 := s2.trans s3
      have lf := List.length_filter_le (fun k => (p.getD k []).contains n) (List.range j)
      rw [List.length_range] at lf
      refine ⟨T', _, rfl, SqT.of upd_same, rfl, _, _, rfl, _, _, rfl, rfl, rfl, ?_⟩
      have gD3 := s3 _ _ hD2
      generalize upd H2 T' (.tup [.int (j : Nat), .ref c]) = H3 at *
      have eb : p.getD j [] = b := getD_some hb
      have fr : (List.range (j + 1)).filter (fun k => (p.getD k []).contains n) = (List.range j).filter (fun k => (p.getD k []).contains n) ++ (if (b.contains n) = true then [j] else []) := by
        rw [List.range_succ, List.filter_append, List.filter_cons, eb]
        rfl
      refine ⟨_, rfl, _, rfl, c, _, rfl, .inr (Bs.Same.t s13 sc), rfl, flat_ints b, _, rfl, ?_⟩
      rw [fr]
      show (if inV (.int n) (b.map V.int) = true then _ else _)
      rw [inV_ints]
      refine ite2 (fun c => ?_) (fun c => ?_)
      · refine ⟨_, rfl, _, gD3, small1000 (by rw [List.length_map]; omega), fun c o e => (upd_ne (ne_of_none e hD)).trans (s13 c o e), ?_⟩
        rw [upd_same, if_pos c, List.map_append]
        rfl
      · rw [if_neg c, List.append_nil]
        exact ⟨s13, gD3⟩
    · rintro H2 ⟨s2, hD2⟩
      rw [lx] at hD2
      have e : home p n = (homes p n).headD 0 := rfl
      cases eh : homes p n with
      | nil => exact absurd eh ne
      | cons k ks =>
        rw [eh] at e
        have k1 := kk H2 s2
        rw [e] at k1
        have eh2 : (List.range p.length).filter (fun k => (p.getD k []).contains n) = k :: ks := eh
        rw [eh2] at hD2
        exact ⟨D, _, _, _, rfl, rfl, SqL.of hD2, atI_nat (j := 0) rfl, k1⟩
end
end Rs


set_option Elab.async false
set_option linter.all false
set_option maxRecDepth 100000
set_option maxHeartbeats 1000000
namespace Rs
open PySem L2 Bs LamX Pg RZ
theorem flat_nats : ∀ b : List Nat, (b.map fun k : Nat => V.int (k : Nat)).all flatV = true
  | [] => rfl
  | x :: b => by
    rw [List.map_cons, List.all_cons, flat_nats b]
    rfl
theorem inV_nats (n : Nat) : ∀ b : List Nat, inV (.int (n : Nat)) (b.map fun k : Nat => V.int (k : Nat)) = b.contains n
  | [] => rfl
  | x :: b => by
    have := inV_nats n b
    unfold inV at this ⊢
    rw [List.map_cons, List.any_cons, this, List.contains_cons]
    congr 1
    show decide _ = _
    by_cases e : n = x
    · subst e
      simp
    · have e2 : (x : Int) ≠ (n : Int) := fun z => e (by omega)
      simp [e, e2]
theorem nat_get {hs : List Nat} {k : Nat} (h : k < hs.length) : (hs.map fun k : Nat => V.int (k : Nat))[k]? = some (V.int (hs.getD k 0 : Nat)) := by
  rw [List.getElem?_map, List.getElem?_eq_getElem h, List.getD_eq_getElem?_getD, List.getElem?_eq_getElem h]
  rfl
theorem take_map_range {α : Type} {f : Nat → α} (i : Nat) : (List.range (i + 1)).map f = (List.range i).map f ++ [f i] := by
  rw [List.range_succ, List.map_append]
  rfl
section
variable {P : Program} {w : World} {K : PySem.W.Frag} {mg : Str → Option Value} {base : Heap} {f : Addr} {fd : FuncData}
theorem scLFree : FnScope NLf ["parting", "many"] (defScope sLFree) := ⟨rfl, rfl, rfl, by decide +kernel, rfl, by decide +kernel, by decide +kernel⟩
theorem ok_lfree (F : Fun K "_law_is_free" "_law_is_free" sLFree f fd) (T : Blt mg) (HO_ : Cal P w K mg base 1 "_law_home" (spLHome K)) : FnOk P w K mg base CX0 2 f fd ["parting", "many"] (spLFree K) := by
  refine F.ok scLFree (fun vs H Q E h => ?_) (fun cdv A outer s H vs Q E hr h => ?_)
  · obtain ⟨v, p, rfl, _⟩ := h
    rfl
  · obtain ⟨v, p, rfl, pp, sz, ho, kk⟩ := h
    obtain ⟨m7, hne⟩ := homes_at ho
    refine ⟨_, C8.pss_cut (ps_setLc (i := 2) (own := [("number", 3)]) (g := gName 3) (tt := tYes) (by rfl) scLFree.nd rfl rfl (sw_true rfl rfl rfl (by decide +kernel)) (pi_range1 rfl T.range (pa_cons (pv 1) pa_nil)) (blkOk_by (N := NLf) (sc := defScope sLFree) (by decide +kernel))
        (fun _ _ _ _ _ => pg_name (i := 3) scLFree.nd rfl (Or.inl rfl)) (fun _ _ _ _ _ => pts_nil)
        (fun _ _ _ _ _ => pe_n HO_ hr (by decide) (by rfl) (pa_cons (pv 0) (pa_cons (pv 3) pa_nil))))
      (C8.pss_cut (ps_for PassesOwn.never rfl (pi_range1 rfl T.range (pa_cons (pv 1) pa_nil)) (pg_name (i := 4) scLFree.nd rfl (Or.inl rfl))
        (pss_one (ps_for PassesOwn.never rfl (pi_range2 rfl T.range (pa_cons (pe_op op_add (pv 4) pe_int) (pa_cons (pv 1) pa_nil))) (pg_name (i := 5) scLFree.nd rfl (Or.inl rfl))
          (pss_one (ps_for PassesOwn.never rfl (pi_range2 rfl T.range (pa_cons (pe_op op_add (pv 5) pe_int) (pa_cons (pv 1) pa_nil))) (pg_name (i := 6) scLFree.nd rfl (Or.inl rfl))
            (pss_one (ps_if (PW.pt (pw_and (pt_chain op_eq op_ne (pe_ix ix_list (pv 2) (pv 4) (fun _ _ => rfl)) (pe_ix ix_list (pv 2) (pv 6) (fun _ _ => rfl)) (pe_ix ix_list (pv 2) (pv 5) (fun _ _ => rfl)))
                (pw_and1 (pt_cmpR op_in_seq (pe_ix ix_list (pv 2) (pv 5) (fun _ _ => rfl)) (pe_slice sl_list (pv 2) (po_some (pe_op op_add (pv 6) pe_int)) po_none) (by rfl))))) (pss_one (ps_ret pe_bl)) pss_nil)))))))
      (pss_one (ps_ret pe_bl))), ?_⟩
    have lfe : lawFree p = freeB ((List.range (total p)).map fun n : Nat => home p n) := rfl
    have hl : ((List.range (total p)).map fun n : Nat => home p n).length = total p := by rw [List.length_map, List.length_range]
    refine ⟨fun σ H1 => ∃ L, Same H H1 ∧ H1 L = some (.lst (((List.range (total p)).map fun n : Nat => home p n).map fun k : Nat => V.int (k : Nat))) ∧ σ = [some v, some (.int (total p : Nat)), some (.ref L), none, none, none, none], ?_, ?_⟩
    · refine ⟨_, rfl, _, rfl, by omega, by omega, fun D hD => ?_⟩
      refine lc_it (walk_range (n := ((total p : Nat) : Int).toNat)) (fun i H2 => Same H H2 ∧ H2 D = some (.lst (((List.range i).map fun n : Nat => home p n).map fun k : Nat => V.int (k : Nat)))) ⟨same_new hD, upd_same⟩ (fun _ _ _ _ => trivial) ?_ ?_
      · rintro i x H2' H2 hi ⟨s2, hD2⟩ ⟨e2, ex⟩
        subst e2
        have ex2 : x = V.int (i : Nat) := by
          rw [ex]
          show V.int (0 + (i : Int)) = _
          rw [Int.zero_add]
        subst ex2
        have im : i < total p := by omega
        refine ⟨rfl, ?_⟩
        refine iteT (B := Same H H2 ∧ H2 D = some (.lst (((List.range (i + 1)).map fun n : Nat => home p n).map fun k : Nat => V.int (k : Nat)))) ?_
        refine ⟨_, rfl, _, rfl, v, p, (i : Nat), rfl, pp.mono s2, sz, hne i im, fun H3 s3 => ?_⟩
        refine ⟨_, s3 _ _ hD2, small1000 (by rw [List.length_map, List.length_map, List.length_range]; omega), fun c o e => (upd_ne (ne_of_none e hD)).trans (s3 c o (s2 c o e)), ?_⟩
        rw [upd_same, take_map_range, List.map_append]
        rfl
      · rintro H2 ⟨s2, hD2⟩
        exact ⟨D, s2, hD2, rfl⟩
    rintro σ H1 ⟨L, s1, gL, rfl⟩
    rw [lfe] at kk
    generalize ((List.range (total p)).map fun n : Nat => home p n) = hs at *
    generalize total p = m at *
    refine ⟨fun σ H2 => Same H1 H2 ∧ freeB hs = true, ?_, ?_⟩
    · refine ⟨_, rfl, _, rfl, by omega, by omega, for_range (n := ((m : Nat) : Int).toNat) (fun i σ H2 => Same H1 H2 ∧ (∀ near, near < i → ∀ spot, spot < m → near < spot → ∀ late, late < m → spot < late → hitB hs near spot late = false) ∧ ∃ v4 v5 v6, σ = [some v, some (.int (m : Nat)), some (.ref L), none, v4, v5, v6])
        ⟨fun _ _ z => z, fun _ c => absurd c (by omega), none, none, none, rfl⟩ ?_ ?_⟩
      · rintro near σ H2 hn ⟨u2, no, v4, v5, v6, rfl⟩
        rw [Int.zero_add]
        refine ⟨_, rfl, _, _, rfl, rfl, _, rfl, _, _, rfl, ⟨by omega, by omega, by omega, by omega⟩, for_range (lo := (near : Int) + 1) (n := ((m : Int) - ((near : Int) + 1)).toNat) (fun j σ H3 => Same H1 H3 ∧ (∀ spot, spot < near + 1 + j → near < spot → ∀ late, late < m → spot < late → hitB hs near spot late = false) ∧ ∃ v5 v6, σ = [some v, some (.int (m : Nat)), some (.ref L), none, some (.int (near : Nat)), v5, v6])
          ⟨u2, fun _ c1 c2 => absurd c1 (by omega), v5, v6, rfl⟩ ?_ ?_⟩
        · rintro j σ H3 hj ⟨u3, no2, v5, v6, rfl⟩
          have es : (near : Int) + 1 + (j : Nat) = ((near + 1 + j : Nat) : Int) := by omega
          rw [es]
          have sm : near + 1 + j < m := by omega
          have sn : near < near + 1 + j := by omega
          generalize esp : near + 1 + j = spot at *
          refine ⟨_, rfl, _, _, rfl, rfl, _, rfl, _, _, rfl, ⟨by omega, by omega, by omega, by omega⟩, for_range (lo := (spot : Int) + 1) (n := ((m : Int) - ((spot : Int) + 1)).toNat) (fun l σ H4 => Same H1 H4 ∧ (∀ late, late < spot + 1 + l → spot < late → hitB hs near spot late = false) ∧ ∃ v6, σ = [some v, some (.int (m : Nat)), some (.ref L), none, some (.int (near : Nat)), some (.int (spot : Nat)), v6])
            ⟨u3, fun _ c1 c2 => absurd c1 (by omega), v6, rfl⟩ ?_ ?_⟩
          · rintro l σ H4 hl2 ⟨u4, no3, v6, rfl⟩
            have es : (spot : Int) + 1 + (l : Nat) = ((spot + 1 + l : Nat) : Int) := by omega
            rw [es]
            have lm : spot + 1 + l < m := by omega
            have lsp : spot < spot + 1 + l := by omega
            have nxt : hitB hs near spot (spot + 1 + l) = false → ∀ late, late < spot + 1 + (l + 1) → spot < late → hitB hs near spot late = false := fun c1 late c2 c3 => by
              by_cases e : late = spot + 1 + l
              · rw [e]; exact c1
              · exact no3 late (by omega) c3
            have bad : hitB hs near spot (spot + 1 + l) = true → ∀ H5, Same H1 H5 → Q (.bl false) H5 := fun c H5 u5 => by
              have k1 := kk H5 (s1.trans u5)
              rw [freeB_false (by omega) (by omega) (by omega) sn lsp c] at k1
              exact k1
            generalize elt : spot + 1 + l = late at *
            have e1 := nat_get (hs := hs) (k := near) (by omega)
            have e2 := nat_get (hs := hs) (k := late) (by omega)
            have e3 := nat_get (hs := hs) (k := spot) (by omega)
            have g1 := SqL.of (K := K) (u4 _ _ gL)
            unfold hitB at nxt bad
            refine ⟨_, rfl, _, rfl, L, _, _, _, rfl, rfl, g1, atI_nat e1, _, rfl, _, rfl, L, _, _, _, rfl, rfl, g1, atI_nat e2, rfl, _, rfl, ?_⟩
            refine ite2 (fun c1 => ?_) (fun c1 => ?_)
            · have d1 : hs.getD near 0 = hs.getD late 0 := by
                have := V.int.inj (of_decide_eq_true c1)
                omega
              refine ⟨_, rfl, _, rfl, L, _, _, _, rfl, rfl, g1, atI_nat e3, rfl, _, rfl, ?_⟩
              refine ite2 (fun c2 => ?_) (fun c2 => ?_)
              · have d2 : hs.getD late 0 ≠ hs.getD spot 0 := fun z => by
                  rw [z] at c2
                  simp at c2
                refine ⟨_, rfl, _, rfl, L, _, _, _, rfl, rfl, g1, atI_nat e3, _, rfl, _, rfl, _, _, rfl, rfl, _, rfl, L, _, rfl, g1, fun q hq => ?_⟩
                have u5 := same_new (o := .lst (cutV (hs.map fun k : Nat => V.int (k : Nat)) (some ((late : Int) + 1)) none)) hq
                have ec : cutV (hs.map fun k : Nat => V.int (k : Nat)) (some ((late : Int) + 1)) none = (hs.drop (late + 1)).map fun k : Nat => V.int (k : Nat) := by
                  rw [show (late : Int) + 1 = ((late + 1 : Nat) : Int) by omega, cut_from (by rw [List.length_map]; omega), List.map_drop]
                rw [ec] at u5 ⊢
                refine ⟨q, _, rfl, .inl (SqL.of upd_same), rfl, flat_nats _, _, rfl, ?_⟩
                show (if inV _ _ = true then _ else _)
                rw [inV_nats]
                rw [decide_eq_true d1, decide_eq_true d2, Bool.true_and, Bool.true_and] at nxt bad
                refine ite2 (fun c3 => ?_) (fun c3 => ?_)
                · exact bad c3 _ (u4.trans u5)
                · exact ⟨u4.trans u5, nxt (Bool.eq_false_iff.mpr c3), _, rfl⟩
              · have d2 : hs.getD late 0 = hs.getD spot 0 := Decidable.byContradiction fun z => c2 (by
                  rw [Bool.not_eq_true', decide_eq_false_iff_not]
                  intro y
                  exact z (by have := V.int.inj y; omega))
                exact ⟨u4, nxt (by rw [decide_eq_false (p := hs.getD late 0 ≠ hs.getD spot 0) (fun z => z d2), Bool.false_and, Bool.and_false]), _, rfl⟩
            · have d1 : hs.getD near 0 ≠ hs.getD late 0 := fun z => c1 (by rw [z]; exact decide_eq_true rfl)
              exact ⟨_, rfl, u4, nxt (by rw [decide_eq_false d1, Bool.false_and]), _, rfl⟩
          · rintro σ H4 ⟨u4, no3, v6, rfl⟩
            refine ⟨u4, fun spot' c1 c2 late c3 c4 => ?_, _, _, rfl⟩
            by_cases e : spot' = spot
            · subst e
              exact no3 late (by omega) c4
            · exact no2 spot' (by omega) c2 late c3 c4
        · rintro σ H3 ⟨u3, no2, v5, v6, rfl⟩
          refine ⟨u3, fun near' c1 spot c2 c3 late c4 c5 => ?_, _, _, _, rfl⟩
          by_cases e : near' = near
          · subst e
            exact no2 spot (by omega) c3 late c4 c5
          · exact no near' (by omega) spot c2 c3 late c4 c5
      · rintro σ H2 ⟨u2, no, v4, v5, v6, rfl⟩
        exact ⟨u2, freeB_true fun near c1 spot c2 c3 late c4 c5 => no near (by omega) spot (by omega) c3 late (by omega) c5⟩
    rintro σ H2 ⟨u2, e⟩
    have k1 := kk H2 (s1.trans u2)
    rw [e] at k1
    exact k1
end
end Rs


set_option Elab.async false
set_option linter.all false
set_option maxRecDepth 100000
set_option maxHeartbeats 1000000
namespace Rs
open PySem L2 Bs LamX Pg RZ
abbrev sLKind : Stmt := top 79
abbrev NLk : List Str := ["kind", "parting", "many", "block"]
theorem sum_len (p : Prt) : (p.map fun b => (b.length : Int)).sum = (total p : Int) := by
  unfold total
  induction p with
  | nil => rfl
  | cons b p ih =>
    rw [List.map_cons, List.sum_cons, ih, List.map_cons, List.sum_cons]
    omega
theorem eqv_empty (ns : List Int) : PyData.eqv (.list (ns.map PyData.int)) (.list []) = ns.isEmpty := by
  cases ns <;> simp [PyData.eqv, PyData.eqvAll]
section
variable {P : Program} {w : World} {K : PySem.W.Frag} {mg : Str → Option Value} {base : Heap} {f : Addr} {fd : FuncData}
theorem scLKind : FnScope NLk ["kind", "parting"] (defScope sLKind) := ⟨rfl, rfl, rfl, by decide +kernel, rfl, by decide +kernel, by decide +kernel⟩
theorem ok_lkind (F : Fun K "_law_is_kind" "_law_is_kind" sLKind f fd) (T : Blt mg) (su : mg "sum" = none) (LF : Cal P w K mg base 2 "_law_is_free" (spLFree K)) : FnOk P w K mg base CX0 3 f fd ["kind", "parting"] (spLKind K) := by
  refine F.ok scLKind (fun vs H Q E h => ?_) (fun cdv A outer s H vs Q E hr h => ?_)
  · obtain ⟨k, v, p, rfl, _⟩ := h
    rfl
  · obtain ⟨k, v, p, rfl, pp, sz, ho, kk⟩ := h
    refine ⟨_, C8.pss_cut (ps_set (i := 2) scLKind.nd rfl (Or.inl rfl) (pe_callB (cr_sum rfl) (by rfl) su (by decide +kernel) (pa_cons (pe_lc (own := [("block", 3)]) (g := gName 3) (tt := tYes) rfl scLKind.nd (pi_tup (pv 1)) (blkOk_by (N := NLk) (sc := defScope sLKind) (by decide +kernel))
          (fun _ _ _ _ _ => pg_name (i := 3) scLKind.nd rfl (Or.inl rfl)) (fun _ _ _ _ _ => pts_nil)
          (fun _ _ _ _ _ => pe_callB (id := "len") (r := rLenK K) call_len_seq (by rfl) T.len (by decide +kernel) (pa_cons (pv 3) pa_nil))) pa_nil)))
      (pss_cons (ps_if (pt_cmpR op_eq (pv 0) pe_str (nomark _)) (pss_one (ps_ret (pe_n LF hr (by decide) (by rfl) (pa_cons (pv 1) (pa_cons (pv 2) pa_nil))))) pss_nil)
      (pss_one (ps_ret (pe_or (pe_cmpR op_eq (pv 0) pe_str (nomark _)) (pe_one (pe_cmpR (op_eqD hr.units) (pe_lc (own := [("block", 3)]) (g := gName 3) rfl scLKind.nd (pi_tup (pv 1)) (blkOk_by (N := NLk) (sc := defScope sLKind) (by decide +kernel))
          (fun _ _ _ _ _ => pg_name (i := 3) scLKind.nd rfl (Or.inl rfl))
          (fun _ _ _ _ _ => pts_one (pt_cmpR op_ge (pe_op (r := rSub) op_sub (pe_ix (r := rIxT K) ix_tup (pv 3) (pe_un (r := rU fun i => V.int (-i)) un_neg pe_int) (fun _ _ => rfl)) (pe_ix (r := rIxT K) ix_tup (pv 3) pe_int (fun _ _ => rfl))) (pe_callB (id := "len") (r := rLenK K) call_len_seq (by rfl) T.len (by decide +kernel) (pa_cons (pv 3) pa_nil)) (nomark _)))
          (fun _ _ _ _ _ => pe_int)) (pe_lst pa_nil) (nomark _))))))), ?_⟩
    obtain ⟨a, xs, rfl, sx, all⟩ := id pp
    obtain ⟨l8, bl⟩ := size_blk sz
    have lx := all.len
    refine ⟨fun σ H1 => Same H H1 ∧ σ = [some (.str (kdS k)), some (.ref a), some (.int (total p : Nat)), none], ?_, ?_⟩
    · refine ⟨_, rfl, a, rfl, ⟨_, sx⟩, fun D hD => lc_tup (K := K) (a := a) (xs := xs) (fun i H2 => Same H H2 ∧ H2 D = some (.lst (((p.take i).map fun b => (b.length : Int)).map V.int))) ⟨same_new hD, upd_same⟩ (fun i H2 _ z => Bs.Same.t z.1 sx) ?_ ?_⟩
      · rintro i x H2 hx ⟨s2, hD2⟩
        obtain ⟨b, hb, c, rfl, sc⟩ := all.get hx
        refine ⟨rfl, ?_⟩
        refine iteT (B := Same H H2 ∧ H2 D = some (.lst (((p.take (i + 1)).map fun b => (b.length : Int)).map V.int))) ?_
        refine ⟨_, rfl, c, _, rfl, .inr (Bs.Same.t s2 sc), _, hD2, small1000 (by rw [List.length_map, List.length_map, List.length_take]; omega), fun c o e => (upd_ne (ne_of_none e hD)).trans (s2 c o e), ?_⟩
        rw [upd_same, take_one hb, List.map_append, List.map_append, List.length_map]
        rfl
      · rintro H2 ⟨s2, hD2⟩
        rw [lx, List.take_length] at hD2
        refine ⟨D, _, rfl, SqL.of hD2, s2, ?_⟩
        rw [sum_len]
        rfl
    rintro σ H1 ⟨s1, rfl⟩
    have sx1 := Bs.Same.t s1 sx
    refine ⟨_, rfl, rfl, _, rfl, ?_⟩
    cases k with
    | free =>
      refine ite2 (fun _ => ?_) (fun c => absurd (decide_eq_true rfl) c)
      exact ⟨_, rfl, _, rfl, _, p, rfl, pp.mono s1, sz, ho, fun H2 s2 => kk H2 (s1.trans s2)⟩
    | all =>
      refine ite2 (fun c => absurd c (by decide +kernel)) (fun _ => ?_)
      refine ⟨_, rfl, rfl, _, rfl, ?_⟩
      refine ite2 (fun _ => ?_) (fun c => absurd (decide_eq_true rfl) c)
      exact kk H1 s1
    | str =>
      refine ite2 (fun c => absurd c (by decide +kernel)) (fun _ => ?_)
      refine ⟨_, rfl, rfl, _, rfl, ?_⟩
      refine ite2 (fun c => absurd c (by decide +kernel)) (fun _ => ?_)
      refine ⟨_, rfl, a, rfl, ⟨_, sx1⟩, fun D hD => lc_tup (K := K) (a := a) (xs := xs) (fun i H2 => Same H1 H2 ∧ H2 D = some (.lst ((((p.take i).filter fun b => decide ((b.length : Int) ≤ ltI b - hdI b)).map fun _ => (1 : Int)).map V.int))) ⟨same_new hD, upd_same⟩ (fun i H2 _ z => Bs.Same.t z.1 sx1) ?_ ?_⟩
      · rintro i x H2 hx ⟨s2, hD2⟩
        obtain ⟨b, hb, ib⟩ := all.get hx
        have bb := bl b (List.mem_of_getElem? hb)
        obtain ⟨c, rfl, sc⟩ := id ib
        have sc2 := Bs.Same.t (s1.trans s2) sc
        have ne : b.map V.int ≠ [] := fun z => by
          have := congrArg List.length z
          rw [List.length_map] at this
          have h0 : b.length = 0 := this
          omega
        have g0 : (b.map V.int)[0]? = some (V.int (hdI b)) := by rw [List.getElem?_map, hd_at bb.2]; rfl
        have g1 : (b.map V.int)[(b.map V.int).length - 1]? = some (V.int (ltI b)) := by rw [List.length_map, List.getElem?_map, lt_at bb.2]; rfl
        have lf := List.length_filter_le (fun b : Blk => decide ((b.length : Int) ≤ ltI b - hdI b)) (p.take i)
        rw [List.length_take] at lf
        refine ⟨rfl, ?_⟩
        refine ⟨_, rfl, _, rfl, c, _, _, _, rfl, rfl, sc2, atI_neg1 ne g1, _, rfl, c, _, _, _, rfl, rfl, sc2, atI_nat (j := 0) g0, _, _, rfl, rfl, _, rfl, c, _, rfl, .inr sc2, _, _, rfl, rfl, _, rfl, ?_⟩
        rw [take_one hb, List.filter_append, List.map_append, List.map_append, List.length_map]
        refine ite2 (fun c => ?_) (fun c => ?_)
        · refine ⟨_, hD2, small1000 (by rw [List.length_map, List.length_map]; omega), fun c o e => (upd_ne (ne_of_none e hD)).trans (s2 c o e), ?_⟩
          rw [upd_same, List.filter_cons_of_pos (p := fun b : Blk => decide ((b.length : Int) ≤ ltI b - hdI b)) c]
          rfl
        · rw [List.filter_cons_of_neg (p := fun b : Blk => decide ((b.length : Int) ≤ ltI b - hdI b)) c]
          show _ ∧ _ = some (HO.lst (_ ++ []))
          rw [List.append_nil]
          exact ⟨s2, hD2⟩
      · rintro H2 ⟨s2, hD2⟩
        rw [lx, List.take_length] at hD2
        refine ⟨(by show 0 ≤ sizeLine; decide), fun q hq => ?_⟩
        have s3 := same_new (o := .lst []) hq
        refine ⟨_, _, .lst (SqL.of (s3 _ _ hD2)) (dpInts _), .lst (SqL.of upd_same) .nil, shaped_ints _, rfl, ?_⟩
        rw [eqv_empty]
        have e : ((p.filter fun b => decide ((b.length : Int) ≤ ltI b - hdI b)).map fun _ => (1 : Int)).isEmpty = lawKind .str p := by
          rw [List.isEmpty_map]
          show _ = p.all fun b => !decide (ltI b - hdI b ≥ b.length)
          clear hD2 sx1 sx all lx kk pp sz ho l8 bl
          induction p with
          | nil => rfl
          | cons b p ih =>
            rw [List.filter_cons, List.all_cons, ← ih]
            by_cases c : (b.length : Int) ≤ ltI b - hdI b
            · rw [if_pos (decide_eq_true c), decide_eq_true (p := ltI b - hdI b ≥ b.length) c]
              rfl
            · rw [if_neg (by simpa using c), decide_eq_false (p := ltI b - hdI b ≥ b.length) c]
              rfl
        rw [e]
        exact kk _ ((s1.trans s2).trans s3)
end
end Rs


set_option Elab.async false
set_option linter.all false
set_option maxRecDepth 100000
set_option maxHeartbeats 400000
namespace Rs
open PySem L2 Bs Fq
/-- the class x, its __init__: self.given = given -/
structure Err (K : PySem.W.Frag) (mg : Str → Option Value) (x : Str) (qual : Str) (st : Stmt) (C : Addr) : Prop where
  gC : mg x = some (.ref C)
  oex : OexC K C
  xf : XfC K C
  no : PySem.W.findIn K (.ref C) "given" = some none
  ini : ∃ (fI : Addr) (fd : FuncData), PySem.W.findIn K (.ref C) "__init__" = some (some (.ref fI)) ∧ PySem.W.typeIn K (.ref fI) = some (.type "function") ∧ Fun K "__init__" qual st fI fd ∧ Binds K fd ["self", "given"] []
def spInit (K : PySem.W.Frag) (C : Addr) : Sp := fun vs H Q _ => ∃ (a : Addr) (y : V), vs = [.ref a, y] ∧ H a = some (exo a C none) ∧
  ∀ dx, H dx = none → dx ≠ a → Q .non (upd (upd H dx (exd dx [("given", y)])) a (exo a C (some dx)))
section
variable {P : Program} {w : World} {K : PySem.W.Frag} {mg : Str → Option Value} {base : Heap} {f : Addr} {fd : FuncData}
/-- such an error may be made by its name -/
structure ErrOk (P : Program) (w : World) (K : PySem.W.Frag) (mg : Str → Option Value) (base : Heap) (x : Str) (C : Addr) : Prop where
  gC : mg x = some (.ref C)
  oex : OexC K C
  ini : ∃ (fI : Addr) (fd : FuncData), PySem.W.findIn K (.ref C) "__init__" = some (some (.ref fI)) ∧ PySem.W.typeIn K (.ref fI) = some (.type "function") ∧ FnOk P w K mg base CX0 1 fI fd ["self", "given"] (spInit K C) ∧ Binds K fd ["self", "given"] []
end
/-- the way out with an error of the class at C that carries v -/
def Out (E : XK) (C : Addr) (v : V) (H : Hp) : Prop := ∀ d : Addr, H d = none → E (.ref C) (some d) (upd H d (.xd [("given", v)]))
/-- raise x(e) -/
def tRz (C : Addr) (W : WX) (te : TE) : TS := fun _ σ H => te σ H fun v H1 => ∀ d : Addr, H1 d = none → W (.ref C) (some d) σ (upd H1 d (.xd [("given", v)]))
theorem ps_rz {X : Cx} {x : Str} {C : Addr} {j : Nat} {e : Expr} {te : TE} {W : WX} {p pos pos2 : Pos} (hc : X.calm = true) (T : ErrOk X.prog X.w X.K X.mg X.base x C) (hr : Room j X.A) (hj : 2 ≤ j) (tk : Takes X W) (he : PE X e te) (hg : Gl X x)
    (hdb : (x == ("__debug__" : Str)) = false := by decide) (hs : starEach (e :: []) X.env = (false, eval e X.env) :: starEach [] X.env := by rfl) (hpl : (backTo pos (starEach [] X.env)).any (·.1) = false := by rfl) :
    PS X (.Raise (some (.Call (.Name x p) [e] [] pos)) none pos2) (tRz C W te) := by
  obtain ⟨fI, fd, iC, tI, F1, b⟩ := T.ini
  have h := ps_raise (pos := pos2) hc tk (pmk_oex (x := x) (p := p) (pos := pos) T.oex iC tI F1 (hr.mono hj) b .nil pass0 hg T.gC (pa_cons (pe_weak he) pa_nil hs) hdb hs hpl)
  constructor
  intro pins s σ H D I q
  refine h.run pins s σ H D I ?_
  refine ⟨_, q, fun v H1 z => ?_⟩
  refine ⟨(by show 1 ≤ 1000; decide), fun a ha => ⟨a, v, rfl, upd_same, fun dx n1 n2 => ⟨rfl, dx, [("given", v)], upd_same, ?_, ?_, ?_⟩⟩⟩
  · rw [upd_ne n2]
    exact upd_same
  · rw [upd_ne n2] at n1
    exact n1
  · rw [upd_ne n2] at n1
    show W _ _ _ (upd (del _ a) dx _)
    rw [heap_end ha n2]
    exact z dx n1
end Rs


set_option Elab.async false
set_option linter.all false
set_option maxRecDepth 100000
set_option maxHeartbeats 400000
namespace Rs
open PySem L2 Bs Fq
def spNeedB (K : PySem.W.Frag) (C : Addr) : Sp := fun vs H Q E => ∃ (v : V) (d : PyData) (lo hi : Int), vs = [v, .int lo, .int hi] ∧ Dp K H v d ∧ (betwD lo hi d = true → Q v H) ∧ (betwD lo hi d = false → Out E C v H)
section
variable {P : Program} {w : World} {K : PySem.W.Frag} {mg : Str → Option Value} {base : Heap} {f : Addr} {fd : FuncData} {CF CN : Addr}
theorem ok_needB (F : Fun K "need_between" "need_between" sNeedB f fd) (T : ErrOk P w K mg base "BadNumber" CN) (W : Cal P w K mg base 2 "is_between" (spBetween K)) : FnOk P w K mg base (L2.CX P w) 3 f fd ["thing", "low", "high"] (spNeedB K CN) := by
  refine F.okX sc19 (fun vs H Q E h => ?_) (fun cdv A outer s H vs Q E hr h => ?_)
  · obtain ⟨v, d, lo, hi, rfl, _⟩ := h
    rfl
  · obtain ⟨v, d, lo, hi, rfl, hd, k1, k2⟩ := h
    refine ⟨_, pss_cons (ps_if (pt_not (pt_val (pe_n W hr (by decide) (by rfl) (pa_cons (pv 0) (pa_cons (pv 1) (pa_cons (pv 2) pa_nil)))))) (pss_one (ps_rz rfl T hr (by decide) (takes_of rfl rfl rfl rfl) (pv 0) (by rfl))) pss_nil) (pss_one (ps_ret (pv 0))), ?_⟩
    refine ⟨_, rfl, _, rfl, _, rfl, v, d, lo, hi, rfl, hd, _, rfl, ?_⟩
    cases e : betwD lo hi d with
    | true => exact iteF ⟨_, rfl, k1 e⟩
    | false => exact iteT ⟨_, rfl, k2 e⟩
end
end Rs


set_option Elab.async false
set_option linter.all false
set_option maxRecDepth 100000
set_option maxHeartbeats 400000
namespace Rs
open PySem L2 Bs Fq
abbrev sOf : Stmt := top 75
end Rs


set_option Elab.async false
set_option linter.all false
set_option maxRecDepth 100000
set_option maxHeartbeats 400000
namespace Rs
open PySem L2 Bs Fq
/-- _law_of(state, some) -/
def spOf (K : PySem.W.Frag) : Sp := fun vs H Q _ => ∃ (p c l b : Addr) (n : Nat) (t : Int) (xs : List V), vs = [.ref p, .ref b] ∧ Sta H p c l n t ∧ t ≤ 10000 ∧ SqL K H b xs ∧ 1 ≤ xs.length ∧ xs.length ≤ 1000 ∧ b ≠ l ∧
  ∀ (H' : Hp) (v : V), v ∈ xs → Sta H' p c l n (t + 1) → Kp p l H H' → Q v H'
end Rs


set_option Elab.async false
set_option linter.all false
set_option maxRecDepth 100000
set_option maxHeartbeats 1000000
namespace Rs
open PySem L2 Bs LamX Pg RZ
theorem cutTl {xs : List V} : cutV xs (some 1) none = xs.drop 1 := by
  by_cases h : 1 ≤ xs.length
  · exact cut_from (k := 1) h
  · have : xs = [] := List.eq_nil_of_length_eq_zero (by omega)
    subst this
    rfl
end Rs


set_option Elab.async false
set_option linter.all false
set_option maxRecDepth 100000
set_option maxHeartbeats 1000000
namespace Rs
open PySem L2 Bs LamX Pg RZ
abbrev sIsBlk : Stmt := top 32
abbrev sIsPart : Stmt := top 33
abbrev sNeedPart : Stmt := top 34
def spIsBlk (K : PySem.W.Frag) : Sp := fun vs H Q _ => ∃ (v : V) (b : Blk), vs = [v] ∧ It K H v b ∧ isBlk b = true ∧ b.length ≤ 500 ∧ ∀ H', Same H H' → Q (.bl true) H'
theorem all_true (n : Nat) : (List.replicate n true).all id = true := by
  rw [List.all_eq_true]
  intro x hx
  rw [(List.mem_replicate.mp hx).2]
  rfl
section
variable {P : Program} {w : World} {K : PySem.W.Frag} {mg : Str → Option Value} {base : Heap} {f : Addr} {fd : FuncData}
abbrev NBk : List Str := ["thing", "number", "one", "other"]
theorem scIsBlk : FnScope NBk ["thing"] (defScope sIsBlk) := ⟨rfl, rfl, rfl, by decide +kernel, rfl, by decide +kernel, by decide +kernel⟩
theorem ok_isBlk (F : Fun K "is_block" "is_block" sIsBlk f fd) (T : Blt mg) (al : mg "all" = none) (zp : mg "zip" = none) (M : MostN mg) (BE : Cal P w K mg base 2 "is_between" (spBetween K)) : FnOk P w K mg base CX0 3 f fd ["thing"] (spIsBlk K) := by
  refine F.ok scIsBlk (fun vs H Q E h => ?_) (fun cdv A outer s H vs Q E hr h => ?_)
  · obtain ⟨v, b, rfl, _⟩ := h
    rfl
  · obtain ⟨v, b, rfl, iv, ib, l5, kk⟩ := h
    obtain ⟨t7, m7⟩ := M.ex
    refine ⟨_, pss_cons (ps_if (PW.pt (pw_or (pt_not (pt_val (pe_callB call_isi (by rfl) T.isinstance (by decide +kernel) (pa_cons (pv 0) (pa_cons (pe_bltn (v := .ty "tuple") (by rfl) T.tuple (by decide +kernel) rfl) pa_nil)))))
        (pw_or1 (pt_cmpR op_eq (pe_callB call_len_seq (by rfl) T.len (by decide +kernel) (pa_cons (pv 0) pa_nil)) pe_int (nomark _))))) (pss_one (ps_ret pe_bl)) pss_nil)
      (C8.pss_cut (ps_if (pt_not (pt_val (pe_callB (cr_all rfl) (by rfl) al (by decide +kernel) (pa_cons (pe_lc (own := [("number", 1)]) (g := gName 1) (tt := tYes) rfl scIsBlk.nd (pi_tup (pv 0)) (blkOk_by (N := NBk) (sc := defScope sIsBlk) (by decide +kernel))
          (fun _ _ _ _ _ => pg_name (i := 1) scIsBlk.nd rfl (Or.inl rfl)) (fun _ _ _ _ _ => pts_nil)
          (fun _ _ _ _ _ => pe_n BE hr (by decide) (by rfl) (pa_cons (pv 1) (pa_cons pe_int (pa_cons (pe_op (r := rSub) op_sub (pe_glob (v := .int 7) (by rfl) m7 ⟨t7, rfl⟩) pe_int) pa_nil))))) pa_nil)))) (pss_one (ps_ret pe_bl)) pss_nil)
      (pss_one (ps_ret (pe_callB (cr_all rfl) (by rfl) al (by decide +kernel) (pa_cons (pe_lc (own := [("one", 2), ("other", 3)]) (g := gTup K 2 (gCons (gName 2) (gCons (gName 3) gNil))) (tt := tYes) rfl scIsBlk.nd
          (pi_zipA (by rfl) zp (pa_cons (pv 0) (pa_cons (pe_slice sl_tupA (pv 0) (po_some pe_int) po_none) pa_nil))) (blkOk_by (N := NBk) (sc := defScope sIsBlk) (by decide +kernel))
          (fun _ _ _ _ _ => pg_tup rfl (pgs_cons (pg_name (i := 2) scIsBlk.nd rfl (Or.inl rfl)) (pgs_cons (pg_name (i := 3) scIsBlk.nd rfl (Or.inl rfl)) pgs_nil))) (fun _ _ _ _ _ => pts_nil)
          (fun _ _ _ _ _ => pe_cmpR op_lt (pv 2) (pv 3) (nomark _))) pa_nil))))), ?_⟩
    have hd := iv.dp
    obtain ⟨a, rfl, sa⟩ := iv
    have ib2 := ib
    unfold isBlk at ib2
    rw [Bool.and_eq_true, Bool.and_eq_true, List.all_eq_true, List.all_eq_true] at ib2
    obtain ⟨ne, bt, lt_⟩ := ib2
    have l0 : 0 < b.length := by
      cases b with
      | nil => cases ne
      | cons _ _ => exact Nat.succ_pos _
    refine ⟨_, rfl, _, _, _, _, _, rfl, .ty _, hd.ty, kitT K _, _, rfl, ?_⟩
    refine iteF ⟨_, rfl, a, _, rfl, .inr sa, rfl, _, rfl, ?_⟩
    refine ite2 (fun c => ?_) (fun _ => ?_)
    · have c2 : ((b.map V.int).length : Int) = 0 := by simpa using c
      rw [List.length_map] at c2
      omega
    refine ⟨fun σ H1 => Same H H1 ∧ σ = [some (.ref a), none, none, none], ?_, ?_⟩
    · refine ⟨_, rfl, a, rfl, ⟨_, sa⟩, fun D hD => lc_tup (K := K) (a := a) (xs := b.map V.int) (fun i H2 => Same H H2 ∧ H2 D = some (.lst ((List.replicate i true).map V.bl))) ⟨same_new hD, upd_same⟩ (fun i H2 _ z => Bs.Same.t z.1 sa) ?_ ?_⟩
      · rintro i x H2 hx ⟨s2, hD2⟩
        obtain ⟨t, ht, rfl⟩ := some_int hx
        have hi : i < b.length := (List.getElem?_eq_some_iff.mp ht).1
        have tb : betwD 0 (7 - 1) (.int t) = true := bt t (List.mem_of_getElem? ht)
        refine ⟨rfl, ?_⟩
        refine iteT (B := Same H H2 ∧ H2 D = some (.lst ((List.replicate (i + 1) true).map V.bl))) ?_
        refine ⟨_, rfl, _, _, rfl, rfl, _, .int t, 0, 7 - 1, rfl, .int t, ?_⟩
        rw [tb]
        refine ⟨_, hD2, small1000 (by rw [List.length_map, List.length_replicate]; omega), fun c o e => (upd_ne (ne_of_none e hD)).trans (s2 c o e), ?_⟩
        rw [upd_same, List.replicate_succ', List.map_append]
        rfl
      · rintro H2 ⟨s2, hD2⟩
        refine ⟨D, _, rfl, SqL.of hD2, _, rfl, ?_⟩
        rw [all_true]
        exact iteF ⟨s2, rfl⟩
    rintro σ H1 ⟨s1, rfl⟩
    have sa1 := Bs.Same.t s1 sa
    refine ⟨_, rfl, _, rfl, 1, rfl, ?_⟩
    unfold tNoPart
    refine sl_cut sa1 cutTl fun c H2 s2 sc => ?_
    have sa2 := Bs.Same.t s2 sa1
    refine ⟨a, c, b.map V.int, (b.map V.int).drop 1, rfl, .inr ⟨sa2, sc, fun D hD => ?_⟩⟩
    refine lc_it (walk_zipT (xs := b.map V.int) (ys := (b.map V.int).drop 1) (n := (prs b).length) (by unfold prs; rw [List.length_zip, List.length_map, List.length_drop, List.length_map, List.length_tail])) (fun i H3 => Same H2 H3 ∧ H3 D = some (.lst ((List.replicate i true).map V.bl))) ⟨same_new hD, upd_same⟩ (fun i H3 _ z => ⟨Bs.Same.t z.1 sa2, Bs.Same.t z.1 sc⟩) ?_ ?_
    · rintro i x H3 H4 hi ⟨s3, hD3⟩ ⟨T', x', y', rfl, hT, rfl, h1, h2⟩
      have h1' : (b.map V.int)[i]? = some x' := h1
      have h2' : ((b.map V.int).drop 1)[i]? = some y' := h2
      obtain ⟨t, ht, rfl⟩ := some_int h1'
      rw [List.getElem?_drop, Nat.add_comm] at h2'
      obtain ⟨u, hu, rfl⟩ := some_int h2'
      have hp := lt_ (t, u) (List.mem_of_getElem? (prs_get ht hu))
      have s4 := same_new (o := .tup [.int t, .int u]) hT
      have hl : (prs b).length ≤ b.length := by
        unfold prs
        rw [List.length_zip]
        omega
      refine ⟨T', _, rfl, SqT.of upd_same, rfl, _, _, rfl, _, _, rfl, rfl, rfl, ?_⟩
      refine iteT (B := Same H2 (upd H3 T' (.tup [.int t, .int u])) ∧ upd H3 T' (.tup [.int t, .int u]) D = some (.lst ((List.replicate (i + 1) true).map V.bl))) ?_
      refine ⟨_, rfl, _, rfl, _, _, rfl, rfl, ?_⟩
      refine ⟨_, s4 _ _ hD3, small1000 (by rw [List.length_map, List.length_replicate]; omega), fun c o e => (upd_ne (ne_of_none e hD)).trans (s4 c o (s3 c o e)), ?_⟩
      rw [upd_same, List.replicate_succ', List.map_append]
      show some (HO.lst (_ ++ [V.bl (decide (t < u))])) = _
      rw [show decide (t < u) = true from hp]
      rfl
    · rintro H3 ⟨s3, hD3⟩
      refine ⟨D, _, rfl, SqL.of hD3, ?_⟩
      rw [all_true]
      exact kk H3 ((s1.trans s2).trans s3)
end
end Rs


set_option Elab.async false
set_option linter.all false
set_option maxRecDepth 100000
set_option maxHeartbeats 1000000
namespace Rs
open PySem L2 Bs LamX Pg RZ
def spIsPart (K : PySem.W.Frag) : Sp := fun vs H Q _ => ∃ (v : V) (p : Prt), vs = [v] ∧ Pt K H v p ∧ validB p = true ∧ sizeB p = true ∧ ∀ H', Same H H' → Q (.bl true) H'
def spNeedPart (K : PySem.W.Frag) : Sp := fun vs H Q _ => ∃ (v : V) (p : Prt), vs = [v] ∧ Pt K H v p ∧ validB p = true ∧ sizeB p = true ∧ ∀ H', Same H H' → Q v H'
abbrev NIp : List Str := ["thing", "numbers", "block", "one", "other", "number"]
theorem any_falseR (n : Nat) : (List.replicate n false).any id = false := by
  rw [List.any_eq_false]
  intro x hx
  rw [(List.mem_replicate.mp hx).2]
  decide
theorem zip_get {α : Type} {b : List α} {i : Nat} {t u : α} (h1 : b[i]? = some t) (h2 : b[i + 1]? = some u) : (b.zip b.tail)[i]? = some (t, u) := by
  rw [List.getElem?_zip_eq_some]
  refine ⟨h1, ?_⟩
  rw [List.getElem?_tail]
  exact h2
theorem flatten_one {α : Type} {l : List (List α)} {i : Nat} {x : List α} (h : l[i]? = some x) : (l.take (i + 1)).flatten = (l.take i).flatten ++ x := by
  rw [take_one h, List.flatten_append]
  simp
theorem flatten_len {p : Prt} (h : ∀ b ∈ p, b.length ≤ 8) : p.flatten.length ≤ 8 * p.length := by
  induction p with
  | nil => exact Nat.zero_le _
  | cons b p ih =>
    rw [List.flatten_cons, List.length_append, List.length_cons]
    have h1 := h b List.mem_cons_self
    have := ih fun c hc => h c (List.mem_cons_of_mem _ hc)
    omega
theorem ints_uniq {l m : List Int} (hl : l.Pairwise (· ≤ ·)) (hm : m.Pairwise (· ≤ ·)) (h : l.Perm m) : l = m := h.eq_of_pairwise (fun p q _ _ a b => Int.le_antisymm a b) hl hm
theorem ints_srt (n : Nat) : ((List.range n).map fun i : Nat => (i : Int)).Pairwise (· ≤ ·) := by
  rw [List.pairwise_map]
  exact List.pairwise_lt_range.imp fun {a b} h => by omega
section
variable {P : Program} {w : World} {K : PySem.W.Frag} {mg : Str → Option Value} {base : Heap} {f : Addr} {fd : FuncData}
theorem scIsPart : FnScope NIp ["thing"] (defScope sIsPart) := ⟨rfl, rfl, rfl, by decide +kernel, rfl, by decide +kernel, by decide +kernel⟩
theorem ok_isPart (F : Fun K "is_parting" "is_parting" sIsPart f fd) (T : Blt mg) (al : mg "all" = none) (an : mg "any" = none) (zp : mg "zip" = none) (so : mg "sorted" = none) (IB : Cal P w K mg base 3 "is_block" (spIsBlk K)) : FnOk P w K mg base CX0 4 f fd ["thing"] (spIsPart K) := by
  refine F.ok scIsPart (fun vs H Q E h => ?_) (fun cdv A outer s H vs Q E hr h => ?_)
  · obtain ⟨v, p, rfl, _⟩ := h
    rfl
  · obtain ⟨v, p, rfl, pv_, vb, sz, kk⟩ := h
    refine ⟨_, C8.pss_cut (ps_if (PW.pt (pw_or (pt_not (pt_val (pe_callB call_isi (by rfl) T.isinstance (by decide +kernel) (pa_cons (pv 0) (pa_cons (pe_bltn (v := .ty "tuple") (by rfl) T.tuple (by decide +kernel) rfl) pa_nil)))))
        (pw_or1 (pt_not (pt_val (pe_callB (cr_all rfl) (by rfl) al (by decide +kernel) (pa_cons (pe_lc (own := [("block", 2)]) (g := gName 2) (tt := tYes) rfl scIsPart.nd (pi_tup (pv 0)) (blkOk_by (N := NIp) (sc := defScope sIsPart) (by decide +kernel))
          (fun _ _ _ _ _ => pg_name (i := 2) scIsPart.nd rfl (Or.inl rfl)) (fun _ _ _ _ _ => pts_nil)
          (fun _ _ _ _ _ => pe_n IB hr (by decide) (by rfl) (pa_cons (pv 2) pa_nil))) pa_nil))))))) (pss_one (ps_ret pe_bl)) pss_nil)
      (C8.pss_cut (ps_if (pt_val (pe_callB (cr_any rfl) (by rfl) an (by decide +kernel) (pa_cons (pe_lc (own := [("one", 3), ("other", 4)]) (g := gTup K 2 (gCons (gName 3) (gCons (gName 4) gNil))) (tt := tYes) rfl scIsPart.nd
          (pi_zipA (by rfl) zp (pa_cons (pv 0) (pa_cons (pe_slice sl_tupA (pv 0) (po_some pe_int) po_none) pa_nil))) (blkOk_by (N := NIp) (sc := defScope sIsPart) (by decide +kernel))
          (fun _ _ _ _ _ => pg_tup rfl (pgs_cons (pg_name (i := 3) scIsPart.nd rfl (Or.inl rfl)) (pgs_cons (pg_name (i := 4) scIsPart.nd rfl (Or.inl rfl)) pgs_nil))) (fun _ _ _ _ _ => pts_nil)
          (fun _ _ _ _ _ => pe_cmpR op_ge (pe_ix (r := rIxT K) ix_tup (pv 3) pe_int (fun _ _ => rfl)) (pe_ix (r := rIxT K) ix_tup (pv 4) pe_int (fun _ _ => rfl)) (nomark _))) pa_nil))) (pss_one (ps_ret pe_bl)) pss_nil)
      (C8.pss_cut (ps_set (i := 1) scIsPart.nd rfl (Or.inl rfl) (pe_callB cr_sortedI (by rfl) so (by decide +kernel) (pa_cons (pe_lc2 (own := [("block", 2), ("number", 5)]) (vs1 := [5]) (g := gName 2) (tt := tYes) (wi1 := iTup K (tVar 2)) (g1 := gName 5) (tt1 := tYes) rfl scIsPart.nd (pi_tup (pv 0)) (blkOk_by (N := NIp) (sc := defScope sIsPart) (by decide +kernel)) (by decide)
          (fun _ _ _ _ _ => pg_name (i := 2) scIsPart.nd rfl (Or.inl rfl)) (fun _ _ _ _ _ => pts_nil)
          (fun _ _ _ _ _ => pi_tup (pv 2))
          (fun _ _ _ _ _ => pg_name (i := 5) scIsPart.nd rfl (Or.inl rfl)) (fun _ _ _ _ _ => pts_nil)
          (fun _ _ _ _ _ => pv 5)) pa_nil)))
      (pss_one (ps_ret (pe_cmpR (op_eqD hr.units) (pv 1) (pe_listRg rfl (by rfl) T.list (prg_1 (by rfl) T.range (pe_callB call_len_seq (by rfl) T.len (by decide +kernel) (pa_cons (pv 1) pa_nil)))) (nomark _)))))), ?_⟩
    have hd := pv_.dp
    obtain ⟨a, xs, rfl, sx, all⟩ := id pv_
    obtain ⟨l8, bl⟩ := size_blk sz
    have lx := all.len
    have vb2 := vb
    unfold validB at vb2
    rw [Bool.and_eq_true, Bool.and_eq_true, List.all_eq_true, List.all_eq_true] at vb2
    obtain ⟨vb1, vb2, vb3⟩ := vb2
    have vp := List.isPerm_iff.mp vb3
    refine ⟨fun σ H1 => Same H H1 ∧ σ = [some (.ref a), none, none, none, none, none], ?_, ?_⟩
    · refine ⟨_, rfl, _, _, _, _, _, rfl, .ty _, hd.ty, kitT K _, _, rfl, ?_⟩
      refine iteF ?_
      refine ⟨_, rfl, a, rfl, ⟨_, sx⟩, fun D hD => lc_tup (K := K) (a := a) (xs := xs) (fun i H2 => Same H H2 ∧ H2 D = some (.lst ((List.replicate i true).map V.bl))) ⟨same_new hD, upd_same⟩ (fun i H2 _ z => Bs.Same.t z.1 sx) ?_ ?_⟩
      · rintro i x H2 hx ⟨s2, hD2⟩
        obtain ⟨b, hb, ib⟩ := all.get hx
        have mb := List.mem_of_getElem? hb
        have hi : i < p.length := (List.getElem?_eq_some_iff.mp hb).1
        refine ⟨rfl, ?_⟩
        refine iteT (B := Same H H2 ∧ H2 D = some (.lst ((List.replicate (i + 1) true).map V.bl))) ?_
        refine ⟨_, rfl, x, b, rfl, ib.mono s2, vb1 b mb, by have := bl b mb; omega, fun H3 s3 => ?_⟩
        refine ⟨_, s3 _ _ hD2, small1000 (by rw [List.length_map, List.length_replicate]; omega), fun c o e => (upd_ne (ne_of_none e hD)).trans (s3 c o (s2 c o e)), ?_⟩
        rw [upd_same, List.replicate_succ', List.map_append]
        rfl
      · rintro H2 ⟨s2, hD2⟩
        refine ⟨D, _, rfl, SqL.of hD2, _, rfl, ?_⟩
        rw [all_true]
        exact iteF ⟨s2, rfl⟩
    rintro σ H1 ⟨s1, rfl⟩
    have sx1 := Bs.Same.t s1 sx
    refine ⟨fun σ H2 => Same H H2 ∧ σ = [some (.ref a), none, none, none, none, none], ?_, ?_⟩
    · refine ⟨_, rfl, _, rfl, 1, rfl, ?_⟩
      unfold tNoPart
      refine sl_cut sx1 cutTl fun c H2 s2 sc => ?_
      have sx2 := Bs.Same.t s2 sx1
      refine ⟨a, c, xs, xs.drop 1, rfl, .inr ⟨sx2, sc, fun D hD => ?_⟩⟩
      refine lc_it (walk_zipT (xs := xs) (ys := xs.drop 1) (n := (p.zip p.tail).length) (by rw [List.length_zip, List.length_drop, List.length_tail, lx])) (fun i H3 => Same H2 H3 ∧ H3 D = some (.lst ((List.replicate i false).map V.bl))) ⟨same_new hD, upd_same⟩ (fun i H3 _ z => ⟨Bs.Same.t z.1 sx2, Bs.Same.t z.1 sc⟩) ?_ ?_
      · rintro i x H3 H4 hi ⟨s3, hD3⟩ ⟨T', x', y', rfl, hT, rfl, h1, h2⟩
        have h1' : xs[i]? = some x' := h1
        have h2' : (xs.drop 1)[i]? = some y' := h2
        rw [List.getElem?_drop, Nat.add_comm] at h2'
        obtain ⟨b, hb, ib⟩ := all.get h1'
        obtain ⟨b2, hb2, ib2⟩ := all.get h2'
        have q := vb2 (b, b2) (List.mem_of_getElem? (zip_get hb hb2))
        have q1 := bl b (List.mem_of_getElem? hb)
        have q2 := bl b2 (List.mem_of_getElem? hb2)
        have q3 := of_decide_eq_true q
        have hz : (p.zip p.tail).length ≤ p.length := by rw [List.length_zip]; omega
        obtain ⟨c1, rfl, sc1⟩ := id ib
        obtain ⟨c2, rfl, sc2⟩ := id ib2
        have s4 := same_new (o := .tup [.ref c1, .ref c2]) hT
        have s14 := ((s1.trans s2).trans s3).trans s4
        have g1 : (b.map V.int)[0]? = some (V.int (hdI b)) := by rw [List.getElem?_map, hd_at q1.2]; rfl
        have g2 : (b2.map V.int)[0]? = some (V.int (hdI b2)) := by rw [List.getElem?_map, hd_at q2.2]; rfl
        refine ⟨T', _, rfl, SqT.of upd_same, rfl, _, _, rfl, _, _, rfl, rfl, rfl, ?_⟩
        refine iteT (B := Same H2 (upd H3 T' (.tup [.ref c1, .ref c2])) ∧ upd H3 T' (.tup [.ref c1, .ref c2]) D = some (.lst ((List.replicate (i + 1) false).map V.bl))) ?_
        refine ⟨_, rfl, c1, _, _, _, rfl, rfl, Bs.Same.t s14 sc1, atI_nat (j := 0) g1, _, rfl, c2, _, _, _, rfl, rfl, Bs.Same.t s14 sc2, atI_nat (j := 0) g2, _, _, rfl, rfl, ?_⟩
        have e0 : decide (hdI b2 ≤ hdI b) = false := decide_eq_false (by show ¬ _; have : hdI b < hdI b2 := q3; omega)
        dsimp only
        rw [e0]
        refine ⟨_, s4 _ _ hD3, small1000 (by rw [List.length_map, List.length_replicate]; omega), fun c o e => (upd_ne (ne_of_none e hD)).trans (s4 c o (s3 c o e)), ?_⟩
        rw [upd_same, List.replicate_succ', List.map_append]
        rfl
      · rintro H3 ⟨s3, hD3⟩
        refine ⟨D, _, rfl, SqL.of hD3, _, rfl, ?_⟩
        rw [any_falseR]
        exact iteF ⟨(s1.trans s2).trans s3, rfl⟩
    rintro σ H2 ⟨s2, rfl⟩
    have sx2 := Bs.Same.t s2 sx
    have fl8 := flatten_len fun b hb => (bl b hb).1
    refine ⟨fun σ H3 => ∃ L, Same H H3 ∧ H3 L = some (.lst (((List.range (total p)).map fun n : Nat => (n : Int)).map V.int)) ∧ σ = [some (.ref a), some (.ref L), none, none, none, none], ?_, ?_⟩
    · refine ⟨_, rfl, a, rfl, ⟨_, sx2⟩, fun D hD => ?_⟩
      refine lc2_out (walk_tup (K := K) (a := a) (xs := xs)) (fun j H3 => Same H2 H3 ∧ H3 D = some (.lst ((p.take j).flatten.map V.int))) ⟨same_new hD, upd_same⟩ (fun i H3 _ q => Bs.Same.t q.1 sx2) ?_ ?_
      · rintro j x H3' H3 hj ⟨s3, hD3⟩ ⟨e3, hx⟩
        subst e3
        obtain ⟨b, hb, ib⟩ := all.get hx
        have fo := flatten_one hb
        have lt : (p.take (j + 1)).flatten.length ≤ 64 := by
          have := flatten_len (p := p.take (j + 1)) fun b hb => (bl b (List.mem_of_mem_take hb)).1
          rw [List.length_take] at this
          omega
        rw [fo, List.length_append] at lt
        obtain ⟨c, rfl, sc⟩ := id ib
        have s23 := s2.trans s3
        have sc3 := Bs.Same.t s23 sc
        refine ⟨rfl, ?_⟩
        refine iteT (B := Same H2 H3 ∧ H3 D = some (.lst ((p.take (j + 1)).flatten.map V.int))) ?_
        refine ⟨_, rfl, c, rfl, ⟨_, sc3⟩, ?_⟩
        refine lc2_in (walk_tup (K := K) (a := c) (xs := b.map V.int)) (fun l H4 => Same H2 H4 ∧ H4 D = some (.lst (((p.take j).flatten ++ b.take l).map V.int))) ⟨s3, by rw [List.take_zero, List.append_nil]; exact hD3⟩ (fun l H4 _ q => Bs.Same.t (s2.trans q.1) sc) ?_ ?_
        · rintro l y H4' H4 hl ⟨s4, hD4⟩ ⟨e4, hy⟩
          subst e4
          obtain ⟨t, ht, rfl⟩ := some_int hy
          refine ⟨rfl, ?_⟩
          refine iteT (B := Same H2 H4 ∧ H4 D = some (.lst (((p.take j).flatten ++ b.take (l + 1)).map V.int))) ?_
          refine ⟨_, rfl, _, hD4, small1000 (by rw [List.length_map, List.length_append, List.length_take]; omega), fun c o e => (upd_ne (ne_of_none e hD)).trans (s4 c o e), ?_⟩
          rw [upd_same, take_one ht, ← List.append_assoc, List.map_append (l₁ := (p.take j).flatten ++ b.take l)]
          rfl
        · rintro H4 ⟨s4, hD4⟩
          rw [List.length_map, List.take_length, ← fo] at hD4
          exact ⟨s4, hD4⟩
      · rintro H3 ⟨s3, hD3⟩
        rw [lx, List.take_length] at hD3
        refine ⟨D, _, rfl, SqL.of hD3, fun ns q pm sr hq => ?_⟩
        have e := ints_uniq sr (ints_srt (total p)) (pm.trans vp)
        subst e
        exact ⟨q, (s2.trans s3).trans (same_new hq), upd_same, rfl⟩
    rintro σ H3 ⟨L, s3, gL, rfl⟩
    have tl : total p ≤ 64 := by
      have := vp.length_eq
      rw [List.length_map, List.length_range] at this
      omega
    refine ⟨_, rfl, _, rfl, L, _, rfl, .inl (SqL.of gL), _, rfl, .of_le (by omega) (by rw [List.length_map, List.length_map, List.length_range]; omega) (by omega) (by omega), fun q hq => ?_⟩
    have s4 := same_new (o := .lst (rgV 0 ((((List.range (total p)).map fun n : Nat => (n : Int)).map V.int).length : Nat))) hq
    have er : rgV 0 ((((List.range (total p)).map fun n : Nat => (n : Int)).map V.int).length : Nat) = (((List.range (total p)).map fun n : Nat => (n : Int)).map V.int) := by
      unfold rgV
      rw [List.length_map, List.length_map, List.length_range, List.map_map]
      rw [show ((total p : Int) - 0).toNat = total p by omega]
      refine List.map_congr_left fun i _ => ?_
      show V.int (0 + (i : Int)) = V.int (i : Int)
      rw [Int.zero_add]
    rw [er] at s4 ⊢
    refine ⟨.list (((List.range (total p)).map fun n : Nat => (n : Int)).map PyData.int), .list (((List.range (total p)).map fun n : Nat => (n : Int)).map PyData.int), .lst (SqL.of (s4 _ _ gL)) (dpInts _), .lst (SqL.of upd_same) (dpInts _), shaped_ints _, shaped_ints _, ?_⟩
    have ev : PyData.eqv (.list (((List.range (total p)).map fun n : Nat => (n : Int)).map PyData.int)) (.list (((List.range (total p)).map fun n : Nat => (n : Int)).map PyData.int)) = true := by
      rw [PyData.eqv, eqvI_all]
      exact decide_eq_true rfl
    rw [ev]
    exact kk _ (s3.trans s4)
theorem scNeedPart : FnScope ["parting"] ["parting"] (defScope sNeedPart) := ⟨rfl, rfl, rfl, by decide +kernel, rfl, by decide +kernel, by decide +kernel⟩
theorem ok_needPart (F : Fun K "need_parting" "need_parting" sNeedPart f fd) (IP : Cal P w K mg base 4 "is_parting" (spIsPart K)) : FnOk P w K mg base CX0 5 f fd ["parting"] (spNeedPart K) := by
  refine F.ok scNeedPart (fun vs H Q E h => ?_) (fun cdv A outer s H vs Q E hr h => ?_)
  · obtain ⟨v, p, rfl, _⟩ := h
    rfl
  · obtain ⟨v, p, rfl, pp, vb, sz, kk⟩ := h
    refine ⟨_, pss_cons (ps_if (pt_not (pt_val (pe_n IP hr (by decide) (by rfl) (pa_cons (pv 0) pa_nil)))) (pss_one ps_never) pss_nil) (pss_one (ps_ret (pv 0))), ?_⟩
    refine ⟨_, rfl, v, p, rfl, pp, vb, sz, fun H1 s1 => ?_⟩
    exact ⟨_, rfl, iteF ⟨_, rfl, kk H1 s1⟩⟩
end
end Rs


set_option Elab.async false
set_option linter.all false
set_option maxRecDepth 100000
set_option maxHeartbeats 1000000
namespace Pg
end Pg
namespace Rs
open PySem L2 Bs LamX Pg RZ
abbrev sIPa : Stmt := inClass (top 7) 0
section
variable {P : Program} {w : World} {K : PySem.W.Frag} {mg : Str → Option Value} {base : Heap} {f : Addr} {fd : FuncData}
theorem scInitP : FnScope ["self", "given"] ["self", "given"] (defScope sIPa) := ⟨rfl, rfl, rfl, by decide +kernel, rfl, by decide +kernel, by decide +kernel⟩
theorem ok_initP {C : Addr} {q : Str} (F : Fun K "__init__" q sIPa f fd) (T : OexC K C) (no : PySem.W.findIn K (.ref C) "given" = some none) : FnOk P w K mg base CX0 1 f fd ["self", "given"] (spInit K C) := by
  refine F.ok scInitP (fun vs H Q E h => ?_) (fun cdv A outer s H vs Q E hr h => ?_)
  · obtain ⟨a, y, rfl, _⟩ := h
    rfl
  · obtain ⟨a, y, rfl, ha, k⟩ := h
    exact ⟨_, pss_one (ps_ost (pv 0) (pv 1)), _, rfl, _, rfl, a, C, rfl, T, no, .inl ⟨ha, fun dx n1 n2 => k dx n1 n2⟩⟩
theorem Err.okP {x q : Str} {C : Addr} (T : Err K mg x q sIPa C) : ErrOk P w K mg base x C := by
  obtain ⟨fI, fd, a, b, F, bi⟩ := T.ini
  exact ⟨T.gC, T.oex, fI, fd, a, b, ok_initP F T.oex T.no, bi⟩
end
end Rs


set_option Elab.async false
set_option linter.all false
set_option maxRecDepth 100000
set_option maxHeartbeats 400000
namespace Rs
open PySem L2 Bs Fq
section
variable {P : Program} {w : World} {K : PySem.W.Frag} {mg : Str → Option Value} {base : Heap} {f : Addr} {fd : FuncData}
theorem scOf : FnScope ["state", "some"] ["state", "some"] (defScope sOf) := ⟨rfl, rfl, rfl, by decide +kernel, rfl, by decide +kernel, by decide +kernel⟩
theorem ok_of (F : Fun K "_law_of" "_law_of" sOf f fd) (T : Blt mg) (D : Cal P w K mg base 2 "_law_draw" spDraw) : FnOk P w K mg base CX0 3 f fd ["state", "some"] (spOf K) := by
  refine F.ok scOf (fun vs H Q E h => ?_) (fun cdv A outer s H vs Q E hr h => ?_)
  · obtain ⟨p, c, l, b, n, t, xs, rfl, _⟩ := h
    rfl
  · obtain ⟨p, c, l, b, n, t, xs, rfl, S, t1, hS, x1, x2, nb, k⟩ := h
    refine ⟨_, pss_one (ps_ret (pe_ix ix_list (pv 1) (pe_n D hr (by decide) (by rfl) (pa_cons (pv 0) (pa_cons (pe_callB call_len_seq (by rfl) T.len PySem.boot_len (pa_cons (pv 1) pa_nil)) pa_nil))) (fun _ _ => rfl))), ?_⟩
    refine ⟨_, rfl, _, rfl, _, rfl, b, _, rfl, .inl hS, p, c, l, n, t, _, rfl, S, t1, by omega, by omega, fun H' r r0 r1 S' kp => ?_⟩
    obtain ⟨i, rfl⟩ : ∃ i : Nat, r = (i : Int) := ⟨r.toNat, by omega⟩
    have hi : i < xs.length := by omega
    have hx : xs[i]? = some xs[i] := List.getElem?_eq_getElem hi
    exact ⟨b, xs, _, _, rfl, rfl, kp.lst S hS nb, atI_nat hx, k H' _ (List.getElem_mem hi) S' kp⟩
end
end Rs


set_option Elab.async false
set_option linter.all false
set_option maxRecDepth 100000
set_option maxHeartbeats 1000000
namespace Rs
open PySem L2 Bs LamX Pg RZ Dd
theorem dps_it {K : PySem.W.Frag} {H : Hp} : ∀ {vs : List V} {w : List Int}, DpAll K H vs (w.map PyData.int) → vs = w.map V.int
  | _, [], .nil => rfl
  | _, q :: qs, .cons (.int _) b => by rw [dps_it b]; rfl
theorem dp_it {K : PySem.W.Frag} {H : Hp} {v : V} {w : List Int} (h : Dp K H v (dI w)) : It K H v w := by
  cases h with
  | tup s f =>
    rw [dps_it f] at s
    exact ⟨_, rfl, s⟩
theorem dps_al {K : PySem.W.Frag} {H : Hp} : ∀ {vs : List V} {p : Prt}, DpAll K H vs (p.map dI) → Al (It K H) vs p
  | _, [], .nil => .nil
  | _, _ :: _, .cons a b => .cons (dp_it a) (dps_al b)
theorem dp_pt {K : PySem.W.Frag} {H : Hp} {v : V} {p : Prt} (h : Dp K H v (dW p)) : Pt K H v p := by
  cases h with
  | tup s f => exact ⟨_, _, rfl, s, dps_al f⟩
theorem Al.mem {α : Type} {R : V → α → Prop} : ∀ {vs : List V} {qs : List α}, Al R vs qs → ∀ v ∈ vs, ∃ q ∈ qs, R v q
  | _, _, .nil, v, h => by cases h
  | _, _, .cons a b, v, h => by
    rcases List.mem_cons.mp h with rfl | h
    · exact ⟨_, List.mem_cons_self, a⟩
    · obtain ⟨q, hq, r⟩ := Al.mem b v h
      exact ⟨q, List.mem_cons_of_mem _ hq, r⟩
end Rs


set_option linter.all false
set_option maxRecDepth 100000
set_option maxHeartbeats 400000
namespace Fq
open Rs (co co_get co_lt co_ge co_mem co_all)
def stepH (s ls ss : List F) (h : Nat) : F :=
  let w0 := if 0 < h then co s (h - 1) else (0, 1)
  let w1 := if h < s.length ∧ h < ls.length then add w0 (mul (co ls h) (co s h)) else w0
  if h + 1 < s.length ∧ h < ss.length then add w1 (mul (co ss h) (co s (h + 1))) else w1
def stepL (s ls ss : List F) : List F := (List.range (s.length + 1)).map (stepH s ls ss)
def sumsL (ls ss : List F) : Nat → List F
  | 0 => [(1, 1)]
  | n + 1 => stepL (sumsL ls ss n) ls ss
def rowL (T : F) (ls ss : List F) (n : Nat) : List F := T :: (List.range n).map fun k => mul T (co (sumsL ls ss (k + 1)) 0)
def wA (ls : List F) : Nat → Rat := fun h => val (co ls h)
theorem wA_hi {ls : List F} {h : Nat} (e : ls.length ≤ h) : wA ls h = 0 := by
  unfold wA
  rw [co_ge e, val_zero]
theorem stepH_ok {n : Nat} {s ls ss : List F} (hs : Za n s) (hl : Za 1 ls) (hb : Za 1 ss) (h : Nat) :
    Zs (n + 3) (stepH s ls ss h) ∧ val (stepH s ls ss h) = J (wA ls) (wA ss) (wA s) h := by
  have t0 : Zs n (if 0 < h then co s (h - 1) else (0, 1)) ∧ val (if 0 < h then co s (h - 1) else (0, 1)) = (if h = 0 then 0 else wA s (h - 1)) := by
    by_cases c : 0 < h
    · rw [if_pos c, if_neg (by omega)]
      exact ⟨hs.co _, rfl⟩
    · rw [if_neg c, if_pos (by omega)]
      exact ⟨Zs.zero, val_zero⟩
  unfold stepH
  generalize (if 0 < h then co s (h - 1) else (0, 1)) = w0 at *
  have t1 : Zs (n + 2) (if h < s.length ∧ h < ls.length then add w0 (mul (co ls h) (co s h)) else w0) ∧ val (if h < s.length ∧ h < ls.length then add w0 (mul (co ls h) (co s h)) else w0) = (if h = 0 then 0 else wA s (h - 1)) + wA ls h * wA s h := by
    have m : Zs (n + 1) (mul (co ls h) (co s h)) := ((hl.co h).mul (hs.co h)).mono (by omega)
    by_cases c : h < s.length ∧ h < ls.length
    · rw [if_pos c]
      refine ⟨(t0.1.up).add m, ?_⟩
      rw [val_add t0.1.ok.1 m.ok.1, t0.2, val_mul (hl.co h).ok.1 (hs.co h).ok.1]
      rfl
    · rw [if_neg c]
      refine ⟨t0.1.mono (by omega), ?_⟩
      have : wA ls h * wA s h = 0 := by
        by_cases z : h < s.length
        · rw [wA_hi (ls := ls) (by omega)]
          grind
        · rw [wA_hi (ls := s) (by omega)]
          grind
      rw [this, t0.2]
      grind
  show Zs (n + 3) (if h + 1 < s.length ∧ h < ss.length then add (if h < s.length ∧ h < ls.length then add w0 (mul (co ls h) (co s h)) else w0) (mul (co ss h) (co s (h + 1))) else (if h < s.length ∧ h < ls.length then add w0 (mul (co ls h) (co s h)) else w0)) ∧ val (if h + 1 < s.length ∧ h < ss.length then add (if h < s.length ∧ h < ls.length then add w0 (mul (co ls h) (co s h)) else w0) (mul (co ss h) (co s (h + 1))) else (if h < s.length ∧ h < ls.length then add w0 (mul (co ls h) (co s h)) else w0)) = _
  generalize (if h < s.length ∧ h < ls.length then add w0 (mul (co ls h) (co s h)) else w0) = w1 at *
  have m : Zs (n + 1) (mul (co ss h) (co s (h + 1))) := ((hb.co h).mul (hs.co (h + 1))).mono (by omega)
  unfold J
  by_cases c : h + 1 < s.length ∧ h < ss.length
  · rw [if_pos c]
    refine ⟨t1.1.add (m.mono (by omega)), ?_⟩
    rw [val_add t1.1.ok.1 m.ok.1, t1.2, val_mul (hb.co h).ok.1 (hs.co (h + 1)).ok.1]
    rfl
  · rw [if_neg c]
    refine ⟨t1.1.mono (by omega), ?_⟩
    have : wA ss h * wA s (h + 1) = 0 := by
      by_cases z : h + 1 < s.length
      · rw [wA_hi (ls := ss) (by omega)]
        grind
      · rw [wA_hi (ls := s) (by omega)]
        grind
    rw [this, t1.2]
    grind
theorem stepL_len (s ls ss : List F) : (stepL s ls ss).length = s.length + 1 := by simp [stepL]
theorem stepL_ok {n : Nat} {s ls ss : List F} (hs : Za n s) (hl : Za 1 ls) (hb : Za 1 ss) : Za (n + 3) (stepL s ls ss) ∧ wA (stepL s ls ss) = J (wA ls) (wA ss) (wA s) := by
  refine ⟨fun q hq => ?_, ?_⟩
  · obtain ⟨h, _, rfl⟩ := List.mem_map.mp hq
    exact (stepH_ok hs hl hb h).1
  · funext h
    have t := (stepH_ok hs hl hb h).2
    show val (co _ h) = _
    unfold stepL
    rw [co_map]
    split
    · exact t
    · rename_i c
      rw [← t]
      have : stepH s ls ss h = (0, 1) := by
        simp only [stepH]
        rw [if_neg (c := h < s.length ∧ h < ls.length) (by omega), if_neg (by omega), if_pos (by omega), co_ge (by omega)]
      rw [this]
theorem ek0 : wA [(1, 1)] = ek 0 := by
  funext h
  unfold wA ek
  cases h with
  | zero => exact val_one
  | succ h =>
    rw [co_ge (by simp), if_neg (by omega), val_zero]
theorem sumsL_len (ls ss : List F) : ∀ n, (sumsL ls ss n).length = n + 1
  | 0 => rfl
  | n + 1 => by
    show (stepL _ _ _).length = _
    rw [stepL_len, sumsL_len ls ss n]
theorem sumsL_ok {ls ss : List F} (hl : Za 1 ls) (hb : Za 1 ss) : ∀ n, Za (3 * n) (sumsL ls ss n) ∧ wA (sumsL ls ss n) = Jn (wA ls) (wA ss) n (ek 0)
  | 0 => ⟨fun q hq => by rw [List.mem_singleton.mp hq]; exact Zs.one, ek0⟩
  | n + 1 => by
    obtain ⟨a, b⟩ := sumsL_ok hl hb n
    obtain ⟨c, d⟩ := stepL_ok a hl hb
    refine ⟨c, ?_⟩
    show wA (stepL _ _ _) = J _ _ _
    rw [d, b]
theorem rowL_len (T : F) (ls ss : List F) (n : Nat) : (rowL T ls ss n).length = n + 1 := by simp [rowL]
end Fq


set_option Elab.async false
set_option linter.all false
set_option maxRecDepth 100000
set_option maxHeartbeats 400000
namespace Rs
open PySem L2 Bs Fq LamX
theorem zs_dm {n : Nat} {q : F} (h : Zs n q) (e : n ≤ 400 := by omega) : Dm q := by
  obtain ⟨a, b, c⟩ := h.small e
  exact ⟨Nat.lt_of_lt_of_le a (Nat.pow_le_pow_right (by decide) (by decide)), b, Nat.lt_of_lt_of_le c (Nat.pow_le_pow_right (by decide) (by decide))⟩
end Rs


set_option Elab.async false
set_option linter.all false
set_option maxRecDepth 100000
set_option maxHeartbeats 400000
namespace Rs
open PySem L2 Bs Fq LamX
end Rs


set_option Elab.async false
set_option linter.all false
set_option maxRecDepth 100000
set_option maxHeartbeats 400000
namespace Rs
open PySem L2 Bs Fq LamX
/-- a list of fractions -/
def Ls (K : PySem.W.Frag) (H : Hp) (v : V) (qs : List F) : Prop := ∃ a xs, v = .ref a ∧ SqL K H a xs ∧ FrAll K H xs qs
theorem Ls.mono {K : PySem.W.Frag} {H H' : Hp} {v : V} {qs : List F} (e : Same H H') (h : Ls K H v qs) : Ls K H' v qs := by
  obtain ⟨a, xs, rfl, s, f⟩ := h
  exact ⟨a, xs, rfl, e.seq s, f.mono e⟩
end Rs


set_option Elab.async false
set_option linter.all false
set_option maxRecDepth 100000
set_option maxHeartbeats 1000000
namespace Rs
open PySem L2 Bs Fq LamX
def shapeD : PyData → PyData → Bool
  | .tuple ls, .tuple ss => if lastNz ss then (decide (ls.length ≤ 4) && ((decide (ls.length = ss.length) || decide (ls.length = ss.length + 1)) && ss.all top0)) else (decide (ls.length = ss.length) && ss.dropLast.all top0)
  | _, _ => false
def ladderD : PyData → Bool
  | .tuple [t, ls, ss] => posD t && (fracsD 5 ls && (fracsD 5 ss && shapeD ls ss))
  | _ => false
theorem above_map : ∀ qs : List F, (qs.map dF).all top0 = above qs
  | [] => rfl
  | q :: qs => by
    show (top0 (dF q) && (qs.map dF).all top0) = (decide (0 < q.1) && above qs)
    rw [above_map qs]
    rfl
theorem ladderD_len {ds : List PyData} (h : ds.length ≠ 3) : ladderD (.tuple ds) = false := by
  unfold ladderD
  split
  · rename_i e
    cases e
    exact absurd rfl h
  · rfl
theorem three_of {K : PySem.W.Frag} {H : Hp} {xs : List V} {ds : List PyData} (h : DpAll K H xs ds) (l : xs.length = 3) : ∃ v1 v2 v3 d1 d2 d3, xs = [v1, v2, v3] ∧ ds = [d1, d2, d3] ∧ Dp K H v1 d1 ∧ Dp K H v2 d2 ∧ Dp K H v3 d3 := by
  cases h with
  | nil => cases l
  | cons h1 t1 =>
    cases t1 with
    | nil => cases l
    | cons h2 t2 =>
      cases t2 with
      | nil => cases l
      | cons h3 t3 =>
        cases t3 with
        | nil => exact ⟨_, _, _, _, _, _, rfl, rfl, h1, h2, h3⟩
        | cons _ _ => simp at l
theorem shape_end {qs rs : List F} (n : rs ≠ []) (e : co rs (rs.length - 1) = (0, 1)) : shapeD (dP qs) (dP rs) = (decide (qs.length = rs.length) && above (rs.take (rs.length - 1))) := by
  simp only [shapeD, dP]
  rw [lastNz_map, if_neg (by
    rw [decide_eq_true_eq]
    rintro (z | z)
    · exact n z
    · exact z e), List.length_map, List.length_map, ← List.map_dropLast, above_map, List.dropLast_eq_take]
theorem shape_open {qs rs : List F} (p : Pn rs) : shapeD (dP qs) (dP rs) = (decide (qs.length ≤ 4) && ((decide (qs.length = rs.length) || decide (qs.length = rs.length + 1)) && above rs)) := by
  simp only [shapeD, dP]
  rw [lastNz_map, if_pos (decide_eq_true p), List.length_map, List.length_map, above_map]
theorem if_in {b c : Bool} (h : b = c) {A B : Prop} (ha : c = true → A) (hb : c = false → B) : if b = true then A else B := by
  subst h
  cases b with
  | true => exact ha rfl
  | false => exact hb rfl
theorem cut_init {xs : List V} (n : xs ≠ []) : cutV xs none (some (-1)) = xs.take (xs.length - 1) ∧ ¬ (HT.sIx xs.length 0 none = 0 ∧ HT.sIx xs.length xs.length (some (-1)) = xs.length) := by
  have hl := List.length_pos_iff.mpr n
  have e : HT.sIx xs.length xs.length (some (-1)) = xs.length - 1 := by
    show (if (-1 : Int) < 0 then ((-1 : Int) + (xs.length : Int)).toNat else min (-1 : Int).toNat xs.length) = xs.length - 1
    rw [if_pos (by decide)]
    omega
  refine ⟨?_, fun z => ?_⟩
  · unfold cutV
    rw [e, HT.sIx_none, List.drop_zero, Nat.sub_zero]
  · rw [e] at z
    omega
abbrev sIsLad : Stmt := top 39
abbrev sAbove : Stmt := top 40
abbrev sNeedLad : Stmt := top 41
structure Mosts (mg : Str → Option Value) : Prop where
  m4 : ∃ t, mg "MOST_OPEN" = some (.int 4 t)
  m5 : ∃ t, mg "MOST_ENDED" = some (.int 5 t)
  m8 : ∃ t, mg "LAST_MOMENT" = some (.int 8 t)
def spAbove (K : PySem.W.Frag) : Sp := fun vs H Q _ => ∃ (v : V) (qs : List F), vs = [v] ∧ Po K H v qs ∧ qs.length ≤ 500 ∧ ∀ H', Same H H' → Q (.bl (above qs)) H'
def spIsLad (K : PySem.W.Frag) : Sp := fun vs H Q _ => ∃ (v : V) (d : PyData), vs = [v] ∧ Dp K H v d ∧ ∀ H', Same H H' → Q (.bl (ladderD d)) H'
def spNeedLad (K : PySem.W.Frag) (C : Addr) : Sp := fun vs H Q E => ∃ (v : V) (d : PyData), vs = [v] ∧ Dp K H v d ∧ (ladderD d = true → ∀ H', Same H H' → Q v H') ∧ (ladderD d = false → ∀ H', Same H H' → OutW E C "given" v H')
section
variable {P : Program} {w : World} {K : PySem.W.Frag} {mg : Str → Option Value} {base : Heap} {f : Addr} {fd : FuncData} {CL : Addr}
theorem scAbove : FnScope ["some", "part"] ["some"] (defScope sAbove) := ⟨rfl, rfl, rfl, by decide +kernel, rfl, by decide +kernel, by decide +kernel⟩
theorem ok_above (F : Fun K "are_above" "are_above" sAbove f fd) (al : mg "all" = none) : FnOk P w K mg base CX0 1 f fd ["some"] (spAbove K) := by
  refine F.ok scAbove (fun vs H Q E h => ?_) (fun cdv A outer s H vs Q E hr h => ?_)
  · obtain ⟨v, qs, rfl, _⟩ := h
    rfl
  · obtain ⟨v, qs, rfl, ⟨a, xs, rfl, sx, fx⟩, lq, kk⟩ := h
    have lx := fx.len
    refine ⟨_, pss_one (ps_ret (pe_callB (cr_all rfl) (by rfl) al (by decide +kernel) (pa_cons (pe_lc (own := [("part", 1)]) (g := gName 1) (tt := tYes) rfl scAbove.nd (pi_tup (pv 0)) (blkOk_by (N := ["some", "part"]) (sc := defScope sAbove) (by decide +kernel))
          (fun _ _ _ _ _ => pg_name (i := 1) scAbove.nd rfl (Or.inl rfl)) (fun _ _ _ _ _ => pts_nil)
          (fun _ _ _ _ _ => pe_cmpR op_gt (pe_ix (r := rIxT K) ix_tup (pv 1) pe_int (fun _ _ => rfl)) pe_int (nomark _))) pa_nil))), ?_⟩
    refine ⟨_, rfl, a, rfl, ⟨_, sx⟩, fun D hD => lc_tup (K := K) (a := a) (xs := xs) (fun i H2 => Same H H2 ∧ H2 D = some (.lst (((qs.take i).map fun q => decide (0 < q.1)).map V.bl))) ⟨same_new hD, upd_same⟩ (fun i H2 _ z => Bs.Same.t z.1 sx) ?_ ?_⟩
    · rintro i x H2 hx ⟨s2, hD2⟩
      have hi : i < qs.length := by
        have := (List.getElem?_eq_some_iff.mp hx).1
        omega
      obtain ⟨v', q, g1, g2, b, rfl, sb⟩ := fx.get hi
      rw [hx] at g1
      cases g1
      refine ⟨rfl, ?_⟩
      refine iteT (B := Same H H2 ∧ H2 D = some (.lst (((qs.take (i + 1)).map fun q => decide (0 < q.1)).map V.bl))) ?_
      refine ⟨_, rfl, b, _, 0, _, rfl, rfl, Bs.Same.t s2 sb, rfl, _, _, rfl, rfl, ?_⟩
      refine ⟨_, hD2, ?_, fun b o e => (upd_ne (ne_of_none e hD)).trans (s2 b o e), ?_⟩
      · rw [List.length_map, List.length_map, List.length_take]
        exact small1000 (by omega)
      · rw [upd_same, take_one g2, List.map_append, List.map_append]
        rfl
    · rintro H2 ⟨s2, hD2⟩
      rw [lx, List.take_length] at hD2
      refine ⟨D, _, rfl, SqL.of hD2, ?_⟩
      have := kk H2 s2
      rw [List.all_map]
      exact this
theorem scIsLad : FnScope ["thing", "levels", "steps"] ["thing"] (defScope sIsLad) := ⟨rfl, rfl, rfl, by decide +kernel, rfl, by decide +kernel, by decide +kernel⟩
theorem ok_isLad (F : Fun K "is_ladder" "is_ladder" sIsLad f fd) (T : Blt mg) (M : Mosts mg) (Z : Nou K mg) (PO : Cal P w K mg base 3 "is_positive" (spPosi K)) (AF : Cal P w K mg base 3 "are_fractions" (spAreF K)) (AB : Cal P w K mg base 1 "are_above" (spAbove K)) :
    FnOk P w K mg base CX0 4 f fd ["thing"] (spIsLad K) := by
  refine F.ok scIsLad (fun vs H Q E h => ?_) (fun cdv A outer s H vs Q E hr h => ?_)
  · obtain ⟨v, d, rfl, _⟩ := h
    rfl
  · obtain ⟨v, d, rfl, hd, kk⟩ := h
    obtain ⟨t4, m4⟩ := M.m4
    obtain ⟨t5, m5⟩ := M.m5
    obtain ⟨z, mz, sz⟩ := Z.ex
    refine ⟨_, pss_cons (ps_if (PW.pt (pw_or (pt_not (pt_val (pe_callB call_isi (by rfl) T.isinstance (by decide +kernel) (pa_cons (pv 0) (pa_cons (pe_bltn (v := .ty "tuple") (by rfl) T.tuple (by decide +kernel) rfl) pa_nil)))))
        (pw_or (pt_cmpR op_ne (pe_callB call_len_seq (by rfl) T.len (by decide +kernel) (pa_cons (pv 0) pa_nil)) pe_int (nomark _))
          (pw_or1 (pt_not (pt_val (pe_n PO hr (by decide) (by rfl) (pa_cons (pe_ix ix_tup (pv 0) pe_int (fun _ _ => rfl)) pa_nil)))))))) (pss_one (ps_ret pe_bl)) pss_nil)
      (pss_cons (ps_if (PW.pt (pw_or (pt_not (pt_val (pe_n AF hr (by decide) (by rfl) (pa_cons (pe_ix ix_tup (pv 0) pe_int (fun _ _ => rfl)) (pa_cons (pe_glob (v := .int 5) (by rfl) m5 ⟨t5, rfl⟩) pa_nil)))))
          (pw_or1 (pt_not (pt_val (pe_n AF hr (by decide) (by rfl) (pa_cons (pe_ix ix_tup (pv 0) pe_int (fun _ _ => rfl)) (pa_cons (pe_glob (v := .int 5) (by rfl) m5 ⟨t5, rfl⟩) pa_nil)))))))) (pss_one (ps_ret pe_bl)) pss_nil)
      (pss_cons (ps_asg (pe_slice sl_tupA (pv 0) (po_some pe_int) po_none) (pg_tup rfl (pgs_cons (pg_name (i := 1) scIsLad.nd rfl (.inl rfl)) (pgs_cons (pg_name (i := 2) scIsLad.nd rfl (.inl rfl)) pgs_nil))))
      (C8.pss_cut (ps_if (PW.pt (pw_and (pt_truth (pv 2) (by intro _; rfl)) (pw_and1 (pt_cmpR (op_eqD hr.units) (pe_ix ix_tup (pv 2) (pe_un un_neg pe_int) (fun _ _ => rfl)) (pe_glob (v := .ref z) (by rfl) mz rfl) (nomark _)))))
          (pss_one (ps_ret (pe_and (pe_cmpR op_eq (pe_callB call_len_seq (by rfl) T.len (by decide +kernel) (pa_cons (pv 1) pa_nil)) (pe_callB call_len_seq (by rfl) T.len (by decide +kernel) (pa_cons (pv 2) pa_nil)) (nomark _))
            (pe_one (pe_n AB hr (by decide) (by rfl) (pa_cons (pe_slice sl_tupA (pv 2) po_none (po_some (pe_un un_neg pe_int))) pa_nil)))))) pss_nil)
      (pss_one (ps_ret (pe_and (pe_cmpR op_le (pe_callB call_len_seq (by rfl) T.len (by decide +kernel) (pa_cons (pv 1) pa_nil)) (pe_glob (v := .int 4) (by rfl) m4 ⟨t4, rfl⟩) (nomark _))
        (pe_and (pe_cmpR op_in_seq (pe_op op_sub (pe_callB call_len_seq (by rfl) T.len (by decide +kernel) (pa_cons (pv 1) pa_nil)) (pe_callB call_len_seq (by rfl) T.len (by decide +kernel) (pa_cons (pv 2) pa_nil))) (pe_tup (pa_cons pe_int (pa_cons pe_int pa_nil))) (by rfl))
          (pe_one (pe_n AB hr (by decide) (by rfl) (pa_cons (pv 2) pa_nil)))))))))), ?_⟩
    have ks := fun (e : ladderD d = false) => by
      have := kk
      rw [e] at this
      exact this
    refine ⟨v, rfl, v, _, _, _, _, rfl, .ty _, hd.ty, kitT K d, _, rfl, ?_⟩
    cases ht : isTup d with
    | false =>
      have e : ladderD d = false := by cases d <;> first | rfl | cases ht
      exact iteT (iteT (ks e H (fun _ _ z => z)))
    | true =>
      refine iteF ?_
      cases hd with
      | tup hS hA =>
        rename_i a xs ds
        have l := dpAll_len hA
        refine ⟨_, rfl, a, _, rfl, .inr hS, rfl, _, rfl, ?_⟩
        refine ite2 (fun c => ?_) (fun c => ?_)
        · refine iteT (ks (ladderD_len fun z => ?_) H (fun _ _ z => z))
          rw [← l] at z
          simp [z] at c
        · have l3 : xs.length = 3 := by
            have c2 : ((xs.length : Nat) : Int) = 3 := by simpa using c
            omega
          obtain ⟨v1, v2, v3, d1, d2, d3, rfl, rfl, h1, h2, h3⟩ := three_of hA l3
          refine ⟨_, rfl, a, _, 0, _, rfl, rfl, hS, rfl, v1, d1, rfl, h1, _, rfl, ?_⟩
          have kk' : ∀ H', Same H H' → Q (.bl (posD d1 && (fracsD 5 d2 && (fracsD 5 d3 && shapeD d2 d3)))) H' := kk
          cases e1 : posD d1 with
          | false =>
            rw [e1] at kk'
            exact iteT (kk' H (fun _ _ z => z))
          | true =>
            rw [e1] at kk'
            refine iteF ?_
            refine ⟨_, rfl, a, _, 1, _, rfl, rfl, hS, rfl, v2, d2, 5, rfl, h2, by decide, fun H1 s1 => ⟨_, rfl, ?_⟩⟩
            cases e2 : fracsD 5 d2 with
            | false =>
              rw [e2] at kk'
              exact iteT (iteT (kk' H1 s1))
            | true =>
              rw [e2] at kk'
              refine iteF ?_
              refine ⟨_, rfl, a, _, 2, _, rfl, rfl, Bs.Same.t s1 hS, rfl, v3, d3, 5, rfl, dps s1 h3, by decide, fun H2 s2 => ⟨_, rfl, ?_⟩⟩
              have s12 := s1.trans s2
              cases e3 : fracsD 5 d3 with
              | false =>
                rw [e3] at kk'
                exact iteT (kk' H2 s12)
              | true =>
                rw [e3] at kk'
                refine iteF ?_
                obtain ⟨qs, rfl, oq, lq⟩ := fracsD_true e2
                obtain ⟨rs, rfl, or_, lr⟩ := fracsD_true e3
                have kk2 : ∀ H', Same H H' → Q (.bl (shapeD (dP qs) (dP rs))) H' := kk'
                refine ⟨_, rfl, 1, rfl, a, _, rfl, Bs.Same.t s12 hS, (fun z => absurd z.1 (show ¬ (1 : Nat) = 0 by decide)), fun _ p hp => ?_⟩
                have s3 := same_new (o := .tup (cutV [v1, v2, v3] (some 1) none)) hp
                have s13 := s12.trans s3
                refine ⟨p, [v2, v3], rfl, SqT.of upd_same, rfl, v2, [v3], rfl, v3, [], rfl, rfl, ?_⟩
                obtain ⟨b2, xs, rfl, sx, fx⟩ := (dp_po h2).mono s13
                obtain ⟨b3, ys, rfl, sy, fy⟩ := (dp_po h3).mono s13
                have lx := fx.len
                have ly := fy.len
                generalize upd H2 p (.tup (cutV [v1, V.ref b2, V.ref b3] (some 1) none)) = H3 at *
                have kk3 : ∀ H', Same H3 H' → Q (.bl (shapeD (dP qs) (dP rs))) H' := fun H' s => kk2 H' (s13.trans s)
                clear kk kk' kk2 ks
                refine ⟨fun σ H' => Pn rs ∧ H' = H3 ∧ σ = [some (V.ref a), some (V.ref b2), some (V.ref b3)], ?_, ?_⟩
                · refine ⟨_, rfl, !ys.isEmpty, .inr (.inl ⟨ys, sy, rfl⟩), ?_⟩
                  by_cases ne : rs = []
                  · subst ne
                    cases fy
                    exact iteF ⟨.inl rfl, rfl, rfl⟩
                  · have yn : ys ≠ [] := fun z => ne (List.eq_nil_of_length_eq_zero (by rw [← ly, z]; rfl))
                    have et : (!ys.isEmpty) = true := by
                      cases ys with
                      | nil => exact absurd rfl yn
                      | cons _ _ => rfl
                    rw [et]
                    refine iteT ?_
                    have rp := List.length_pos_iff.mpr ne
                    obtain ⟨u, q, g1, g2, g3⟩ := fy.get (i := rs.length - 1) (by omega)
                    have eq_ : co rs (rs.length - 1) = q := co_get g2
                    rw [← ly] at g1
                    refine ⟨_, rfl, _, rfl, b3, ys, _, u, rfl, rfl, sy, atI_neg1 yn g1, dF q, dF (0, 1), g3.dp, .tup (sz H3) (.cons (.int 0) (.cons (.int 1) .nil)), rfl, rfl, _, rfl, ?_⟩
                    rw [eqv_nought]
                    refine ite2 (fun c => ?_) (fun c => ?_)
                    · have c1 : q = (0, 1) := of_decide_eq_true c
                      rw [shape_end ne (eq_.trans c1)] at kk3
                      refine ⟨_, rfl, b2, xs, rfl, .inr sx, _, rfl, b3, ys, rfl, .inr sy, rfl, _, rfl, ?_⟩
                      have el : decide (V.int (xs.length : Int) = V.int (ys.length : Int)) = decide (qs.length = rs.length) := by
                        rw [lx, ly]
                        exact decide_eq_decide.mpr ⟨fun h => by have := V.int.inj h; omega, fun h => by rw [h]⟩
                      rw [el]
                      refine ite2 (fun c2 => ?_) (fun c2 => ?_)
                      · obtain ⟨ci1, ci2⟩ := cut_init yn
                        refine ⟨_, rfl, _, rfl, -1, rfl, b3, ys, rfl, sy, (fun z => absurd z ci2), fun _ p2 hp2 => ?_⟩
                        rw [ci1]
                        have s4 := same_new (o := .tup (ys.take (ys.length - 1))) hp2
                        refine ⟨_, rs.take (rs.length - 1), rfl, ⟨p2, _, rfl, SqT.of upd_same, ?_⟩, by rw [List.length_take]; omega, fun H5 s5 => ?_⟩
                        · have := (fy.take (ys.length - 1)).mono s4
                          rw [ly] at this ⊢
                          exact this
                        · have := kk3 H5 (s4.trans s5)
                          rw [c2, Bool.true_and] at this
                          exact this
                      · have := kk3 H3 (fun _ _ z => z)
                        rw [Bool.eq_false_iff.mpr c2, Bool.false_and] at this
                        exact this
                    · have c1 : ¬ q = (0, 1) := fun w => c (decide_eq_true w)
                      exact ⟨.inr (by rw [eq_]; exact c1), rfl, rfl⟩
                · rintro σ H' ⟨pn, rfl, rfl⟩
                  rw [shape_open pn] at kk3
                  refine ⟨_, rfl, b2, xs, rfl, .inr sx, _, _, rfl, rfl, _, rfl, ?_⟩
                  have el : decide ((xs.length : Int) ≤ 4) = decide (qs.length ≤ 4) := by
                    rw [lx]
                    exact decide_eq_decide.mpr (by omega)
                  rw [el]
                  refine ite2 (fun c2 => ?_) (fun c2 => ?_)
                  · rw [c2, Bool.true_and] at kk3
                    refine ⟨_, rfl, b2, xs, rfl, .inr sx, _, rfl, b3, ys, rfl, .inr sy, _, _, rfl, rfl, (by show 2 ≤ sizeLine; decide), fun p2 hp2 => ⟨p2, _, rfl, .inr (SqT.of upd_same), rfl, rfl, _, rfl, ?_⟩⟩
                    have s4 := same_new (o := .tup [V.int 0, V.int 1]) hp2
                    have ei : inV (V.int ((xs.length : Int) - (ys.length : Int))) [V.int 0, V.int 1] = (decide (qs.length = rs.length) || decide (qs.length = rs.length + 1)) := by
                      rw [lx, ly]
                      show ((0 == ((qs.length : Int) - (rs.length : Int))) || ((1 == ((qs.length : Int) - (rs.length : Int))) || false)) = _
                      rw [Bool.or_false]
                      congr 1
                      · rw [Bool.eq_iff_iff, beq_iff_eq, decide_eq_true_eq]
                        omega
                      · rw [Bool.eq_iff_iff, beq_iff_eq, decide_eq_true_eq]
                        omega
                    refine if_in ei (fun c3 => ?_) (fun c3 => ?_)
                    · refine ⟨_, rfl, _, rs, rfl, ⟨b3, ys, rfl, Bs.Same.t s4 sy, fy.mono s4⟩, by omega, fun H5 s5 => ?_⟩
                      have := kk3 H5 (s4.trans s5)
                      rw [c3, Bool.true_and] at this
                      exact this
                    · have := kk3 _ s4
                      rw [c3, Bool.false_and] at this
                      exact this
                  · have := kk3 _ (fun _ _ z => z)
                    rw [Bool.eq_false_iff.mpr c2, Bool.false_and] at this
                    exact this
      | _ => cases ht
end
end Rs


set_option Elab.async false
set_option linter.all false
set_option maxRecDepth 100000
set_option maxHeartbeats 1000000
namespace Rs
open PySem L2 Bs Fq LamX RZ
def dL (T : F) (ls ss : List F) : PyData := .tuple [dF T, dP ls, dP ss]
def Lad (K : PySem.W.Frag) (H : Hp) (v : V) (T : F) (ls ss : List F) : Prop := ∃ a v1 v2 v3, v = .ref a ∧ SqT K H a [v1, v2, v3] ∧ Fr K H v1 T ∧ Po K H v2 ls ∧ Po K H v3 ss
theorem Lad.mono {K : PySem.W.Frag} {H H' : Hp} {v : V} {T : F} {ls ss : List F} (e : Same H H') (h : Lad K H v T ls ss) : Lad K H' v T ls ss := by
  obtain ⟨a, v1, v2, v3, rfl, s, f, p, q⟩ := h
  exact ⟨a, v1, v2, v3, rfl, Bs.Same.t e s, f.mono e, p.mono e, q.mono e⟩
theorem Lad.dp {K : PySem.W.Frag} {H : Hp} {v : V} {T : F} {ls ss : List F} (h : Lad K H v T ls ss) : Dp K H v (dL T ls ss) := by
  obtain ⟨a, v1, v2, v3, rfl, s, f, p, q⟩ := h
  exact .tup s (.cons f.dp (.cons p.dp (.cons q.dp .nil)))
theorem lad_of {K : PySem.W.Frag} {H : Hp} {v : V} {T : F} {ls ss : List F} (h : Dp K H v (dL T ls ss)) : Lad K H v T ls ss := by
  cases h with
  | tup s a =>
    cases a with
    | cons h1 t1 =>
      cases t1 with
      | cons h2 t2 =>
        cases t2 with
        | cons h3 t3 =>
          cases t3
          exact ⟨_, _, _, _, rfl, s, dp_fr h1, dp_po h2, dp_po h3⟩
theorem ladderD_true {d : PyData} (h : ladderD d = true) : ∃ T ls ss, d = dL T ls ss ∧ ls.length ≤ 5 ∧ ss.length ≤ 5 ∧ ls.length ≤ ss.length + 1 ∧ ss.length ≤ ls.length := by
  unfold ladderD at h
  split at h
  · rename_i t dl ds
    rw [Bool.and_eq_true, Bool.and_eq_true, Bool.and_eq_true, posD, Bool.and_eq_true] at h
    obtain ⟨⟨h1, _⟩, h2, h3, h4⟩ := h
    obtain ⟨T, rfl, _⟩ := fracD_true h1
    obtain ⟨ls, rfl, _, l1⟩ := fracsD_true h2
    obtain ⟨ss, rfl, _, l2⟩ := fracsD_true h3
    refine ⟨T, ls, ss, rfl, by omega, by omega, ?_⟩
    by_cases c : Pn ss
    · rw [shape_open c] at h4
      simp only [Bool.and_eq_true, Bool.or_eq_true, decide_eq_true_eq] at h4
      omega
    · have n : ss ≠ [] := fun z => c (.inl z)
      have e : co ss (ss.length - 1) = (0, 1) := Classical.byContradiction fun z => c (.inr z)
      rw [shape_end n e] at h4
      simp only [Bool.and_eq_true, decide_eq_true_eq] at h4
      omega
  · cases h
/-- it ends: its last step is nought -/
def endB (ss : List F) : Bool := decide (¬ Pn ss)
abbrev sHasEnd : Stmt := top 42
def spHasEnd (K : PySem.W.Frag) : Sp := fun vs H Q _ => ∃ (v : V) (T : F) (ls ss : List F), vs = [v] ∧ Lad K H v T ls ss ∧ Q (.bl (endB ss)) H
section
variable {P : Program} {w : World} {K : PySem.W.Frag} {mg : Str → Option Value} {base : Heap} {f : Addr} {fd : FuncData} {CL : Addr}
theorem scNeedLad : FnScope ["thing"] ["thing"] (defScope sNeedLad) := ⟨rfl, rfl, rfl, by decide +kernel, rfl, by decide +kernel, by decide +kernel⟩
theorem ok_needLad (F : Fun K "need_ladder" "need_ladder" sNeedLad f fd) (T : ErrOkW P w K mg base "BadLadder" "given" CL) (W : Cal P w K mg base 4 "is_ladder" (spIsLad K)) : FnOk P w K mg base (L2.CX P w) 5 f fd ["thing"] (spNeedLad K CL) := by
  refine F.okX scNeedLad (fun vs H Q E h => ?_) (fun cdv A outer s H vs Q E hr h => ?_)
  · obtain ⟨v, d, rfl, _⟩ := h
    rfl
  · obtain ⟨v, d, rfl, hd, k1, k2⟩ := h
    refine ⟨_, pss_cons (ps_if (pt_not (pt_val (pe_n W hr (by decide) (by rfl) (pa_cons (pv 0) pa_nil)))) (pss_one (ps_rzW rfl T hr (by decide) (takes_of rfl rfl rfl rfl) (pv 0) (by rfl))) pss_nil) (pss_one (ps_ret (pv 0))), ?_⟩
    refine ⟨_, rfl, v, d, rfl, hd, fun H' s => ⟨_, rfl, ?_⟩⟩
    cases e : ladderD d with
    | true => exact iteF ⟨_, rfl, k1 e H' s⟩
    | false => exact iteT ⟨_, rfl, k2 e H' s⟩
theorem scHasEnd : FnScope ["ladder", "steps"] ["ladder"] (defScope sHasEnd) := ⟨rfl, rfl, rfl, by decide +kernel, rfl, by decide +kernel, by decide +kernel⟩
theorem ok_hasEnd (F : Fun K "has_end" "has_end" sHasEnd f fd) (T : Blt mg) (Z : Nou K mg) : FnOk P w K mg base CX0 1 f fd ["ladder"] (spHasEnd K) := by
  refine F.ok scHasEnd (fun vs H Q E h => ?_) (fun cdv A outer s H vs Q E hr h => ?_)
  · obtain ⟨v, T0, ls, ss, rfl, _⟩ := h
    rfl
  · obtain ⟨v, T0, ls, ss, rfl, ⟨a, v1, v2, v3, rfl, sq, _, _, b, ys, rfl, sy, fy⟩, kk⟩ := h
    obtain ⟨z, mz, sz⟩ := Z.ex
    have ly := fy.len
    refine ⟨_, pss_cons (ps_set (i := 1) scHasEnd.nd rfl (Or.inl rfl) (pe_ix ix_tup (pv 0) pe_int (fun _ _ => rfl)))
      (pss_one (ps_ret (pe_and (pe_cmpR op_gt (pe_callB call_len_seq (by rfl) T.len (by decide +kernel) (pa_cons (pv 1) pa_nil)) pe_int (nomark _))
        (pe_one (pe_cmpR (op_eqD hr.units) (pe_ix ix_tup (pv 1) (pe_un un_neg pe_int) (fun _ _ => rfl)) (pe_glob (v := .ref z) (by rfl) mz rfl) (nomark _)))))), ?_⟩
    refine ⟨_, rfl, a, _, 2, _, rfl, rfl, sq, rfl, ?_⟩
    refine ⟨_, rfl, b, ys, rfl, .inr sy, _, _, rfl, rfl, _, rfl, ?_⟩
    by_cases ne : ss = []
    · subst ne
      cases fy
      exact iteF kk
    · have yn : ys ≠ [] := fun z => ne (List.eq_nil_of_length_eq_zero (by rw [← ly, z]; rfl))
      have yp := List.length_pos_iff.mpr yn
      obtain ⟨u, q, g1, g2, g3⟩ := fy.get (i := ss.length - 1) (by omega)
      have eq_ : co ss (ss.length - 1) = q := co_get g2
      rw [← ly] at g1
      refine ite2 (fun c => ?_) (fun c => absurd (decide_eq_true (by omega)) c)
      refine ⟨_, rfl, _, rfl, b, ys, _, u, rfl, rfl, sy, atI_neg1 yn g1, dF q, dF (0, 1), g3.dp, .tup (sz H) (.cons (.int 0) (.cons (.int 1) .nil)), rfl, rfl, ?_⟩
      rw [eqv_nought]
      have e : endB ss = decide (q = (0, 1)) := by
        unfold endB
        refine decide_eq_decide.mpr ⟨fun h => ?_, fun h n => ?_⟩
        · exact Classical.byContradiction fun z => h (.inr (by rw [eq_]; exact z))
        · rcases n with n | n
          · exact ne n
          · exact n (eq_.trans h)
      rw [e] at kk
      exact kk
end
end Rs


set_option linter.all false
set_option maxRecDepth 100000
set_option maxHeartbeats 400000
namespace Rs
open Fq
abbrev Wy := List Int × Int
def absI (x : Int) : Int := if x < 0 then -x else x
def fit (l e h s : Int) : Bool := decide (h + s ≥ 0) && decide (absI (h + s - e) ≤ l)
def ext (l e : Int) (r : Wy) : List Wy := ([-1, 0, 1].filter fun s => fit l e r.2 s).map fun s => (r.1 ++ [s], r.2 + s)
def ends (e : Int) (rs : List Wy) : List (List Int) := (rs.filter fun r => decide (r.2 = e)).map (·.1)
/-- heights -/
def hts (b : Int) : List Int → List Int
  | [] => [b]
  | s :: w => b :: hts (b + s) w
def hgt (b : Int) (w : List Int) : Int := b + w.sum
def tri (w : List Int) : Prop := ∀ s ∈ w, s = -1 ∨ s = 0 ∨ s = 1
def up (b : Int) (w : List Int) : Prop := ∀ h ∈ hts b w, 0 ≤ h
theorem hts_len (b : Int) (w : List Int) : (hts b w).length = w.length + 1 := by
  induction w generalizing b with
  | nil => rfl
  | cons s w ih =>
    show (hts (b + s) w).length + 1 = w.length + 1 + 1
    rw [ih]
theorem hts_snoc (b s : Int) (w : List Int) : hts b (w ++ [s]) = hts b w ++ [hgt b w + s] := by
  induction w generalizing b with
  | nil =>
    show [b, b + s] = [b] ++ [b + 0 + s]
    rw [Int.add_zero]
    rfl
  | cons t w ih =>
    show b :: hts (b + t) (w ++ [s]) = (b :: hts (b + t) w) ++ [b + (t + w.sum) + s]
    rw [ih, show hgt (b + t) w = b + (t + w.sum) from by unfold hgt; omega]
    rfl
theorem hts_get (b : Int) (w : List Int) : ∀ i, i ≤ w.length → (hts b w)[i]? = some (hgt b (w.take i)) := by
  induction w generalizing b with
  | nil =>
    intro i h
    have : i = 0 := by simpa using h
    subst this
    show some b = some (b + 0)
    rw [Int.add_zero]
  | cons s w ih =>
    intro i h
    cases i with
    | zero =>
      show some b = some (b + 0)
      rw [Int.add_zero]
    | succ i =>
      show (hts (b + s) w)[i]? = some (b + (s + (w.take i).sum))
      rw [ih _ i (by simpa using h)]
      congr 1
      unfold hgt
      omega
theorem hts_last (b : Int) (w : List Int) : (hts b w)[(hts b w).length - 1]? = some (hgt b w) := by
  rw [hts_len, Nat.add_sub_cancel, hts_get b w _ (Nat.le_refl _), List.take_length]
/-- what each row is -/
structure Gr (b : Int) (k : Nat) (r : Wy) : Prop where
  n : r.1.length = k
  t : tri r.1
  u : up b r.1
  h : r.2 = hgt b r.1
theorem ext_mem {l e : Int} {r q : Wy} (h : q ∈ ext l e r) : ∃ s : Int, (s = -1 ∨ s = 0 ∨ s = 1) ∧ r.2 + s ≥ 0 ∧ q = (r.1 ++ [s], r.2 + s) := by
  obtain ⟨s, hs, rfl⟩ := List.mem_map.mp h
  obtain ⟨h1, h2⟩ := List.mem_filter.mp hs
  refine ⟨s, by simpa using h1, ?_, rfl⟩
  unfold fit at h2
  rw [Bool.and_eq_true] at h2
  exact of_decide_eq_true h2.1
theorem Gr.ext {b l e : Int} {k : Nat} {r q : Wy} (g : Gr b k r) (h : q ∈ ext l e r) : Gr b (k + 1) q := by
  obtain ⟨s, hs, h0, rfl⟩ := ext_mem h
  refine ⟨?_, ?_, ?_, ?_⟩
  · rw [List.length_append, g.n]
    rfl
  · intro t ht
    rcases List.mem_append.mp ht with ht | ht
    · exact g.t t ht
    · rw [List.mem_singleton.mp ht]
      exact hs
  · intro x hx
    rw [hts_snoc] at hx
    rcases List.mem_append.mp hx with hx | hx
    · exact g.u x hx
    · rw [List.mem_singleton.mp hx, ← g.h]
      exact h0
  · show r.2 + s = b + (r.1 ++ [s]).sum
    rw [g.h, List.sum_append]
    unfold hgt
    simp
    omega
/-- a way of m steps from b -/
structure Way (b : Int) (w : List Int) : Prop where
  t : tri w
  u : up b w
def mst (ls ss : List F) (q : F) (h s : Int) : F := if s = 0 ∧ h < ls.length then mul q (co ls h.toNat) else if s = -1 ∧ h ≤ ss.length then mul q (co ss (h - 1).toNat) else q
def lst (ls ss : List F) (h s : Int) : Bool := decide (¬ (s = 0 ∧ h < ls.length) ∧ ¬ (s = -1 ∧ h ≤ ss.length) ∧ s ≠ 1)
def fnd (ls ss : List F) (b : Int) (w : List Int) : Nat → F
  | 0 => (1, 1)
  | i + 1 => mst ls ss (fnd ls ss b w i) (hgt b (w.take i)) (w.getD i 0)
def lck (ls ss : List F) (b : Int) (w : List Int) : Nat → Bool
  | 0 => false
  | i + 1 => lck ls ss b w i || lst ls ss (hgt b (w.take i)) (w.getD i 0)
def over (ls : List F) (b : Int) (w : List Int) : Prop := ∃ h ∈ hts b w, (ls.length : Int) ≤ h
instance (ls : List F) (b : Int) (w : List Int) : Decidable (over ls b w) := inferInstanceAs (Decidable (∃ h ∈ hts b w, _))
/-- the worth; E: the ladder is ended -/
def wv (E : Bool) (ls ss : List F) (b : Int) (w : List Int) : Option F := if E = true ∧ over ls b w then some (0, 1) else if lck ls ss b w w.length = true then none else some (fnd ls ss b w w.length)
end Rs


set_option Elab.async false
set_option linter.all false
set_option maxRecDepth 100000
set_option maxHeartbeats 1000000
namespace MxT
open PySem PySem.Spec PyProof.Rows L2
section
variable {prog : Program} {w : World} {A : Around} {E : Value → Shared → Prop} {s : Shared} {l : Addr} {xs : Array (Int × Tok)} {Q : Value → Shared → Prop}
theorem low {hp : Heap} {b : Addr} {o : Obj} (e : hp.get? b = some o) : b ≠ hp.objs.size := Nat.ne_of_lt (Heap.lt_size e)
theorem kept {it : Obj} {h' : Heap} (hk : ∀ b o, b ∉ [s.heap.objs.size] → (s.heap.push it).get? b = some o → h'.get? b = some o) : ∀ b o, s.heap.get? b = some o → h'.get? b = some o := fun b o e =>
  hk b o (fun m => low e (List.mem_singleton.mp m)) (Heap.get?_push_of_some _ e)
theorem mn (hh : A.handled = none) (hl : s.heap.IsTuple l (intItems xs)) (hne : 0 < xs.size)
    (h : ∀ v h' tk, (intItems xs)[argBest (fun i j => decide (numAt xs i < numAt xs j)) (xs.size - 1)]? = some v → (∀ b o, s.heap.get? b = some o → h'.get? b = some o) → Q v { s with heap := h', toks := tk }) :
    wpAny (model prog w) A (call (.builtin "min") [.ref l]) Q E s := by
  have lt : l < s.heap.objs.size := by
    obtain ⟨_, e, _⟩ := hl
    exact Heap.lt_size e
  refine call_min_walk (wpAny_pyIter_tuple hl ?_)
  refine ⟨_, [_, l], [_], _, _, _, _, rfl, Walks.tuple (A := A.in1) hh _ l (Nat.ne_of_lt lt) (intItems xs), ⟨⟨_, Heap.get?_push_size _ rfl, rfl, rfl⟩, hl.push _⟩, fun c hc => ?_, by simpa [intItems] using hne, CmpOf.ints_lt (numAt xs) (fun _ _ => intItems_at), fun v h' tk hP hk => h v h' tk (by simpa [intItems] using hP) (kept hk)⟩
  show c < (s.heap.push _).objs.size
  rw [Heap.size_push]
  rcases List.mem_cons.mp hc with rfl | hc
  · exact Nat.lt_succ_self _
  · rw [List.mem_singleton.mp hc]
    exact Nat.lt_succ_of_lt lt
end
section
variable {X : Cx}
def rMnT (K : PySem.W.Frag) : List V → Hp → VK → Prop := fun vs H Q => ∃ (a : Addr) (ns : List Int), vs = [V.ref a] ∧ SqT K H a (ns.map V.int) ∧ ns ≠ [] ∧ ∀ m, m ∈ ns → (∀ y ∈ ns, m ≤ y) → Q (.int m) H
theorem cr_mnT (hc : X.calm = true) : CallR X (.builtin "min") (rMnT X.K) := by
  rintro pins s σ H vs us Q I r ⟨a, ns, rfl, hs, hne, q⟩
  obtain ⟨us2, rv, hl, _⟩ := I.tuple hs
  rw [Vals.ref1 r]
  obtain ⟨xs, e⟩ := rv.ints.allInts.items
  have hn : numsOf (intItems xs).toList = ns := by rw [← e]; exact rv.ints.numsOf
  rw [nums_intItems] at hn; subst hn
  rw [e] at hl
  have hsz : 0 < xs.size := by
    have := List.length_pos_iff.mpr hne
    simpa using this
  refine mn (I.ok.hd hc) hl hsz fun v h' tk hv hk => ?_
  obtain ⟨tok, rfl⟩ := intItems_at hv
  obtain ⟨low1, best⟩ := argBest_lt (numAt xs) (xs.size - 1)
  refine ⟨.int _, H, I.kept hk, ⟨_, rfl⟩, q _ ?_ fun y hy => ?_⟩
  · rw [numAt_eq]
    refine PySem.getD_mem ?_
    simp only [List.length_map, Array.length_toList]; omega
  · obtain ⟨j, hj, rfl⟩ := mem_getD hy
    simp only [List.length_map, Array.length_toList] at hj
    rw [← numAt_eq]
    refine best j ?_
    omega
end
end MxT


set_option Elab.async false
set_option linter.all false
set_option maxRecDepth 100000
set_option maxHeartbeats 1000000
namespace Rs
open PySem L2 Bs Fq LamX
structure Bnds (mg : Str → Option Value) : Prop where
  m8 : ∃ t, mg "MOST_STEPS" = some (.int 8 t)
abbrev sHts : Stmt := top 49
abbrev sIsWay : Stmt := top 50
/-- start, way -> its heights -/
def spHts (K : PySem.W.Frag) : Sp := fun vs H Q _ => ∃ (b : Int) (v : V) (w : List Int), vs = [.int b, v] ∧ It K H v w ∧ w.length ≤ 500 ∧ ∀ H' u, Same H H' → It K H' u (hts b w) → Q u H'
def spIsWay (K : PySem.W.Frag) : Sp := fun vs H Q _ => ∃ (b : Int) (v : V) (w : List Int), vs = [.int b, v] ∧ It K H v w ∧ Way b w ∧ w.length ≤ 8 ∧ ∀ H', Same H H' → Q (.bl true) H'
section
variable {P : Program} {w : World} {K : PySem.W.Frag} {mg : Str → Option Value} {base : Heap} {f : Addr} {fd : FuncData}
abbrev NHts : List Str := ["start", "way", "heights", "step"]
theorem scHts : FnScope NHts ["start", "way"] (defScope sHts) := ⟨rfl, rfl, rfl, by decide +kernel, rfl, by decide +kernel, by decide +kernel⟩
theorem ok_hts (F : Fun K "heights_by" "heights_by" sHts f fd) (T : Blt mg) : FnOk P w K mg base CX0 1 f fd ["start", "way"] (spHts K) := by
  refine F.ok scHts (fun vs H Q E h => ?_) (fun cdv A outer s H vs Q E hr h => ?_)
  · obtain ⟨b, v, w, rfl, _⟩ := h
    rfl
  · obtain ⟨b, v, w, rfl, ⟨a, rfl, sa⟩, lw, kk⟩ := h
    refine ⟨_, pss_cons (ps_set (i := 2) scHts.nd rfl (Or.inl rfl) (pe_lst (pa_cons (pv 0) pa_nil)))
      (pss_cons (ps_for PassesOwn.never rfl (pi_tup (pv 1)) (pg_name (i := 3) scHts.nd rfl (.inl rfl))
        (pss_one (ps_expr (pe_bm PySem.F.plainAttrs_list PySem.F.slot_list_append PySem.F.type_list_append mt_append (pv 2) (pa_cons (pe_op op_add (pe_ix ix_list (pv 2) (pe_un un_neg pe_int) (fun _ _ => rfl)) (pv 3)) pa_nil)))))
      (pss_one (ps_ret (pe_callTy call_tuple_of (by rfl) T.tuple (by decide +kernel) (pa_cons (pv 2) pa_nil))))), ?_⟩
    refine ⟨_, rfl, (by show 1 ≤ sizeLine; decide), fun L hL => ?_⟩
    have s0 := same_new (o := .lst [.int b]) hL
    refine ⟨_, rfl, a, rfl, ⟨_, Bs.Same.t s0 sa⟩, for_tup (K := K) (a := a) (xs := w.map V.int) (fun i σ H1 => Same H H1 ∧ ∃ v3, H1 L = some (.lst ((hts b (w.take i)).map V.int)) ∧ σ = [some (V.int b), some (V.ref a), some (V.ref L), v3])
      ⟨s0, none, upd_same, rfl⟩ (fun i σ H1 _ p => Bs.Same.t p.1 sa) ?_ ?_⟩
    · rintro i x σ H1 hx ⟨s1, v3, hL1, rfl⟩
      obtain ⟨t, ht, rfl⟩ := some_int hx
      have hi : i < w.length := (List.getElem?_eq_some_iff.mp ht).1
      have lt : (w.take i).length = i := by rw [List.length_take]; omega
      have hlast : ((hts b (w.take i)).map V.int)[((hts b (w.take i)).map V.int).length - 1]? = some (V.int (hgt b (w.take i))) := by
        rw [List.length_map, List.getElem?_map, hts_last]
        rfl
      have hne : (hts b (w.take i)).map V.int ≠ [] := fun z => by
        have := congrArg List.length z
        rw [List.length_map, hts_len] at this
        cases this
      refine ⟨_, rfl, .inl ⟨rfl, _, SqL.of hL1⟩, _, rfl, _, rfl, L, _, _, _, rfl, rfl, SqL.of hL1, atI_neg1 hne hlast, _, rfl, _, _, rfl, rfl, L, _, _, rfl, rfl, hL1, small1000 (by rw [List.length_map, hts_len, lt]; omega), ?_⟩
      refine ⟨fun c o e => (upd_ne (ne_of_none e hL)).trans (s1 c o e), _, ?_, rfl⟩
      rw [upd_same, take_one ht, hts_snoc, List.map_append]
      rfl
    · rintro σ H1 ⟨s1, v3, hL1, rfl⟩
      rw [List.length_map, List.take_length] at hL1
      exact ⟨_, rfl, L, _, rfl, .inl ⟨SqL.of hL1, fun p hp => kk _ _ (s1.trans (same_new hp)) ⟨p, rfl, SqT.of upd_same⟩⟩⟩
theorem scIsWay : FnScope ["start", "thing", "step"] ["start", "thing"] (defScope sIsWay) := ⟨rfl, rfl, rfl, by decide +kernel, rfl, by decide +kernel, by decide +kernel⟩
theorem ok_isWay (F : Fun K "is_way" "is_way" sIsWay f fd) (T : Blt mg) (B : Bnds mg) (al : mg "all" = none) (BE : Cal P w K mg base 2 "is_between" (spBetween K)) (HB : Cal P w K mg base 1 "heights_by" (spHts K)) : FnOk P w K mg base CX0 3 f fd ["start", "thing"] (spIsWay K) := by
  refine F.ok scIsWay (fun vs H Q E h => ?_) (fun cdv A outer s H vs Q E hr h => ?_)
  · obtain ⟨b, v, w, rfl, _⟩ := h
    rfl
  · obtain ⟨b, v, w, rfl, ⟨a, rfl, sa⟩, W, lw, kk⟩ := h
    obtain ⟨t8, m8⟩ := B.m8
    refine ⟨_, pss_cons (ps_if (PW.pt (pw_or (pt_not (pt_val (pe_callB call_isi (by rfl) T.isinstance (by decide +kernel) (pa_cons (pv 1) (pa_cons (pe_bltn (v := .ty "tuple") (by rfl) T.tuple (by decide +kernel) rfl) pa_nil)))))
        (pw_or1 (pt_cmpR op_gt (pe_callB call_len_seq (by rfl) T.len (by decide +kernel) (pa_cons (pv 1) pa_nil)) (pe_glob (v := .int 8) (by rfl) m8 ⟨t8, rfl⟩) (nomark _))))) (pss_one (ps_ret pe_bl)) pss_nil)
      (pss_one (ps_ret (pe_and (pe_callB (cr_all rfl) (by rfl) al (by decide +kernel) (pa_cons (pe_lc (own := [("step", 2)]) (g := gName 2) (tt := tYes) rfl scIsWay.nd (pi_tup (pv 1)) (blkOk_by (N := ["start", "thing", "step"]) (sc := defScope sIsWay) (by decide +kernel))
          (fun _ _ _ _ _ => pg_name (i := 2) scIsWay.nd rfl (Or.inl rfl)) (fun _ _ _ _ _ => pts_nil)
          (fun _ _ _ _ _ => pe_n BE hr (by decide) (by rfl) (pa_cons (pv 2) (pa_cons (pe_un un_neg pe_int) (pa_cons pe_int pa_nil))))) pa_nil))
        (pe_one (pe_cmpR op_ge (pe_callB (MxT.cr_mnT rfl) (by rfl) T.min (by decide +kernel) (pa_cons (pe_n HB hr (by decide) (by rfl) (pa_cons (pv 0) (pa_cons (pv 1) pa_nil))) pa_nil)) pe_int (nomark _)))))), ?_⟩
    have hd : Dp K H (.ref a) (dI w) := It.dp ⟨a, rfl, sa⟩
    refine ⟨_, rfl, _, _, _, _, _, rfl, .ty _, hd.ty, kitT K _, _, rfl, ?_⟩
    refine iteF ⟨_, rfl, a, _, rfl, .inr sa, _, _, rfl, rfl, _, rfl, ?_⟩
    refine ite2 (fun c => ?_) (fun _ => ?_)
    · have := of_decide_eq_true c
      rw [List.length_map] at this
      omega
    refine ⟨_, rfl, a, rfl, ⟨_, sa⟩, fun D hD => lc_tup (K := K) (a := a) (xs := w.map V.int) (fun i H2 => Same H H2 ∧ H2 D = some (.lst ((List.replicate i true).map V.bl))) ⟨same_new hD, upd_same⟩ (fun i H2 _ z => Bs.Same.t z.1 sa) ?_ ?_⟩
    · rintro i x H2 hx ⟨s2, hD2⟩
      obtain ⟨t, ht, rfl⟩ := some_int hx
      have hi : i < w.length := (List.getElem?_eq_some_iff.mp ht).1
      have tb : betwD (-1) 1 (.int t) = true := by
        have := W.t t (List.mem_of_getElem? ht)
        show (decide (-1 ≤ t) && decide (t ≤ 1)) = true
        rw [decide_eq_true (by omega), decide_eq_true (by omega)]
        rfl
      refine ⟨rfl, ?_⟩
      refine iteT (B := Same H H2 ∧ H2 D = some (.lst ((List.replicate (i + 1) true).map V.bl))) ?_
      refine ⟨_, rfl, _, rfl, _, .int t, -1, 1, rfl, .int t, ?_⟩
      rw [tb]
      refine ⟨_, hD2, small1000 (by rw [List.length_map, List.length_replicate]; omega), fun c o e => (upd_ne (ne_of_none e hD)).trans (s2 c o e), ?_⟩
      rw [upd_same, List.replicate_succ', List.map_append]
      rfl
    · rintro H2 ⟨s2, hD2⟩
      refine ⟨D, _, rfl, SqL.of hD2, _, rfl, ?_⟩
      have e : (List.replicate (w.map V.int).length true).all id = true := by
        rw [List.all_eq_true]
        intro x hx
        rw [(List.mem_replicate.mp hx).2]
        rfl
      rw [e]
      refine iteT ⟨_, rfl, _, rfl, b, _, w, rfl, ⟨a, rfl, Bs.Same.t s2 sa⟩, by omega, fun H3 u s3 hu => ?_⟩
      obtain ⟨c, rfl, sc⟩ := hu
      refine ⟨c, _, rfl, sc, fun z => ?_, fun m hm _ => ⟨_, _, rfl, rfl, ?_⟩⟩
      · have := congrArg List.length z
        rw [hts_len] at this
        cases this
      · show Q (.bl (decide (0 ≤ m))) H3
        rw [decide_eq_true (W.u m hm)]
        exact kk H3 (s2.trans s3)
end
end Rs


set_option Elab.async false
set_option linter.all false
set_option maxRecDepth 100000
set_option maxHeartbeats 1000000
namespace Rs
open PySem L2 Bs Fq LamX
abbrev rAdd : R2 := rI0 fun i j => .int (i + j)
abbrev rSub : R2 := rI0 fun i j => .int (i - j)
end Rs


set_option Elab.async false
set_option linter.all false
set_option maxRecDepth 100000
set_option maxHeartbeats 1000000
namespace Rs
open PySem L2 Bs Fq LamX RZ
structure Args (K : PySem.W.Frag) (H : Hp) (vL v : V) (T : F) (ls ss : List F) (b : Int) (w : List Int) : Prop where
  lad : Lad K H vL T ls ss
  it : It K H v w
  way : Way b w
  len : w.length ≤ 8
  zl : Za 1 ls
  zs : Za 1 ss
theorem Args.mono {K : PySem.W.Frag} {H H' : Hp} {vL v : V} {T : F} {ls ss : List F} {b : Int} {w : List Int} (A : Args K H vL v T ls ss b w) (e : Same H H') : Args K H' vL v T ls ss b w := ⟨A.lad.mono e, A.it.mono e, A.way, A.len, A.zl, A.zs⟩
end Rs


set_option Elab.async false
set_option linter.all false
set_option maxRecDepth 100000
set_option maxHeartbeats 1000000
namespace Rs
open PySem L2 Bs Fq LamX RZ
def Sz (q : F) : Prop := Lt2 350 q.1 ∧ Lt2 350 q.2
theorem Kp.off {p l D : Addr} {H H4 : Hp} {o : HO} (k : Kp p l H H4) (h : H D = none) : Kp p l H (upd H4 D o) := fun b' o' e m1 m2 => (upd_ne (ne_of_none e h)).trans (k b' o' e m1 m2)
end Rs


set_option Elab.async false
set_option linter.all false
set_option maxRecDepth 100000
set_option maxHeartbeats 1000000
namespace Rs
open PySem L2 Bs Fq LamX RZ
theorem sqT_kp' {K : PySem.W.Frag} {H H' : Hp} {p c l : Addr} {n : Nat} {t : Int} {a : Addr} {xs : List V} (k : Kp p l H H') (S : Sta H p c l n t) (s : SqT K H a xs) : SqT K H' a xs := by
  obtain ⟨ls, b1, _⟩ := S.ls
  rcases s with (s | ⟨o, s⟩) | s
  · exact .inl (.inl (k a _ s (ne_of s S.d (by intro z; cases z)) (ne_of s b1 (by intro z; cases z))))
  · exact .inl (.inr ⟨o, k a _ s (ne_of s S.d (by intro z; cases z)) (ne_of s b1 (by intro z; cases z))⟩)
  · exact .inr s
theorem Lad.kp {K : PySem.W.Frag} {H H' : Hp} {p c l : Addr} {n : Nat} {t : Int} {v : V} {T : F} {ls ss : List F} (k : Kp p l H H') (S : Sta H p c l n t) (h : Lad K H v T ls ss) : Lad K H' v T ls ss := by
  obtain ⟨a, v1, v2, v3, rfl, s, f, g, q⟩ := h
  exact ⟨a, v1, v2, v3, rfl, sqT_kp' k S s, k.fr S f, g.kp k S, q.kp k S⟩
end Rs


set_option Elab.async false
set_option linter.all false
set_option maxRecDepth 100000
set_option maxHeartbeats 400000
namespace Rs
open PySem L2 Bs Fq LamX
end Rs


set_option Elab.async false
set_option linter.all false
set_option maxRecDepth 100000
set_option maxHeartbeats 1000000
namespace Rs
open PySem L2 Bs Fq LamX RZ
def stA (s : List F) (h : Nat) : F := if 0 < h then co s (h - 1) else (0, 1)
def stB (s ls : List F) (h : Nat) : F := if h < s.length ∧ h < ls.length then add (stA s h) (mul (co ls h) (co s h)) else stA s h
theorem stepH_eq (s ls ss : List F) (h : Nat) : stepH s ls ss h = if h + 1 < s.length ∧ h < ss.length then add (stB s ls h) (mul (co ss h) (co s (h + 1))) else stB s ls h := rfl
theorem stA_zs {n : Nat} {s : List F} (hs : Za n s) (h : Nat) : Zs n (stA s h) := by
  unfold stA
  split
  · exact hs.co _
  · exact Zs.zero
theorem stB_zs {n : Nat} {s ls : List F} (hs : Za n s) (hl : Za 1 ls) (h : Nat) : Zs (n + 2) (stB s ls h) := by
  unfold stB
  split
  · exact ((stA_zs hs h).up).add (((hl.co h).mul (hs.co h)).mono (by omega))
  · exact (stA_zs hs h).mono (by omega)
abbrev sStepped : Stmt := top 43
abbrev sRowTo : Stmt := top 44
abbrev sNeedTop : Stmt := top 45
abbrev sRowOf : Stmt := top 46
def spStepped (K : PySem.W.Frag) : Sp := fun vs H Q _ => ∃ (x y u : V) (s ls ss : List F) (n : Nat), vs = [x, y, u] ∧ Ls K H x s ∧ Po K H y ls ∧ Po K H u ss ∧ Za n s ∧ Za 1 ls ∧ Za 1 ss ∧ n ≤ 300 ∧ s.length ≤ 20 ∧
  ∀ H' p xs, Same H H' → H p = none → SqL K H' p xs → FrAll K H' xs (stepL s ls ss) → Q (.ref p) H'
theorem Ls.at {K : PySem.W.Frag} {H : Hp} {xs : List V} {s : List F} {i : Nat} (fx : FrAll K H xs s) (hi : i < s.length) : ∃ u, xs[i]? = some u ∧ Fr K H u (co s i) := by
  obtain ⟨u, q, e1, e2, f⟩ := fx.get hi
  exact ⟨u, e1, by rw [co_get e2]; exact f⟩
abbrev NSt : List Str := ["sums", "levels", "steps", "longer", "height", "whole"]
section
variable {P : Program} {w : World} {K : PySem.W.Frag} {mg : Str → Option Value} {base : Heap} {f : Addr} {fd : FuncData} {CL CN : Addr}
theorem scStepped : FnScope NSt ["sums", "levels", "steps"] (defScope sStepped) := ⟨rfl, rfl, rfl, by decide +kernel, rfl, by decide +kernel, by decide +kernel⟩
theorem ok_stepped (F : Fun K "stepped" "stepped" sStepped f fd) (T : Blt mg) (Z : Nou K mg) (Ad : Cal P w K mg base 2 "added" (spOp K add dom2)) (Ti : Cal P w K mg base 2 "timed" (spOp K mul dom2)) : FnOk P w K mg base CX0 3 f fd ["sums", "levels", "steps"] (spStepped K) := by
  refine F.ok scStepped (fun vs H Q E h => ?_) (fun cdv A outer s0 H vs Q E hr h => ?_)
  · obtain ⟨x, y, u, s, ls, ss, n, rfl, _⟩ := h
    rfl
  · obtain ⟨x, y, u, s, ls, ss, n, rfl, ⟨a, xs, rfl, sx, fx⟩, ⟨b, ys, rfl, sy, fy⟩, ⟨c, us, rfl, su, fu⟩, zs, zl, zb, hn, l20, kk⟩ := h
    obtain ⟨z, mz, sz⟩ := Z.ex
    have lx := fx.len
    have ly := fy.len
    have lu := fu.len
    refine ⟨_, pss_cons (ps_set (i := 3) scStepped.nd rfl (Or.inl rfl) (pe_lst pa_nil))
      (pss_cons (ps_for PassesOwn.never rfl (pi_range1 rfl T.range (pa_cons (pe_op op_add (pe_callB call_len_seq (by rfl) T.len (by decide +kernel) (pa_cons (pv 0) pa_nil)) pe_int) pa_nil)) (pg_name (i := 4) scStepped.nd rfl (Or.inl rfl))
        (C8.pss_cut (ps_set (i := 5) scStepped.nd rfl (Or.inl rfl) (pe_ifExp (pt_cmpR op_gt (pv 4) pe_int (nomark _)) (pe_ix ix_list (pv 0) (pe_op op_sub (pv 4) pe_int) (fun _ _ => rfl)) (pe_glob (v := .ref z) (by rfl) mz rfl)))
        (C8.pss_cut (ps_if (PW.pt (pw_and (pt_cmpR op_lt (pv 4) (pe_callB call_len_seq (by rfl) T.len (by decide +kernel) (pa_cons (pv 0) pa_nil)) (nomark _)) (pw_and1 (pt_cmpR op_lt (pv 4) (pe_callB call_len_seq (by rfl) T.len (by decide +kernel) (pa_cons (pv 1) pa_nil)) (nomark _)))))
            (pss_one (ps_set (i := 5) scStepped.nd rfl (Or.inl rfl) (pe_n Ad hr (by decide) (by rfl) (pa_cons (pv 5) (pa_cons (pe_n Ti hr (by decide) (by rfl) (pa_cons (pe_ix ix_tup (pv 1) (pv 4) (fun _ _ => rfl)) (pa_cons (pe_ix ix_list (pv 0) (pv 4) (fun _ _ => rfl)) pa_nil))) pa_nil))))) pss_nil)
        (C8.pss_cut (ps_if (PW.pt (pw_and (pt_cmpR op_lt (pe_op op_add (pv 4) pe_int) (pe_callB call_len_seq (by rfl) T.len (by decide +kernel) (pa_cons (pv 0) pa_nil)) (nomark _)) (pw_and1 (pt_cmpR op_lt (pv 4) (pe_callB call_len_seq (by rfl) T.len (by decide +kernel) (pa_cons (pv 2) pa_nil)) (nomark _)))))
            (pss_one (ps_set (i := 5) scStepped.nd rfl (Or.inl rfl) (pe_n Ad hr (by decide) (by rfl) (pa_cons (pv 5) (pa_cons (pe_n Ti hr (by decide) (by rfl) (pa_cons (pe_ix ix_tup (pv 2) (pv 4) (fun _ _ => rfl)) (pa_cons (pe_ix ix_list (pv 0) (pe_op op_add (pv 4) pe_int) (fun _ _ => rfl)) pa_nil))) pa_nil))))) pss_nil)
          (pss_one (ps_expr (pe_bm PySem.F.plainAttrs_list PySem.F.slot_list_append PySem.F.type_list_append mt_append (pv 3) (pa_cons (pv 5) pa_nil))))))))
      (pss_one (ps_ret (pv 3)))), ?_⟩
    refine ⟨(by show 0 ≤ sizeLine; decide), fun L hL => ?_⟩
    have s1 := same_new (o := .lst []) hL
    refine ⟨_, rfl, a, xs, rfl, .inl (s1.seq sx), _, _, rfl, rfl, _, rfl, by omega, by omega, for_range (n := ((xs.length : Int) + 1).toNat) (fun i σ H1 => Same H H1 ∧ ∃ acc v4 v5, H1 L = some (.lst acc) ∧ FrAll K H1 acc ((List.range i).map (stepH s ls ss)) ∧ σ = [some (V.ref a), some (V.ref b), some (V.ref c), some (V.ref L), v4, v5])
      ⟨s1, [], none, none, upd_same, .nil, rfl⟩ ?_ ?_⟩
    · rintro i σ H1 hi ⟨s1, acc, v4, v5, hL1, fa, rfl⟩
      have la : acc.length = i := by rw [fa.len, List.length_map, List.length_range]
      have i1 : i ≤ s.length := by omega
      refine ⟨fun σ H2 => ∃ v, Same H H2 ∧ H2 L = some (.lst acc) ∧ FrAll K H2 acc ((List.range i).map (stepH s ls ss)) ∧ Fr K H2 v (stA s i) ∧ σ = [some (V.ref a), some (V.ref b), some (V.ref c), some (V.ref L), some (V.int i), some v], ?_, ?_⟩
      · refine ⟨_, rfl, _, _, rfl, rfl, _, rfl, ?_⟩
        have ei : (0 : Int) + (i : Int) = (i : Int) := Int.zero_add _
        rw [ei]
        refine ite2 (fun c1 => ?_) (fun c1 => ?_)
        · have hp : 0 < i := by
            have := of_decide_eq_true c1
            omega
          obtain ⟨u1, e1, f1⟩ := Ls.at (i := i - 1) fx (by omega)
          have ha : atI xs ((i : Int) - 1) = some u1 := by
            rw [show (i : Int) - 1 = ((i - 1 : Nat) : Int) by omega]
            exact atI_nat e1
          refine ⟨_, rfl, _, rfl, _, _, rfl, rfl, a, xs, _, u1, rfl, rfl, s1.seq sx, ha, ?_⟩
          refine ⟨u1, s1, hL1, fa, ?_, rfl⟩
          unfold stA
          rw [if_pos hp]
          exact f1.mono s1
        · have hp : ¬ 0 < i := fun z => c1 (decide_eq_true (by omega))
          refine ⟨.ref z, s1, hL1, fa, ?_, rfl⟩
          unfold stA
          rw [if_neg hp]
          exact ⟨z, rfl, sz H1⟩
      rintro σ H2 ⟨v, s2, hL2, fa2, fv, rfl⟩
      clear hL1 fa s1
      refine ⟨fun σ H2 => ∃ v, Same H H2 ∧ H2 L = some (.lst acc) ∧ FrAll K H2 acc ((List.range i).map (stepH s ls ss)) ∧ Fr K H2 v (stB s ls i) ∧ σ = [some (V.ref a), some (V.ref b), some (V.ref c), some (V.ref L), some (V.int i), some v], ?_, ?_⟩
      · have no : ¬ (i < s.length ∧ i < ls.length) → ∃ v', Same H H2 ∧ H2 L = some (.lst acc) ∧ FrAll K H2 acc ((List.range i).map (stepH s ls ss)) ∧ Fr K H2 v' (stB s ls i) ∧ [some (V.ref a), some (V.ref b), some (V.ref c), some (V.ref L), some (V.int i), some v] = [some (V.ref a), some (V.ref b), some (V.ref c), some (V.ref L), some (V.int i), some v'] := by
          intro hn
          refine ⟨v, s2, hL2, fa2, ?_, rfl⟩
          unfold stB
          rw [if_neg hn]
          exact fv
        refine ⟨_, rfl, _, rfl, a, xs, rfl, .inl (s2.seq sx), _, _, rfl, rfl, _, rfl, ?_⟩
        refine ite2 (fun c1 => ?_) (fun c1 => ?_)
        · have h1 : i < s.length := by
            have := of_decide_eq_true c1
            omega
          refine ⟨_, rfl, _, rfl, b, ys, rfl, .inr (Bs.Same.t s2 sy), _, _, rfl, rfl, _, rfl, ?_⟩
          refine ite2 (fun c2 => ?_) (fun c2 => ?_)
          · have h2 : i < ls.length := by
              have := of_decide_eq_true c2
              omega
            obtain ⟨u1, e1, f1⟩ := Ls.at (i := i) fy h2
            obtain ⟨u2, e2, f2⟩ := Ls.at (i := i) fx h1
            have zm := (zl.co i).mul (zs.co i)
            refine ⟨_, rfl, _, rfl, _, rfl, b, ys, _, u1, rfl, rfl, Bs.Same.t s2 sy, atI_nat e1, _, rfl, _, rfl, a, xs, _, u2, rfl, rfl, s2.seq sx, atI_nat e2, u1, u2, _, _, rfl, f1.mono s2, f2.mono s2, ⟨zs_dm (zl.co i), zs_dm (zs.co i)⟩, fun p hp => ?_⟩
            have s3 := same_new (o := fr (mul (co ls i) (co s i))) hp
            refine ⟨v, .ref p, _, _, rfl, fv.mono s3, Fr.of upd_same, ⟨zs_dm (stA_zs zs i), zs_dm zm⟩, fun p2 hp2 => ?_⟩
            have s4 := same_new (o := fr (add (stA s i) (mul (co ls i) (co s i)))) hp2
            have s34 := s3.trans s4
            refine ⟨.ref p2, s2.trans s34, s34 _ _ hL2, fa2.mono s34, ?_, rfl⟩
            unfold stB
            rw [if_pos ⟨h1, h2⟩]
            exact Fr.of upd_same
          · exact no fun z => c2 (decide_eq_true (by omega))
        · exact no fun z => c1 (decide_eq_true (by omega))
      rintro σ H3 ⟨v2, s3, hL3, fa3, fv3, rfl⟩
      clear hL2 fa2 s2 fv
      refine ⟨fun σ H2 => ∃ v, Same H H2 ∧ H2 L = some (.lst acc) ∧ FrAll K H2 acc ((List.range i).map (stepH s ls ss)) ∧ Fr K H2 v (stepH s ls ss i) ∧ σ = [some (V.ref a), some (V.ref b), some (V.ref c), some (V.ref L), some (V.int i), some v], ?_, ?_⟩
      · have no : ¬ (i + 1 < s.length ∧ i < ss.length) → ∃ v', Same H H3 ∧ H3 L = some (.lst acc) ∧ FrAll K H3 acc ((List.range i).map (stepH s ls ss)) ∧ Fr K H3 v' (stepH s ls ss i) ∧ [some (V.ref a), some (V.ref b), some (V.ref c), some (V.ref L), some (V.int i), some v2] = [some (V.ref a), some (V.ref b), some (V.ref c), some (V.ref L), some (V.int i), some v'] := by
          intro hn
          refine ⟨v2, s3, hL3, fa3, ?_, rfl⟩
          rw [stepH_eq, if_neg hn]
          exact fv3
        have ea : (i : Int) + 1 = ((i + 1 : Nat) : Int) := by omega
        refine ⟨_, rfl, _, _, rfl, rfl, _, rfl, a, xs, rfl, .inl (s3.seq sx), _, _, rfl, rfl, _, rfl, ?_⟩
        refine ite2 (fun c1 => ?_) (fun c1 => ?_)
        · have h1 : i + 1 < s.length := by
            have := of_decide_eq_true c1
            omega
          refine ⟨_, rfl, _, rfl, c, us, rfl, .inr (Bs.Same.t s3 su), _, _, rfl, rfl, _, rfl, ?_⟩
          refine ite2 (fun c2 => ?_) (fun c2 => ?_)
          · have h2 : i < ss.length := by
              have := of_decide_eq_true c2
              omega
            obtain ⟨u1, e1, f1⟩ := Ls.at (i := i) fu h2
            obtain ⟨u2, e2, f2⟩ := Ls.at (i := i + 1) fx h1
            have zm := (zb.co i).mul (zs.co (i + 1))
            refine ⟨_, rfl, _, rfl, _, rfl, c, us, _, u1, rfl, rfl, Bs.Same.t s3 su, atI_nat e1, _, rfl, _, rfl, _, _, rfl, rfl, a, xs, _, u2, rfl, rfl, s3.seq sx, (by rw [ea]; exact atI_nat e2), u1, u2, _, _, rfl, f1.mono s3, f2.mono s3, ⟨zs_dm (zb.co i), zs_dm (zs.co (i + 1))⟩, fun p hp => ?_⟩
            have s4 := same_new (o := fr (mul (co ss i) (co s (i + 1)))) hp
            refine ⟨v2, .ref p, _, _, rfl, fv3.mono s4, Fr.of upd_same, ⟨zs_dm (stB_zs zs zl i), zs_dm zm⟩, fun p2 hp2 => ?_⟩
            have s5 := same_new (o := fr (add (stB s ls i) (mul (co ss i) (co s (i + 1))))) hp2
            have s45 := s4.trans s5
            refine ⟨.ref p2, s3.trans s45, s45 _ _ hL3, fa3.mono s45, ?_, rfl⟩
            rw [stepH_eq, if_pos ⟨h1, h2⟩]
            exact Fr.of upd_same
          · exact no fun z => c2 (decide_eq_true (by omega))
        · exact no fun z => c1 (decide_eq_true (by omega))
      rintro σ H4 ⟨v3, s4, hL4, fa4, fv4, rfl⟩
      refine ⟨_, rfl, Or.inl ⟨rfl, _, SqL.of hL4⟩, _, rfl, L, acc, _, rfl, rfl, hL4, small1000 (by omega), ?_⟩
      refine ⟨fun c o e => (upd_ne (ne_of_none e hL)).trans (s4 c o e), acc ++ [v3], some (.int i), some v3, upd_same, ?_, rfl⟩
      rw [List.range_succ, List.map_append]
      exact (FrAll.off hL4 fa4).snoc (fv4.off hL4)
    · rintro σ H1 ⟨s1, acc, v4, v5, hL1, fa, rfl⟩
      refine ⟨_, rfl, kk H1 L acc s1 hL (SqL.of hL1) ?_⟩
      rw [show ((xs.length : Int) + 1).toNat = s.length + 1 by omega] at fa
      exact fa
end
end Rs


set_option Elab.async false
set_option linter.all false
set_option maxRecDepth 100000
set_option maxHeartbeats 1000000
namespace Rs
open PySem L2 Bs Fq LamX RZ
def spRowTo (K : PySem.W.Frag) : Sp := fun vs H Q _ => ∃ (v : V) (T : F) (ls ss : List F) (n : Int), vs = [v, .int n] ∧ Lad K H v T ls ss ∧ Zs 1 T ∧ Za 1 ls ∧ Za 1 ss ∧ 0 ≤ n ∧ n ≤ 8 ∧
  ∀ H' v, Same H H' → Po K H' v (rowL T ls ss n.toNat) → Q v H'
def mostN (ls ss : List F) : Int := if endB ss = true then 8 else if (ls.length : Int) + (ss.length : Int) < 8 then (ls.length : Int) + (ss.length : Int) else 8
def spNeedTop (K : PySem.W.Frag) (C : Addr) : Sp := fun vs H Q E => ∃ (v t : V) (T : F) (ls ss : List F) (dt : PyData), vs = [v, t] ∧ Lad K H v T ls ss ∧ Dp K H t dt ∧ (betwD 0 (mostN ls ss) dt = true → Q t H) ∧ (betwD 0 (mostN ls ss) dt = false → Out E C t H)
def spRowOf (K : PySem.W.Frag) (CL CN : Addr) : Sp := fun vs H Q E => ∃ (v t : V) (dv dt : PyData), vs = [v, t] ∧ Dp K H v dv ∧ Dp K H t dt ∧ (ladderD dv = false → ∀ H', Same H H' → OutW E CL "given" v H') ∧
  (∀ T ls ss, dv = dL T ls ss → ladderD dv = true → (betwD 0 (mostN ls ss) dt = false → ∀ H', Same H H' → OutW E CN "given" t H') ∧
    (∀ n, dt = .int n → 0 ≤ n → n ≤ mostN ls ss → Zs 1 T ∧ Za 1 ls ∧ Za 1 ss ∧ ∀ H' v, Same H H' → Po K H' v (rowL T ls ss n.toNat) → Q v H'))
theorem rowL_succ (T : F) (ls ss : List F) (n : Nat) : rowL T ls ss (n + 1) = rowL T ls ss n ++ [mul T (co (sumsL ls ss (n + 1)) 0)] := by
  unfold rowL
  rw [List.range_succ, List.map_append]
  rfl
theorem sqL_off {K : PySem.W.Frag} {H : Hp} {a D : Addr} {xs : List V} {o : HO} (n : a ≠ D) (s : SqL K H a xs) : SqL K (upd H D o) a xs := by
  rcases s with (s | ⟨o', s⟩) | s
  · exact .inl (.inl ((upd_ne n).trans s))
  · exact .inl (.inr ⟨o', (upd_ne n).trans s⟩)
  · exact .inr s
abbrev NRt3 : List Str := ["ladder", "top", "total", "levels", "steps", "sums", "row", "_"]
section
variable {P : Program} {w : World} {K : PySem.W.Frag} {mg : Str → Option Value} {base : Heap} {f : Addr} {fd : FuncData} {CL CN : Addr}
theorem scRowTo : FnScope NRt3 ["ladder", "top"] (defScope sRowTo) := ⟨rfl, rfl, rfl, by decide +kernel, rfl, by decide +kernel, by decide +kernel⟩
theorem ok_rowTo (F : Fun K "row_to" "row_to" sRowTo f fd) (T : Blt mg) (O : OneG K mg) (ST : Cal P w K mg base 3 "stepped" (spStepped K)) (Ti : Cal P w K mg base 2 "timed" (spOp K mul dom2)) : FnOk P w K mg base CX0 4 f fd ["ladder", "top"] (spRowTo K) := by
  refine F.ok scRowTo (fun vs H Q E h => ?_) (fun cdv A outer s0 H vs Q E hr h => ?_)
  · obtain ⟨v, T0, ls, ss, n, rfl, _⟩ := h
    rfl
  · obtain ⟨v, T0, ls, ss, n, rfl, ⟨a, v1, v2, v3, rfl, sq, f1, p2, p3⟩, zT, zl, zb, n0, n8, kk⟩ := h
    obtain ⟨o, mo, so⟩ := O.ex
    refine ⟨_, pss_cons (ps_asg (pv 0) (pg_tup rfl (pgs_cons (pg_name (i := 2) scRowTo.nd rfl (.inl rfl)) (pgs_cons (pg_name (i := 3) scRowTo.nd rfl (.inl rfl)) (pgs_cons (pg_name (i := 4) scRowTo.nd rfl (.inl rfl)) pgs_nil)))))
      (pss_cons (ps_set (i := 5) scRowTo.nd rfl (Or.inl rfl) (pe_lst (pa_cons (pe_glob (v := .ref o) (by rfl) mo rfl) pa_nil)))
      (pss_cons (ps_set (i := 6) scRowTo.nd rfl (Or.inl rfl) (pe_lst (pa_cons (pv 2) pa_nil)))
      (pss_cons (ps_for PassesOwn.never rfl (pi_range1 rfl T.range (pa_cons (pv 1) pa_nil)) (pg_name (i := 7) scRowTo.nd rfl (Or.inl rfl))
        (C8.pss_cut (ps_set (i := 5) scRowTo.nd rfl (Or.inl rfl) (pe_n ST hr (by decide) (by rfl) (pa_cons (pv 5) (pa_cons (pv 3) (pa_cons (pv 4) pa_nil)))))
          (pss_one (ps_expr (pe_bm PySem.F.plainAttrs_list PySem.F.slot_list_append PySem.F.type_list_append mt_append (pv 6) (pa_cons (pe_n Ti hr (by decide) (by rfl) (pa_cons (pv 2) (pa_cons (pe_ix ix_list (pv 5) pe_int (fun _ _ => rfl)) pa_nil))) pa_nil))))))
      (pss_one (ps_ret (pe_callTy call_tuple_of (by rfl) T.tuple (by decide +kernel) (pa_cons (pv 6) pa_nil))))))), ?_⟩
    refine ⟨_, rfl, a, _, rfl, sq, rfl, _, _, rfl, _, _, rfl, _, _, rfl, rfl, ?_⟩
    refine ⟨(by show 1 ≤ sizeLine; decide), fun L0 hL0 => ?_⟩
    have s1 := same_new (o := .lst [V.ref o]) hL0
    refine ⟨_, rfl, (by show 1 ≤ sizeLine; decide), fun L hL => ?_⟩
    have s2 := same_new (o := .lst [v1]) hL
    have u1 : upd (upd H L0 (.lst [V.ref o])) L (.lst [v1]) L0 = some (.lst [V.ref o]) := s2 _ _ upd_same
    have u2 : upd (upd H L0 (.lst [V.ref o])) L (.lst [v1]) L = some (.lst [v1]) := upd_same
    have s12 := s1.trans s2
    have hLn : H L = none := s1.free hL
    generalize upd (upd H L0 (.lst [V.ref o])) L (.lst [v1]) = H2 at *
    refine ⟨_, rfl, _, rfl, by omega, by omega, for_range (n := n.toNat) (fun i σ H1 => Same H H1 ∧ ∃ acc va v7, H1 L = some (.lst acc) ∧ FrAll K H1 acc (rowL T0 ls ss i) ∧ (∃ b xs, va = V.ref b ∧ b ≠ L ∧ SqL K H1 b xs ∧ FrAll K H1 xs (sumsL ls ss i)) ∧ σ = [some (V.ref a), some (V.int n), some v1, some v2, some v3, some va, some (V.ref L), v7])
      ⟨s12, [v1], .ref L0, none, u2, .cons (f1.mono s12) .nil, ⟨L0, _, rfl, ?_, SqL.of u1, .cons ⟨o, rfl, so _⟩ .nil⟩, rfl⟩ ?_ ?_⟩
    · rintro rfl
      rw [upd_same] at hL
      cases hL
    · rintro i σ H1 hi ⟨s3, acc, va, v7, hL1, fa, ⟨b, xs, rfl, nb, sx, fx⟩, rfl⟩
      obtain ⟨za, _⟩ := sumsL_ok zl zb i
      have lsz := sumsL_len ls ss i
      obtain ⟨za1, _⟩ := sumsL_ok zl zb (i + 1)
      refine ⟨fun σ H3 => ∃ b1 xs1 v7, Same H1 H3 ∧ SqL K H3 b1 xs1 ∧ b1 ≠ L ∧ FrAll K H3 xs1 (sumsL ls ss (i + 1)) ∧ σ = [some (V.ref a), some (V.int n), some v1, some v2, some v3, some (V.ref b1), some (V.ref L), v7], ?_, ?_⟩
      · refine ⟨_, rfl, _, rfl, _, rfl, _, _, _, sumsL ls ss i, ls, ss, 3 * i, rfl, ⟨b, xs, rfl, sx, fx⟩, p2.mono s3, p3.mono s3, za, zl, zb, by omega, by omega, fun H3 b1 xs1 s4 n4 sq4 f4 => ?_⟩
        exact ⟨b1, xs1, _, s4, sq4, (fun z => by rw [z, hL1] at n4; cases n4), f4, rfl⟩
      · rintro σ H3 ⟨b1, xs1, v7, s4, sx1, nb1, fx1, rfl⟩
        have hL3 := s4 _ _ hL1
        obtain ⟨u, e1, fu⟩ := Ls.at (i := 0) fx1 (by rw [sumsL_len]; omega)
        have z0 := za1.co 0
        refine ⟨_, rfl, Or.inl ⟨rfl, _, SqL.of hL3⟩, _, rfl, _, rfl, b1, xs1, _, u, rfl, rfl, sx1, atI_nat (j := 0) e1, v1, u, T0, _, rfl, f1.mono (s3.trans s4), fu, ⟨zs_dm zT, zs_dm z0⟩, fun p hp => ?_⟩
        have s5 := same_new (o := fr (mul T0 (co (sumsL ls ss (i + 1)) 0))) hp
        have hL5 := s5 _ _ hL3
        have s35 := (s3.trans s4).trans s5
        have la : acc.length ≤ 9 := by
          rw [fa.len, rowL_len]
          omega
        refine ⟨L, acc, _, rfl, rfl, hL5, small1000 (by omega), ?_⟩
        refine ⟨fun c o e => (upd_ne (ne_of_none e hLn)).trans (s35 c o e), acc ++ [.ref p], .ref b1, v7, upd_same, ?_, ⟨b1, xs1, rfl, nb1, ?_, FrAll.off hL5 (fx1.mono s5)⟩, rfl⟩
        · rw [rowL_succ]
          exact (FrAll.off hL5 (fa.mono (s4.trans s5))).snoc ((Fr.of upd_same).off hL5)
        · exact sqL_off nb1 (s5.seq sx1)
    · rintro σ H1 ⟨s3, acc, va, v7, hL1, fa, _, rfl⟩
      refine ⟨_, rfl, L, acc, rfl, Or.inl ⟨SqL.of hL1, fun p hp => ?_⟩⟩
      have s4 := same_new (o := .tup acc) hp
      exact kk _ _ (s3.trans s4) ⟨p, acc, rfl, SqT.of upd_same, fa.mono s4⟩
theorem scNeedTop : FnScope ["ladder", "top", "total", "levels", "steps", "most"] ["ladder", "top"] (defScope sNeedTop) := ⟨rfl, rfl, rfl, by decide +kernel, rfl, by decide +kernel, by decide +kernel⟩
theorem ok_needTop (F : Fun K "need_top" "need_top" sNeedTop f fd) (T : Blt mg) (M : Mosts mg) (HE : Cal P w K mg base 1 "has_end" (spHasEnd K)) (NB : CalX P w K mg base 3 "need_between" (spNeedB K CN)) : FnOk P w K mg base (L2.CX P w) 4 f fd ["ladder", "top"] (spNeedTop K CN) := by
  refine F.okX scNeedTop (fun vs H Q E h => ?_) (fun cdv A outer s0 H vs Q E hr h => ?_)
  · obtain ⟨v, t, T0, ls, ss, dt, rfl, _⟩ := h
    rfl
  · obtain ⟨v, t, T0, ls, ss, dt, rfl, lad, ht, k1, k2⟩ := h
    obtain ⟨t8, m8⟩ := M.m8
    obtain ⟨a, v1, v2, v3, rfl, sq, f1, ⟨b, xs, rfl, sx, fx⟩, c, ys, rfl, sy, fy⟩ := id lad
    have lx := fx.len
    have ly := fy.len
    refine ⟨_, pss_cons (ps_asg (pv 0) (pg_tup rfl (pgs_cons (pg_name (i := 2) scNeedTop.nd rfl (.inl rfl)) (pgs_cons (pg_name (i := 3) scNeedTop.nd rfl (.inl rfl)) (pgs_cons (pg_name (i := 4) scNeedTop.nd rfl (.inl rfl)) pgs_nil)))))
      (C8.pss_cut (ps_set (i := 5) scNeedTop.nd rfl (Or.inl rfl) (pe_ifExp (pt_val (pe_n HE hr (by decide) (by rfl) (pa_cons (pv 0) pa_nil))) (pe_glob (v := .int 8) (by rfl) m8 ⟨t8, rfl⟩)
          (pe_callB (call_min2 rfl) (by rfl) T.min (by decide +kernel) (pa_cons (pe_glob (v := .int 8) (by rfl) m8 ⟨t8, rfl⟩) (pa_cons (pe_op op_add (pe_callB call_len_seq (by rfl) T.len (by decide +kernel) (pa_cons (pv 3) pa_nil)) (pe_callB call_len_seq (by rfl) T.len (by decide +kernel) (pa_cons (pv 4) pa_nil))) pa_nil)))))
      (pss_one (ps_ret (pe_x (E := E) NB hr (by decide) (by rfl) (passes_call (takes_of rfl rfl rfl rfl) (fun _ _ _ _ h => h)) (pa_cons (pv 1) (pa_cons pe_int (pa_cons (pv 5) pa_nil))))))), ?_⟩
    refine ⟨_, rfl, a, _, rfl, sq, rfl, _, _, rfl, _, _, rfl, _, _, rfl, rfl, ?_⟩
    refine ⟨fun σ H1 => H1 = H ∧ σ = [some (V.ref a), some t, some v1, some (V.ref b), some (V.ref c), some (V.int (mostN ls ss))], ?_, ?_⟩
    · refine ⟨_, rfl, V.ref a, T0, ls, ss, rfl, lad, _, rfl, ?_⟩
      unfold mostN
      cases e : endB ss with
      | true =>
        refine iteT ?_
        rw [if_pos rfl]
        exact ⟨rfl, rfl⟩
      | false =>
        refine iteF ?_
        rw [if_neg (by decide)]
        refine ⟨_, rfl, b, xs, rfl, .inr sx, _, rfl, c, ys, rfl, .inr sy, _, _, rfl, rfl, _, _, rfl, ?_⟩
        rw [lx, ly]
        exact ⟨rfl, rfl⟩
    · rintro σ H1 ⟨rfl, rfl⟩
      exact ⟨_, rfl, _, rfl, t, dt, 0, mostN ls ss, rfl, ht, k1, k2⟩
theorem scRowOf : FnScope ["ladder", "top"] ["ladder", "top"] (defScope sRowOf) := ⟨rfl, rfl, rfl, by decide +kernel, rfl, by decide +kernel, by decide +kernel⟩
theorem ok_rowOf (F : Fun K "row_of" "row_of" sRowOf f fd) (NT : CalX P w K mg base 4 "need_top" (spNeedTop K CN)) (NL3 : CalX P w K mg base 5 "need_ladder" (spNeedLad K CL)) (RT : Cal P w K mg base 4 "row_to" (spRowTo K)) : FnOk P w K mg base (L2.CX P w) 6 f fd ["ladder", "top"] (spRowOf K CL CN) := by
  refine F.okX scRowOf (fun vs H Q E h => ?_) (fun cdv A outer s0 H vs Q E hr h => ?_)
  · obtain ⟨v, t, dv, dt, rfl, _⟩ := h
    rfl
  · obtain ⟨v, t, dv, dt, rfl, hv, ht, k1, k2⟩ := h
    refine ⟨_, pss_cons (ps_expr (pe_x (E := E) NT hr (by decide) (by rfl) (passes_call (takes_of rfl rfl rfl rfl) (fun _ _ _ _ h => h)) (pa_cons (pe_x (E := E) NL3 hr (by decide) (by rfl) (passes_call (takes_of rfl rfl rfl rfl) (fun _ _ _ _ h => h)) (pa_cons (pv 0) pa_nil)) (pa_cons (pv 1) pa_nil))))
      (pss_one (ps_ret (pe_n RT hr (by decide) (by rfl) (pa_cons (pv 0) (pa_cons (pv 1) pa_nil))))), ?_⟩
    refine ⟨_, rfl, v, dv, rfl, hv, fun e H1 s1 => ?_, fun e H1 s1 => k1 e H1 s1⟩
    obtain ⟨T0, ls, ss, rfl, l1, l2, l3, l4⟩ := ladderD_true e
    obtain ⟨k3, k4⟩ := k2 T0 ls ss rfl e
    have lad := (lad_of hv).mono s1
    refine ⟨_, rfl, v, t, T0, ls, ss, dt, rfl, lad, dps s1 ht, fun e2 => ?_, fun e2 => k3 e2 H1 s1⟩
    have hk : ∃ k : Int, dt = .int k ∧ 0 ≤ k ∧ k ≤ mostN ls ss := by
      cases dt <;> simp [betwD] at e2
      rename_i i
      exact ⟨i, rfl, e2.1, e2.2⟩
    obtain ⟨n, rfl, n0, n1⟩ := hk
    obtain ⟨zT, zl, zb, kk⟩ := k4 n rfl n0 n1
    have n8 : n ≤ 8 := by
      unfold mostN at n1
      split at n1
      · exact n1
      · split at n1 <;> omega
    cases ht
    exact ⟨_, rfl, _, rfl, v, T0, ls, ss, n, rfl, lad, zT, zl, zb, n0, n8, fun H' u s2 p => kk H' u (s1.trans s2) p⟩
end
end Rs


set_option Elab.async false
set_option linter.all false
set_option maxRecDepth 100000
set_option maxHeartbeats 1000000
namespace Rs
open PySem L2 Bs Fq LamX LmD RZ
def d11 : PyData := dF (1, 1)
def d01 : PyData := dF (0, 1)
def prs1 : List PyData := [.tuple [.tuple [d01], .tuple [d01, d11]], .tuple [.tuple [d01, d01], .tuple []], .tuple [.tuple [d01], .tuple [.tuple [.int (-1), .int (1)]]], .tuple [.tuple [d01, d01], .tuple [d01, d11]]]
def prs2 : List PyData := [.tuple [.tuple [], .tuple [d11]], .tuple [.tuple [d01, d01], .tuple [d01]], .tuple [.tuple [d01, d01, d01, d01, d01], .tuple [d11, d11, d11, d11, d11]], .tuple [.tuple [d01, d01, d01, d01, d01], .tuple [d11, d11, d11, d11]]]
def prs3 : List PyData := [.tuple [.tuple [d01, d01, d01, d01, d01, d01], .tuple [d11, d11, d11, d11, d11, d01]], .tuple [.tuple [d01, d01, d01], .tuple [d11, d01, d01]], .tuple [.tuple [.tuple [.int (2), .int (2)]], .tuple []]]
def prs : List PyData := prs1 ++ prs2 ++ prs3
end Rs


set_option Elab.async false
set_option linter.all false
set_option maxRecDepth 100000
set_option maxHeartbeats 1000000
namespace Rs
open PySem L2 Bs Fq LamX LmD RZ
abbrev NL3 : List Str := ["script", "one", "none", "wide", "state", "turn"]
end Rs


set_option linter.all false
set_option maxRecDepth 100000
namespace Mk
open Pg
/-! marked ways of partings -/
def blkOf (p : Prt) (i : Nat) : Blk := (p.find? fun b => b.contains (i : Int)).getD []
def stepOf (b : Blk) (n : Int) : Int := (if n = hdI b then 1 else 0) - (if n = ltI b then 1 else 0)
def between (b : Blk) (n : Int) (o : Blk) : Bool := decide (hdI b < hdI o) && (decide (hdI o < n) && decide (n < ltI o))
def markOf (p : Prt) (b : Blk) (n : Int) : Int := if n = hdI b then -1 else ((p.filter (between b n)).length : Nat)
def mwS (p : Prt) : List Int := (List.range (total p)).map fun i : Nat => stepOf (blkOf p i) i
def mwM (p : Prt) : List Int := (List.range (total p)).map fun i : Nat => markOf p (blkOf p i) i
/-- heights of a way from nought -/
def hgt (w : List Int) (i : Nat) : Int := (w.take i).sum
def isMk (s h m : Int) : Bool := if s = 1 then decide (m = -1) else decide ((if s = 0 then -1 else 0) ≤ m) && decide (m ≤ h - 1)
def mksOk (w ms : List Int) : Bool := decide (ms.length = w.length) && (List.range w.length).all fun i => isMk (w.getD i 0) (hgt w i) (ms.getD i 0)
def wayOk (w : List Int) : Bool := decide (w.length ≤ 7) && (w.all (fun s => decide (s = -1 ∨ s = 0 ∨ s = 1)) && ((List.range (w.length + 1)).all (fun i => decide (0 ≤ hgt w i)) && decide (w.sum = 0)))
/-- what is parted so far: blocks and the places of the open ones -/
def pstep (st : Prt × List Nat) (i : Nat) (s m : Int) : Prt × List Nat :=
  if m = -1 then (st.1 ++ [[(i : Int)]], if s = 1 then st.2 ++ [st.1.length] else st.2)
  else
    let place := st.2.getD (st.2.length - 1 - m.toNat) 0
    (st.1.set place (st.1.getD place [] ++ [(i : Int)]), if s = -1 then st.2.erase place else st.2)
def ptd (w ms : List Int) : Nat → Prt × List Nat
  | 0 => ([], [])
  | i + 1 => pstep (ptd w ms i) i (w.getD i 0) (ms.getD i 0)
/-- what every turn finds -/
def pok (w ms : List Int) : Bool := (List.range w.length).all fun i =>
  let st := ptd w ms i
  let m := ms.getD i 0
  decide (st.1.length ≤ 8) && (decide (st.2.length ≤ 8) && (st.1.all (fun b => decide (0 < b.length) && decide (b.length ≤ 8)) && (decide (m = -1) || (decide (0 ≤ m) && (decide (m.toNat < st.2.length) && decide (st.2.getD (st.2.length - 1 - m.toNat) 0 < st.1.length))))))
/-- the law's -/
structure LS where
  w : List Int
  m : List Int
  o : List Blk
deriving DecidableEq
def lstep (p : Prt) (st : LS) (i : Nat) : LS :=
  let b := p.getD (home p i) []
  if (i : Int) = hdI b then ⟨st.w ++ [if 1 < b.length then 1 else 0], st.m ++ [-1], if 1 < b.length then st.o ++ [b] else st.o⟩
  else ⟨st.w ++ [if (i : Int) = ltI b then -1 else 0], st.m ++ [((st.o.length : Nat) : Int) - 1 - ((st.o.findIdx (· == b) : Nat) : Int)], st.o.filter fun f => decide (f ≠ b) || decide ((i : Int) ≠ ltI b)⟩
def lmk (p : Prt) : Nat → LS
  | 0 => ⟨[], [], []⟩
  | i + 1 => lstep p (lmk p i) i
def lok (p : Prt) : Bool := (List.range (total p)).all fun i =>
  let st := lmk p i
  let b := p.getD (home p i) []
  decide (home p i < p.length) && (decide (0 < b.length) && (decide (b.length ≤ 8) && (decide (st.o.length ≤ 8) && (decide ((i : Int) = hdI b) || st.o.contains b))))
def lwS (p : Prt) : List Int := (lmk p (total p)).w
def lwM (p : Prt) : List Int := (lmk p (total p)).m
/-- the law's low -/
def lowS (w ms : List Int) : Nat → Int × Bool
  | 0 => (0, true)
  | i + 1 => ((lowS w ms i).1 + w.getD i 0, (lowS w ms i).2 && (decide ((lowS w ms i).1 + w.getD i 0 < 2) && !(decide (w.getD i 0 = 0) && (decide (ms.getD i 0 = -1) && decide ((lowS w ms i).1 = 1)))))
def noPos (ms : List Int) : Bool := (ms.filter fun m => decide (0 < m)).isEmpty
def sizeM (w : List Int) : Bool := decide (w.length ≤ 8) && w.all fun x => decide (x.natAbs < 16)
def homesB (p : Prt) : Bool := (List.range (total p)).all fun n : Nat => !(homes p n).isEmpty
/-- a parting that the law looks at -/
def oneM (p : Prt) : Bool := validB p && (sizeB p && (decide (total p ≤ 7) && (homesB p && (lok p && (decide (mwS p = lwS p) && (decide (mwM p = lwM p) && (sizeM (lwS p) && sizeM (lwM p))))))))
def twoM (p : Prt) : Bool := wayOk (lwS p) && (mksOk (lwS p) (lwM p) && (pok (lwS p) (lwM p) && (decide ((ptd (lwS p) (lwM p) (total p)).1 = p) && (decide ((lwS p).length = total p) && decide ((lwM p).length = total p)))))
def threeM (p : Prt) : Bool := (lawFree p == noPos (lwM p)) && (lawKind .str p == ((lowS (lwS p) (lwM p) (total p)).2 && noPos (lwM p)))
theorem all_M : ∀ n ∈ [0, 1, 2, 3, 4, 5, 6], (lawRows n).all (fun p => oneM p && (twoM p && threeM p)) = true := by decide +kernel
/-- what may be drawn: a way, its marks, a height -/
abbrev Dw := List Int × List Int × Int
def some_ (h : Int) (left : Nat) : List Int := [-1, 0, 1].filter fun s => decide (0 ≤ h + s) && decide (h + s ≤ (left : Int))
def marksAt (h s : Int) : List Int := if s = -1 then (List.range h.toNat).map fun m : Nat => (m : Int) else if s = 0 then (List.range (h.toNat + 1)).map fun m : Nat => (m : Int) - 1 else [-1]
def dstep (left : Nat) (d : Dw) : List Dw := (some_ d.2.2 left).flatMap fun s => (marksAt d.2.2 s).map fun m => (d.1 ++ [s], d.2.1 ++ [m], d.2.2 + s)
def drawnTo (many : Nat) : Nat → List Dw
  | 0 => [([], [], 0)]
  | i + 1 => (drawnTo many i).flatMap (dstep (many - 1 - i))
def drB (d : Dw) : Bool := wayOk d.1 && (mksOk d.1 d.2.1 && (pok d.1 d.2.1 && (let q := (ptd d.1 d.2.1 d.1.length).1; sizeB q && (homesB q && (decide (total q = d.1.length) && (lok q && (decide (lwS q = d.1) && decide (lwM q = d.2.1))))))))
def okD (many i : Nat) (d : Dw) : Bool := decide (d.1.length = i) && (decide (d.2.1.length = i) && (decide (0 ≤ d.2.2) && (decide (d.2.2 ≤ 7) && !(some_ d.2.2 (many - 1 - i)).isEmpty)))
theorem all_D : ∀ n ∈ [0, 1, 2, 3, 4, 5, 6, 7], ((drawnTo n n).all drB && (List.range n).all fun i => (drawnTo n i).all (okD n i)) = true := by decide +kernel
end Mk


set_option Elab.async false
set_option linter.all false
set_option maxRecDepth 100000
set_option maxHeartbeats 1000000
/-! zip of three tuples -/
namespace Z3
open PySem PySem.Spec PyProof.Rows L2
def Itz3 (K : PySem.W.Frag) (a b c : Addr) : It :=
  ⟨fun i H => ∃ (l t r : List V) (x y u : V), SqT K H a l ∧ SqT K H b t ∧ SqT K H c r ∧ l[i]? = some x ∧ t[i]? = some y ∧ r[i]? = some u,
    fun i H v H' => ∃ T x y u, v = .ref T ∧ H T = none ∧ H' = upd H T (.tup [x, y, u]) ∧ (∀ l, SqT K H a l → l[i]? = some x) ∧ (∀ t, SqT K H b t → t[i]? = some y) ∧ ∀ r, SqT K H c r → r[i]? = some u,
    fun i H => ∃ l t r : List V, SqT K H a l ∧ SqT K H b t ∧ SqT K H c r ∧ i ≤ l.length ∧ i ≤ t.length ∧ i ≤ r.length ∧ (i = l.length ∨ i = t.length ∨ i = r.length)⟩
theorem six {z TI TO j k m c : Addr} (h : c ∈ [z, TI, TO, j, k, m]) : c = z ∨ c = TI ∨ c = TO ∨ c = j ∨ c = k ∨ c = m := by simpa using h
theorem turn3 {P : Program} {w : World} {K : PySem.W.Frag} {elts : List Expr} {kk : Nat} {tpos : Pos} {a b d z TI TO j k m : Addr} (S : ZipSep3 z TI TO j k m [j, a] [k, b] [m, d]) (na : a ≠ j) (nb : b ≠ k) (nd : d ≠ m) :
    Turn P w K (.Tuple elts kk tpos) (Itz3 K a b d) [z, TI, TO, j, k, m] z (fun i h => IsZip h z TI TO .none ∧ IsTupOf3 h TI (.ref j) (.ref k) (.ref m) ∧ (∃ x y u, IsTupOf3 h TO x y u) ∧ h.IsTupleIter j a i ∧ h.IsTupleIter k b i ∧ h.IsTupleIter m d i) where
  mem := List.mem_cons_self
  obj := fun i h st c hc => by
    obtain ⟨hz, hI, ⟨x, y, u, hO⟩, ⟨oj, ej, _, dj⟩, ⟨ok, ek, _, dk⟩, ⟨om, em, _, dm⟩⟩ := st
    rcases six hc with rfl | rfl | rfl | rfl | rfl | rfl
    · exact ⟨_, hz, fun v n => nomatch n⟩
    · exact ⟨_, hI, fun v n => nomatch n⟩
    · exact ⟨_, hO, fun v n => nomatch n⟩
    · exact ⟨oj, ej, fun v n => by rw [dj] at n; cases n⟩
    · exact ⟨ok, ek, fun v n => by rw [dk] at n; cases n⟩
    · exact ⟨om, em, fun v n => by rw [dm] at n; cases n⟩
  keep := fun i h h' st g => by
    obtain ⟨hz, hI, ⟨x, y, u, hO⟩, hj, hk, hm⟩ := st
    exact ⟨g z (by simp) _ hz, g TI (by simp) _ hI, ⟨x, y, u, g TO (by simp) _ hO⟩, hj.at fun o n => g j (by simp) o n, hk.at fun o n => g k (by simp) o n, hm.at fun o n => g m (by simp) o n⟩
  item := by
    intro X hP hw hK hc i pins s σ H E I hf st hg
    subst hP hw hK
    obtain ⟨hz, hI, ⟨x0, y0, u0, hO⟩, hj, hk, hm⟩ := st
    obtain ⟨l, t, r, x, y, g, ql, qt, qr, gx, gy, gg⟩ := hg
    obtain ⟨il, rl, pl, _⟩ := I.tuple ql
    obtain ⟨it, rt, pt, _⟩ := I.tuple qt
    obtain ⟨ir, rr, pr, _⟩ := I.tuple qr
    obtain ⟨u, hu, ru⟩ := rl.get gx
    obtain ⟨v, hv, rv⟩ := rt.get gy
    obtain ⟨e, he, re⟩ := rr.get gg
    have zl : z < s.heap.objs.size := Heap.lt_size hz
    have lt1 : i < il.toArray.size := by
      obtain ⟨q, _⟩ := List.getElem?_eq_some_iff.mp hu
      simpa using q
    have lt2 : i < it.toArray.size := by
      obtain ⟨q, _⟩ := List.getElem?_eq_some_iff.mp hv
      simpa using q
    have lt3 : i < ir.toArray.size := by
      obtain ⟨q, _⟩ := List.getElem?_eq_some_iff.mp he
      simpa using q
    refine wpAny_pyNext_zipD3_item S (Draws.tuple (A := X.A.in1) (I.ok.hd hc) j a na il.toArray) (Draws.tuple (A := X.A.in1) (I.ok.hd hc) k b nb it.toArray) (Draws.tuple (A := X.A.in1) (I.ok.hd hc) m d nd ir.toArray) hz hI hO ⟨hj, pl⟩ ⟨hk, pt⟩ ⟨hm, pr⟩ lt1 lt2 lt3 fun u' v' e' h' tk eu ev ee z' O' sj sk sm hT hs keep => ?_
    have eu' : u' = u := by
      have : il[i]? = some u' := by simpa using eu
      rw [hu] at this
      exact (Option.some.inj this).symm
    have ev' : v' = v := by
      have : it[i]? = some v' := by simpa using ev
      rw [hv] at this
      exact (Option.some.inj this).symm
    have ee' : e' = e := by
      have : ir[i]? = some e' := by simpa using ee
      rw [he] at this
      exact (Option.some.inj this).symm
    subst eu' ev' ee'
    refine ⟨_, rfl, wpAny_letOwnedTupleGo_zip (s := { s with heap := h', toks := tk }) z' fun h2 z2 sb => ?_⟩
    have hT2 : IsTupOf3 h2 s.heap.objs.size u' v' e' := (sb.2 _ (Nat.ne_of_gt zl)).trans hT
    have fresh : ObjOk X.prog X.w (upd H s.heap.objs.size (.tup [x, y, g])) h2 s.heap.objs.size (.tup [x, y, g]) :=
      ⟨by show 3 ≤ sizeLine; decide, [u', v', e'], .cons ru (.cons rv (.cons re .nil)), ⟨_, hT2, rfl, _, rfl⟩⟩
    have J : Inv X pins σ (upd H s.heap.objs.size (.tup [x, y, g])) { s with heap := h2, toks := tk } := by
      refine I.turnedNew (ch := [z, TI, TO, j, k, m]) (fun c o out e => ?_) hf (Nat.le_refl _) fresh
      have n : c ≠ z ∧ c ≠ TO ∧ c ≠ j ∧ c ≠ k ∧ c ≠ m := ⟨fun q => out (by simp [q]), fun q => out (by simp [q]), fun q => out (by simp [q]), fun q => out (by simp [q]), fun q => out (by simp [q])⟩
      exact (sb.2 c n.1).trans (keep c o n.1 n.2.1 n.2.2.1 n.2.2.2.1 n.2.2.2.2 e)
    refine ⟨.ref s.heap.objs.size, _, J, rfl, ⟨_, x, y, g, rfl, I.hok.fresh (Nat.le_refl _), rfl, fun m hm => by rw [I.tuple_inj hm ql]; exact gx, fun m hm => by rw [I.tuple_inj hm qt]; exact gy, fun m hm => by rw [I.tuple_inj hm qr]; exact gg⟩, ⟨z2, ?_, ⟨u', v', e', ?_⟩, ?_, ?_, ?_⟩, fun c hcm => ?_⟩
    · refine (sb.2 _ S.TIz).trans (keep _ _ S.TIz S.TITO S.TIi1 S.TIi2 S.TIi3 hI)
    · exact (sb.2 _ S.TOz).trans O'
    · exact sj.1.at fun o q => (sb.2 _ (Ne.symm S.zi1)).trans q
    · exact sk.1.at fun o q => (sb.2 _ (Ne.symm S.zi2)).trans q
    · exact sm.1.at fun o q => (sb.2 _ (Ne.symm S.zi3)).trans q
    · have lt : c < s.heap.objs.size := by
        rcases six hcm with rfl | rfl | rfl | rfl | rfl | rfl
        · exact zl
        · exact Heap.lt_size hI
        · exact Heap.lt_size hO
        · exact hj.elim fun _ q => Heap.lt_size q.1
        · exact hk.elim fun _ q => Heap.lt_size q.1
        · exact hm.elim fun _ q => Heap.lt_size q.1
      rw [upd_ne (Nat.ne_of_lt lt)]
      exact (hf c hcm).1
  done := by
    intro X hP hw hK hc i pins s σ H E I hf st hg
    subst hP hw hK
    obtain ⟨hz, hI, ⟨x0, y0, u0, hO⟩, hj, hk, hm⟩ := st
    obtain ⟨l, t, r, ql, qt, qr, b1, b2, b3, fin⟩ := hg
    obtain ⟨il, rl, pl, _⟩ := I.tuple ql
    obtain ⟨it, rt, pt, _⟩ := I.tuple qt
    obtain ⟨ir, rr, pr, _⟩ := I.tuple qr
    have n1 : il.toArray.size = l.length := by rw [List.size_toArray, rl.length]
    have n2 : it.toArray.size = t.length := by rw [List.size_toArray, rt.length]
    have n3 : ir.toArray.size = r.length := by rw [List.size_toArray, rr.length]
    refine wpAny_pyNext_zipD3_end (i := i) S (Draws.tuple (A := X.A.in1) (I.ok.hd hc) j a na il.toArray) (Draws.tuple (A := X.A.in1) (I.ok.hd hc) k b nb it.toArray) (Draws.tuple (A := X.A.in1) (I.ok.hd hc) m d nd ir.toArray) hz hI hO ⟨hj, pl⟩ ⟨hk, pt⟩ ⟨hm, pr⟩ (by omega) (by omega) (by omega) (by omega) fun h' tk keep => ⟨rfl, ?_⟩
    refine I.turnedL (ch := [z, TI, TO, j, k, m]) (fun c o out e => ?_) hf
    exact keep c o (fun q => out (by simp [q])) (fun q => out (by simp [q])) (fun q => out (by simp [q])) (fun q => out (by simp [q])) (fun q => out (by simp [q])) e
  self := fun A i s Q E st h => wpAny_pyIter_zip st.1 h
theorem out2 {x u v : Nat} (h1 : x ≠ u) (h2 : x ≠ v) : ¬ ((x : Addr) ∈ ([u, v] : List Addr)) := fun h => by
  rcases List.mem_cons.mp h with q | q
  · exact h1 q
  · exact h2 (List.mem_singleton.mp q)
theorem apart (n a b d : Nat) (la : a < n) (lb : b < n) (ld : d < n) : ZipSep3 (n + 5 : Nat) (n + 3 : Nat) (n + 4 : Nat) n (n + 1 : Nat) (n + 2 : Nat) [n, a] [(n + 1 : Nat), b] [(n + 2 : Nat), d] where
  TIz := by show (n + 3 : Nat) ≠ n + 5; omega
  TOz := by show (n + 4 : Nat) ≠ n + 5; omega
  TITO := by show (n + 3 : Nat) ≠ n + 4; omega
  TIi1 := by show (n + 3 : Nat) ≠ n; omega
  mem1 := List.mem_cons_self
  zf1 := out2 (by omega) (by omega)
  Tf1 := out2 (by omega) (by omega)
  TIi2 := by show (n + 3 : Nat) ≠ n + 1; omega
  mem2 := List.mem_cons_self
  zf2 := out2 (by omega) (by omega)
  Tf2 := out2 (by omega) (by omega)
  TIi3 := by show (n + 3 : Nat) ≠ n + 2; omega
  mem3 := List.mem_cons_self
  zf3 := out2 (by omega) (by omega)
  Tf3 := out2 (by omega) (by omega)
  sep1_2 := out2 (by omega) (by omega)
  sep1_3 := out2 (by omega) (by omega)
  sep2_1 := out2 (by omega) (by omega)
  sep2_3 := out2 (by omega) (by omega)
  sep3_1 := out2 (by omega) (by omega)
  sep3_2 := out2 (by omega) (by omega)
def iZip3 (K : PySem.W.Frag) (ta : TA) : TI := fun σ H R => ta σ H fun vs H1 => ∃ a b c l t r, vs = [.ref a, .ref b, .ref c] ∧ SqT K H1 a l ∧ SqT K H1 b t ∧ SqT K H1 c r ∧ R (Itz3 K a b c) H1
theorem pi_zip3 {X : Cx} {e e2 e3 : Expr} {ta : TA} {p pos tpos : Pos} {elts : List Expr} {kk : Nat} (hg : Gl X "zip") (hm : X.mg "zip" = none) (ha : PA X [e, e2, e3] ta)
    (st : starEach [e, e2, e3] X.env = (false, eval e X.env) :: starEach [e2, e3] X.env := by rfl) (pl : (backTo pos (starEach [e2, e3] X.env)).any (·.1) = false := by rfl) :
    PI X (.Tuple elts kk tpos) (.Call (.Name "zip" p) [e, e2, e3] [] pos) (iZip3 X.K ta) := by
  constructor
  intro pins s σ H R I h
  refine Call_ (ld_blt I hg hm PyProof.Rows.boot_zip (PyProof.Rows.callWith_type1 (thn (ha.run pos pins s σ H _ I h) ?_) st pl))
  rintro us s1 ⟨vs, H1, I1, r1, a, b, c, l, t, r, rfl, ql, qt, qr, q⟩
  cases r1 with
  | cons ra rr =>
    cases rr with
    | cons rb rr =>
      cases rr with
      | cons rc rr =>
        cases rr
        cases ra
        cases rb
        cases rc
        obtain ⟨il, rl, pl', _⟩ := I1.tuple ql
        obtain ⟨it, rt, pt, _⟩ := I1.tuple qt
        obtain ⟨ir, rr, pr, _⟩ := I1.tuple qr
        have la : a < s1.heap.objs.size := by
          obtain ⟨o, z, _⟩ := id pl'
          exact Heap.lt_size z
        have lb : b < s1.heap.objs.size := by
          obtain ⟨o, z, _⟩ := id pt
          exact Heap.lt_size z
        have lc : c < s1.heap.objs.size := by
          obtain ⟨o, z, _⟩ := id pr
          exact Heap.lt_size z
        refine zip_begins3 (begins_tuple a il.toArray) (begins_tuple b it.toArray) (begins_tuple c ir.toArray) pl' pt pr fun h' hz hI hO gj gk gm hs keep => wpAny_pyIter_zip hz ?_
        have J : Inv X pins σ H1 { s1 with heap := h' } := I1.kept (t' := s1.toks) keep
        refine ⟨s1.heap.objs.size + 5, [s1.heap.objs.size + 5, s1.heap.objs.size + 3, s1.heap.objs.size + 4, s1.heap.objs.size, s1.heap.objs.size + 1, s1.heap.objs.size + 2], _, _, H1, rfl, J, turn3 (apart s1.heap.objs.size a b c la lb lc) (Nat.ne_of_lt la) (Nat.ne_of_lt (Nat.lt_succ_of_lt lb)) (Nat.ne_of_lt (Nat.lt_succ_of_lt (Nat.lt_succ_of_lt lc))), ⟨hz, hI, ⟨_, _, _, hO⟩, ⟨_, gj, rfl, rfl⟩, ⟨_, gk, rfl, rfl⟩, ⟨_, gm, rfl, rfl⟩⟩, fun c hcm => ?_, q⟩
        have up : s1.heap.objs.size ≤ c := by
          rcases six hcm with rfl | rfl | rfl | rfl | rfl | rfl
          · exact Nat.le_add_right _ 5
          · exact Nat.le_add_right _ 3
          · exact Nat.le_add_right _ 4
          · exact Nat.le_refl _
          · exact Nat.le_add_right _ 1
          · exact Nat.le_add_right _ 2
        exact I1.fpOk up (I1.hok.fresh up)
/-- a walk over it -/
theorem walk3 {K : PySem.W.Frag} {a b c : Addr} {xs ys zs : List V} {n : Nat} (h1 : n ≤ xs.length) (h2 : n ≤ ys.length) (h3 : n ≤ zs.length) (h : n = xs.length ∨ n = ys.length ∨ n = zs.length) :
    Walk (Itz3 K a b c) n (fun H => SqT K H a xs ∧ SqT K H b ys ∧ SqT K H c zs) (fun i H v H' => ∃ T x y u, v = .ref T ∧ H T = none ∧ H' = upd H T (.tup [x, y, u]) ∧ xs[i]? = some x ∧ ys[i]? = some y ∧ zs[i]? = some u) := by
  refine ⟨fun i _ hi q => ?_, fun _ q => ⟨xs, ys, zs, q.1, q.2.1, q.2.2, h1, h2, h3, h⟩, fun i H v H' _ q y => ?_⟩
  · exact ⟨xs, ys, zs, xs[i], ys[i], zs[i], q.1, q.2.1, q.2.2, List.getElem?_eq_getElem (by omega), List.getElem?_eq_getElem (by omega), List.getElem?_eq_getElem (by omega)⟩
  · obtain ⟨T, x, z, u, e1, e2, e3, e4, e5, e6⟩ := y
    exact ⟨T, x, z, u, e1, e2, e3, e4 xs q.1, e5 ys q.2.1, e6 zs q.2.2⟩
end Z3


set_option Elab.async false
set_option linter.all false
set_option maxRecDepth 100000
set_option maxHeartbeats 1000000
namespace Mk
open Pg
theorem hgt_hts (w : List Int) {i : Nat} (h : i ≤ w.length) : (Rs.hts 0 w)[i]? = some (hgt w i) := by
  rw [Rs.hts_get 0 w i h]
  show some (0 + (w.take i).sum) = _
  rw [Int.zero_add]
  rfl
end Mk
namespace Rs
open PySem L2 Bs Fq LamX Pg RZ Mk
structure NoneG (mg : Str → Option Value) : Prop where
  no : ∃ t, mg "NONE" = some (.int (-1) t)
abbrev sStepOf : Stmt := top 53
abbrev sMarkOf : Stmt := top 54
abbrev sIsMk : Stmt := top 56
abbrev sAreMk : Stmt := top 57
def spStepOf (K : PySem.W.Frag) : Sp := fun vs H Q _ => ∃ (v : V) (b : Blk) (n : Int), vs = [v, .int n] ∧ Rs.It K H v b ∧ 0 < b.length ∧ Q (.int (stepOf b n)) H
def spMarkOf (K : PySem.W.Frag) : Sp := fun vs H Q _ => ∃ (pv v : V) (p : Prt) (b : Blk) (n : Int), vs = [pv, v, .int n] ∧ Pt K H pv p ∧ sizeB p = true ∧ Rs.It K H v b ∧ 0 < b.length ∧ ∀ H', Same H H' → Q (.int (Mk.markOf p b n)) H'
def spIsMk : Sp := fun vs H Q _ => ∃ s h m : Int, vs = [.int s, .int h, .int m] ∧ Q (.bl (isMk s h m)) H
def spAreMk (K : PySem.W.Frag) : Sp := fun vs H Q _ => ∃ (v t : V) (w ms : List Int), vs = [v, t] ∧ Rs.It K H v w ∧ Rs.It K H t ms ∧ w.length ≤ 8 ∧ ∀ H', Same H H' → Q (.bl (mksOk w ms)) H'
abbrev NSo : List Str := ["block", "number"]
abbrev NMo : List Str := ["parting", "block", "number", "other"]
abbrev NIm : List Str := ["step", "height", "thing"]
abbrev NAm : List Str := ["way", "thing", "step", "height", "mark"]
theorem it_dp' {K : PySem.W.Frag} {H : Hp} {a : Addr} {w : List Int} (h : Rs.It K H (.ref a) w) : Dp K H (.ref a) (dI w) := by
  obtain ⟨_, e, s⟩ := h
  cases e
  exact .tup s (dp_ints w)
theorem atI_last {b : Blk} (h : 0 < b.length) : atI (b.map V.int) (-1) = some (V.int (ltI b)) := by
  refine atI_neg1 (fun z => ?_) ?_
  · have := congrArg List.length z
    rw [List.length_map] at this
    have h0 : b.length = 0 := this
    omega
  · rw [List.length_map, List.getElem?_map, lt_at h]
    rfl
theorem atI_hd {b : Blk} (h : 0 < b.length) : atI (b.map V.int) 0 = some (V.int (hdI b)) := by
  refine atI_nat (j := 0) ?_
  rw [List.getElem?_map, hd_at h]
  rfl
section
variable {P : Program} {w : World} {K : PySem.W.Frag} {mg : Str → Option Value} {base : Heap} {f : Addr} {fd : FuncData}
theorem scSo : FnScope NSo NSo (defScope sStepOf) := ⟨rfl, rfl, rfl, by decide +kernel, rfl, by decide +kernel, by decide +kernel⟩
theorem ok_stepOf (F : Fun K "step_of" "step_of" sStepOf f fd) : FnOk P w K mg base CX0 1 f fd NSo (spStepOf K) := by
  refine F.ok scSo (fun vs H Q E h => ?_) (fun cdv A outer s H vs Q E hr h => ?_)
  · obtain ⟨v, b, n, rfl, _⟩ := h
    rfl
  · obtain ⟨v, b, n, rfl, ⟨a, rfl, sa⟩, hb, kk⟩ := h
    refine ⟨_, pss_one (ps_ret (pe_op op_sub (pe_ifExp (pt_cmpR op_eq (pv 1) (pe_ix ix_tup (pv 0) pe_int (fun _ _ => rfl)) (nomark _)) pe_int pe_int) (pe_ifExp (pt_cmpR op_eq (pv 1) (pe_ix ix_tup (pv 0) (pe_un un_neg pe_int) (fun _ _ => rfl)) (nomark _)) pe_int pe_int))), ?_⟩
    have g1 := atI_hd hb
    have g2 := atI_last hb
    unfold Mk.stepOf at kk
    refine ⟨_, rfl, _, rfl, a, _, _, _, rfl, rfl, sa, g1, rfl, _, rfl, ?_⟩
    refine ite2 (fun c1 => ?_) (fun c1 => ?_)
    · have d1 : n = hdI b := by simpa using c1
      refine ⟨_, rfl, _, rfl, _, rfl, a, _, _, _, rfl, rfl, sa, g2, rfl, _, rfl, ?_⟩
      rw [if_pos d1] at kk
      refine ite2 (fun c2 => ?_) (fun c2 => ?_)
      · have d2 : n = ltI b := by simpa using c2
        rw [if_pos d2] at kk
        exact ⟨_, _, rfl, rfl, kk⟩
      · have d2 : ¬ n = ltI b := by simpa using c2
        rw [if_neg d2] at kk
        exact ⟨_, _, rfl, rfl, kk⟩
    · have d1 : ¬ n = hdI b := by simpa using c1
      refine ⟨_, rfl, _, rfl, _, rfl, a, _, _, _, rfl, rfl, sa, g2, rfl, _, rfl, ?_⟩
      rw [if_neg d1] at kk
      refine ite2 (fun c2 => ?_) (fun c2 => ?_)
      · have d2 : n = ltI b := by simpa using c2
        rw [if_pos d2] at kk
        exact ⟨_, _, rfl, rfl, kk⟩
      · have d2 : ¬ n = ltI b := by simpa using c2
        rw [if_neg d2] at kk
        exact ⟨_, _, rfl, rfl, kk⟩
theorem scMo : FnScope NMo ["parting", "block", "number"] (defScope sMarkOf) := ⟨rfl, rfl, rfl, by decide +kernel, rfl, by decide +kernel, by decide +kernel⟩
theorem ok_markOf (F : Fun K "mark_of" "mark_of" sMarkOf f fd) (T : Blt mg) (N : NoneG mg) : FnOk P w K mg base CX0 1 f fd ["parting", "block", "number"] (spMarkOf K) := by
  refine F.ok scMo (fun vs H Q E h => ?_) (fun cdv A outer s H vs Q E hr h => ?_)
  · obtain ⟨pv, v, p, b, n, rfl, _⟩ := h
    rfl
  · obtain ⟨pv, v, p, b, n, rfl, ⟨pa, xs, rfl, sx, al⟩, sz, ⟨a, rfl, sa⟩, hb, kk⟩ := h
    obtain ⟨tno, mno⟩ := N.no
    obtain ⟨l8, bl⟩ := size_blk sz
    refine ⟨_, C8.pss_cut (ps_if (pt_cmpR op_eq (pv 2) (pe_ix ix_tup (pv 1) pe_int (fun _ _ => rfl)) (nomark _)) (pss_one (ps_ret (pe_glob (v := .int (-1)) (by rfl) mno ⟨tno, rfl⟩))) pss_nil)
      (pss_one (ps_ret (pe_callB call_len_seq (by rfl) T.len (by decide +kernel) (pa_cons (pe_lc (own := [("other", 3)]) (g := gName 3) rfl scMo.nd (pi_tup (pv 0)) (blkOk_by (N := NMo) (sc := defScope sMarkOf) (by decide +kernel))
          (fun _ _ _ _ _ => pg_name (i := 3) scMo.nd rfl (Or.inl rfl)) (fun _ _ _ _ _ => pts_one (PW.pt (pw_and (pt_cmpR op_lt (pe_ix (r := rIxT K) ix_tup (pv 1) pe_int (fun _ _ => rfl)) (pe_ix (r := rIxT K) ix_tup (pv 3) pe_int (fun _ _ => rfl)) (nomark _)) (pw_and (pt_cmpR op_lt (pe_ix (r := rIxT K) ix_tup (pv 3) pe_int (fun _ _ => rfl)) (pv 2) (nomark _)) (pw_and1 (pt_cmpR op_lt (pv 2) (pe_ix (r := rIxT K) ix_tup (pv 3) (pe_un (r := rU fun i => V.int (-i)) un_neg pe_int) (fun _ _ => rfl)) (nomark _)))))))
          (fun _ _ _ _ _ => (pv 3))) pa_nil)))), ?_⟩
    have g1 := atI_hd hb
    unfold Mk.markOf at kk
    refine ⟨fun σ H1 => Same H H1 ∧ hdI b ≠ n ∧ σ = [some (.ref pa), some (.ref a), some (.int n), none], ?_, ?_⟩
    · refine ⟨_, rfl, _, rfl, a, _, _, _, rfl, rfl, sa, g1, rfl, _, rfl, ?_⟩
      refine ite2 (fun c1 => ?_) (fun c1 => ?_)
      · have c1 : n = hdI b := by simpa using c1
        have := kk H (fun _ _ z => z)
        rw [if_pos c1] at this
        exact this
      · have c1 : ¬ n = hdI b := by simpa using c1
        exact ⟨fun _ _ z => z, fun z => c1 z.symm, rfl⟩
    rintro σ H1 ⟨s1, ne, rfl⟩
    have sa1 := Bs.Same.t s1 sa
    have sx1 := Bs.Same.t s1 sx
    refine ⟨_, rfl, pa, rfl, ⟨_, sx1⟩, fun D hD => lc_tup (K := K) (a := pa) (xs := xs) (fun i H2 => Same H1 H2 ∧ ∃ acc, H2 D = some (.lst acc) ∧ acc.length = ((p.take i).filter (between b n)).length) ⟨same_new hD, [], upd_same, rfl⟩ (fun i H2 _ z => Bs.Same.t z.1 sx1) ?_ ?_⟩
    · rintro i x H2 hx ⟨s2, acc, hD2, la⟩
      obtain ⟨o, ho, ob⟩ := al.get hx
      have bo := bl o (List.mem_of_getElem? ho)
      obtain ⟨c, rfl, sc⟩ := id ob
      have sc2 := Bs.Same.t (s1.trans s2) sc
      have lf : ((p.take i).filter (between b n)).length ≤ p.length := Nat.le_trans (List.length_filter_le _ _) (List.length_take_le' _ _)
      refine ⟨rfl, ?_⟩
      have goF : between b n o = false → Same H1 H2 ∧ ∃ acc, H2 D = some (.lst acc) ∧ acc.length = ((p.take (i + 1)).filter (between b n)).length := fun e => by
        refine ⟨s2, acc, hD2, ?_⟩
        rw [la, take_one ho, List.filter_append, List.length_append, List.filter_cons_of_neg (by rw [e]; decide)]
        rfl
      refine ⟨_, rfl, a, _, _, _, rfl, rfl, Bs.Same.t s2 sa1, g1, _, rfl, c, _, _, _, rfl, rfl, sc2, atI_hd bo.2, _, _, rfl, rfl, _, rfl, ?_⟩
      refine ite2 (fun c1 => ?_) (fun c1 => goF (by unfold between; rw [Bool.eq_false_iff.mpr c1, Bool.false_and]))
      refine ⟨_, rfl, c, _, _, _, rfl, rfl, sc2, atI_hd bo.2, _, rfl, _, _, rfl, rfl, _, rfl, ?_⟩
      refine ite2 (fun c2 => ?_) (fun c2 => goF (by unfold between; rw [Bool.eq_false_iff.mpr c2, Bool.false_and, Bool.and_false]))
      refine ⟨_, rfl, _, rfl, _, rfl, c, _, _, _, rfl, rfl, sc2, atI_last bo.2, _, _, rfl, rfl, _, rfl, ?_⟩
      refine ite2 (fun c3 => ?_) (fun c3 => goF (by unfold between; rw [Bool.eq_false_iff.mpr c3, Bool.and_false, Bool.and_false]))
      refine ⟨_, rfl, acc, hD2, small1000 (by omega), fun c o e => (upd_ne (ne_of_none e hD)).trans (s2 c o e), _, upd_same, ?_⟩
      rw [List.length_append, la, take_one ho, List.filter_append, List.length_append, List.filter_cons_of_pos (by unfold between; rw [c1, c2, c3]; rfl)]
      rfl
    · rintro H2 ⟨s2, acc, hD2, la⟩
      rw [al.len, List.take_length] at la
      refine ⟨D, _, rfl, .inl (SqL.of hD2), ?_⟩
      have := kk H2 (s1.trans s2)
      rw [if_neg (fun z => ne z.symm), ← la] at this
      exact this
theorem scIm : FnScope NIm NIm (defScope sIsMk) := ⟨rfl, rfl, rfl, by decide +kernel, rfl, by decide +kernel, by decide +kernel⟩
theorem ok_isMk (F : Fun K "is_mark" "is_mark" sIsMk f fd) (N : NoneG mg) (BT : Cal P w K mg base 2 "is_between" (spBetween K)) : FnOk P w K mg base CX0 3 f fd NIm spIsMk := by
  refine F.ok scIm (fun vs H Q E h => ?_) (fun cdv A outer s H vs Q E hr h => ?_)
  · obtain ⟨s, h, m, rfl, _⟩ := h
    rfl
  · obtain ⟨s, h, m, rfl, kk⟩ := h
    obtain ⟨tno, mno⟩ := N.no
    refine ⟨_, pss_cons (ps_if (pt_cmpR op_eq (pv 0) pe_int (nomark _)) (pss_one (ps_ret (pe_n BT hr (by decide) (by rfl) (pa_cons (pv 2) (pa_cons (pe_glob (v := .int (-1)) (by rfl) mno ⟨tno, rfl⟩) (pa_cons (pe_glob (v := .int (-1)) (by rfl) mno ⟨tno, rfl⟩) pa_nil)))))) pss_nil)
      (pss_one (ps_ret (pe_n BT hr (by decide) (by rfl) (pa_cons (pv 2) (pa_cons (pe_ifExp (pt_cmpR op_eq (pv 0) pe_int (nomark _)) (pe_glob (v := .int (-1)) (by rfl) mno ⟨tno, rfl⟩) pe_int) (pa_cons (pe_op op_sub (pv 1) pe_int) pa_nil)))))), ?_⟩
    unfold isMk at kk
    refine ⟨_, rfl, rfl, _, rfl, ?_⟩
    refine ite2 (fun c1 => ?_) (fun c1 => ?_)
    · have c1 : s = 1 := by simpa using c1
      rw [if_pos c1] at kk
      refine ⟨_, rfl, _, .int m, -1, -1, rfl, .int m, ?_⟩
      have e : betwD (-1) (-1) (.int m) = decide (m = -1) := by
        show (decide (-1 ≤ m) && decide (m ≤ -1)) = _
        rw [← Bool.decide_and]
        exact decide_eq_decide.mpr ⟨fun z => by omega, fun z => by omega⟩
      rw [e]
      exact kk
    · have c1 : ¬ s = 1 := by simpa using c1
      rw [if_neg c1] at kk
      refine ⟨_, rfl, _, rfl, rfl, _, rfl, ?_⟩
      refine ite2 (fun c2 => ?_) (fun c2 => ?_)
      · have c2 : s = 0 := by simpa using c2
        rw [if_pos c2] at kk
        exact ⟨_, rfl, _, _, rfl, rfl, _, .int m, -1, h - 1, rfl, .int m, kk⟩
      · have c2 : ¬ s = 0 := by simpa using c2
        rw [if_neg c2] at kk
        exact ⟨_, rfl, _, _, rfl, rfl, _, .int m, 0, h - 1, rfl, .int m, kk⟩
theorem scAm : FnScope NAm ["way", "thing"] (defScope sAreMk) := ⟨rfl, rfl, rfl, by decide +kernel, rfl, by decide +kernel, by decide +kernel⟩
theorem ok_areMk (F : Fun K "are_marks" "are_marks" sAreMk f fd) (T : Blt mg) (al : mg "all" = none) (zp : mg "zip" = none) (HB : Cal P w K mg base 1 "heights_by" (spHts K)) (IM : Cal P w K mg base 3 "is_mark" spIsMk) : FnOk P w K mg base CX0 4 f fd ["way", "thing"] (spAreMk K) := by
  refine F.ok scAm (fun vs H Q E h => ?_) (fun cdv A outer s H vs Q E hr h => ?_)
  · obtain ⟨v, t, w, ms, rfl, _⟩ := h
    rfl
  · obtain ⟨v, t, w, ms, rfl, iw, im, l8, kk⟩ := h
    obtain ⟨wa, rfl, sw⟩ := id iw
    obtain ⟨ta, rfl, st⟩ := id im
    refine ⟨_, pss_cons (ps_if (PW.pt (pw_or (pt_not (pt_val (pe_callB call_isi (by rfl) T.isinstance (by decide +kernel) (pa_cons (pv 1) (pa_cons (pe_bltn (v := .ty "tuple") (by rfl) T.tuple (by decide +kernel) rfl) pa_nil))))) (pw_or1 (pt_cmpR op_ne (pe_callB call_len_seq (by rfl) T.len (by decide +kernel) (pa_cons (pv 1) pa_nil)) (pe_callB call_len_seq (by rfl) T.len (by decide +kernel) (pa_cons (pv 0) pa_nil)) (nomark _))))) (pss_one (ps_ret pe_bl)) pss_nil)
      (pss_one (ps_ret (pe_callB (cr_all rfl) (by rfl) al (by decide +kernel) (pa_cons (pe_lc (own := [("step", 2), ("height", 3), ("mark", 4)]) (g := gTup K 3 (gCons (gName 2) (gCons (gName 3) (gCons (gName 4) gNil)))) (tt := tYes) rfl scAm.nd (Z3.pi_zip3 (by rfl) zp (pa_cons (pv 0) (pa_cons (pe_n HB hr (by decide) (by rfl) (pa_cons pe_int (pa_cons (pv 0) pa_nil))) (pa_cons (pv 1) pa_nil)))) (blkOk_by (N := NAm) (sc := defScope sAreMk) (by decide +kernel))
          (fun _ _ _ _ _ => pg_tup rfl (pgs_cons (pg_name (i := 2) scAm.nd rfl (Or.inl rfl)) (pgs_cons (pg_name (i := 3) scAm.nd rfl (Or.inl rfl)) (pgs_cons (pg_name (i := 4) scAm.nd rfl (Or.inl rfl)) pgs_nil)))) (fun _ _ _ _ _ => pts_nil)
          (fun _ _ _ _ _ => (pe_n IM hr (by decide) (by rfl) (pa_cons (pv 2) (pa_cons (pv 3) (pa_cons (pv 4) pa_nil)))))) pa_nil)))), ?_⟩
    have hd : Dp K H (.ref ta) (dI ms) := it_dp' im
    refine ⟨_, rfl, _, _, _, _, _, rfl, .ty _, hd.ty, kitT K _, _, rfl, ?_⟩
    refine iteF ⟨_, rfl, ta, _, rfl, .inr st, _, rfl, wa, _, rfl, .inr sw, rfl, _, rfl, ?_⟩
    rw [List.length_map, List.length_map]
    unfold mksOk at kk
    refine ite2 (fun c1 => ?_) (fun c1 => ?_)
    · have c1 : ¬ ms.length = w.length := fun z => by simp [z] at c1
      have := kk H (fun _ _ z => z)
      rw [decide_eq_false c1, Bool.false_and] at this
      exact this
    · have c1 : ms.length = w.length := by
        have : (ms.length : Int) = (w.length : Int) := by simpa using c1
        omega
      rw [decide_eq_true c1, Bool.true_and] at kk
      refine ⟨_, rfl, _, rfl, 0, _, w, rfl, iw, by omega, fun H1 u s1 ih => ?_⟩
      obtain ⟨ha, rfl, sh⟩ := ih
      have lh : (hts 0 w).length = w.length + 1 := hts_len 0 w
      refine ⟨_, rfl, wa, ha, ta, w.map V.int, (hts 0 w).map V.int, ms.map V.int, rfl, Bs.Same.t s1 sw, sh, Bs.Same.t s1 st, fun D hD => ?_⟩
      refine lc_it (Z3.walk3 (K := K) (a := wa) (b := ha) (c := ta) (xs := w.map V.int) (ys := (hts 0 w).map V.int) (zs := ms.map V.int) (n := w.length) (by rw [List.length_map]; omega) (by rw [List.length_map]; omega) (by rw [List.length_map]; omega) (.inl (by rw [List.length_map]))) (fun i H2 => Same H1 H2 ∧ H2 D = some (.lst (((List.range i).map fun i => isMk (w.getD i 0) (Mk.hgt w i) (ms.getD i 0)).map V.bl))) ⟨same_new hD, upd_same⟩ (fun i H2 _ z => ⟨Bs.Same.t (s1.trans z.1) sw, Bs.Same.t z.1 sh, Bs.Same.t (s1.trans z.1) st⟩) ?_ ?_
      · rintro i x H2 H3 hi ⟨s2, hD2⟩ ⟨T', x', y', z', rfl, hT, rfl, h1, h2, h3⟩
        obtain ⟨t, ht, rfl⟩ := some_int h1
        obtain ⟨u, hu, rfl⟩ := some_int h2
        obtain ⟨m, hm, rfl⟩ := some_int h3
        rw [hgt_hts w (by omega)] at hu
        cases hu
        have s3 := same_new (o := .tup [.int t, .int (Mk.hgt w i), .int m]) hT
        have ew : w.getD i 0 = t := by rw [List.getD_eq_getElem?_getD, ht]; rfl
        have em : ms.getD i 0 = m := by rw [List.getD_eq_getElem?_getD, hm]; rfl
        refine ⟨T', _, rfl, SqT.of upd_same, rfl, _, _, rfl, _, _, rfl, _, _, rfl, rfl, rfl, ?_⟩
        refine iteT (B := Same H1 (upd H2 T' (.tup [.int t, .int (Mk.hgt w i), .int m])) ∧ upd H2 T' (.tup [.int t, .int (Mk.hgt w i), .int m]) D = some (.lst (((List.range (i + 1)).map fun i => isMk (w.getD i 0) (Mk.hgt w i) (ms.getD i 0)).map V.bl))) ?_
        refine ⟨_, rfl, _, rfl, _, rfl, t, _, m, rfl, ?_⟩
        refine ⟨_, s3 _ _ hD2, small1000 (by rw [List.length_map, List.length_map, List.length_range]; omega), fun c o e => (upd_ne (ne_of_none e hD)).trans (s3 c o (s2 c o e)), ?_⟩
        rw [upd_same, List.range_succ, List.map_append, List.map_append, List.map_singleton, ew, em]
        rfl
      · rintro H2 ⟨s2, hD2⟩
        refine ⟨D, _, rfl, SqL.of hD2, ?_⟩
        have := kk H2 (s1.trans s2)
        rw [List.all_map]
        exact this
end
end Rs


set_option Elab.async false
set_option linter.all false
set_option maxRecDepth 100000
set_option maxHeartbeats 1000000
namespace Rs
open PySem L2 Bs Fq LamX Pg RZ Mk
/-- a number and its block -/
abbrev Nbk := Int × Blk
def Nb (K : PySem.W.Frag) (H : Hp) (v : V) (g : Nbk) : Prop := ∃ a b, v = .ref a ∧ SqT K H a [.int g.1, .ref b] ∧ SqT K H b (g.2.map V.int)
theorem nb_mono {K : PySem.W.Frag} {H H' : Hp} {vs : List V} {gs : List Nbk} (h : Al (Nb K H) vs gs) (e : Same H H') : Al (Nb K H') vs gs := h.imp fun _ _ ⟨a, b, e1, s, t⟩ => ⟨a, b, e1, Bs.Same.t e s, Bs.Same.t e t⟩
theorem nb_off {K : PySem.W.Frag} {H : Hp} {D : Addr} {acc : List V} {o : HO} {vs : List V} {gs : List Nbk} (h : Al (Nb K H) vs gs) (hD : H D = some (.lst acc)) : Al (Nb K (upd H D o)) vs gs := h.imp fun _ _ ⟨a, b, e1, s, t⟩ => ⟨a, b, e1, sqT_off hD s, sqT_off hD t⟩
def dNb (g : Nbk) : PyData := .tuple [.int g.1, dI g.2]
def leNb : Nbk → Nbk → Bool := PySem.W.dataLe false dNb
theorem alike_dNb (g h : Nbk) : PySem.W.alike (dNb g) (dNb h) = true := by
  unfold dNb
  rw [PySem.W.alike, PySem.W.alikeAll, PySem.W.alikeAll, alike_dI]
  simp [PySem.W.alike, PySem.W.alikeAll]
theorem lt_dNb {g h : Nbk} (n : g.1 ≠ h.1) : PySem.W.dataLt (dNb g) (dNb h) = decide (g.1 < h.1) := by
  unfold dNb
  rw [PySem.W.dataLt_tuple]
  rw [PySem.W.dataLt_cons (by simp [PySem.W.alike]), PySem.W.dataLt_int]
  simp only [PyData.eqv, beq_iff_eq, if_neg n]
theorem leNb_lt {g h : Nbk} (n : g.1 < h.1) : leNb g h = true := by
  show (!PySem.W.dataLt (dNb h) (dNb g)) = true
  rw [lt_dNb (by omega), decide_eq_false (by omega)]
  rfl
theorem leNb_gt {g h : Nbk} (n : h.1 < g.1) : leNb g h = false := by
  show (!PySem.W.dataLt (dNb h) (dNb g)) = false
  rw [lt_dNb (by omega), decide_eq_true n]
  rfl
theorem nlt_trans {d e f : PyData} (a : PySem.W.dataLt e d = false) (b : PySem.W.dataLt f e = false) : PySem.W.dataLt f d = false := by
  cases h : PySem.W.dataLt f d with
  | false => rfl
  | true =>
    rcases PyProof.Rows.lex_negTrans _ (PySem.W.keyToks e) _ h with z | z
    · exact absurd b (by rw [show PySem.W.dataLt f e = true from z]; decide)
    · exact absurd a (by rw [show PySem.W.dataLt e d = true from z]; decide)
theorem leNb_trans (p q r : Nbk) (a : leNb p q = true) (b : leNb q r = true) : leNb p r = true := by
  have a' : PySem.W.dataLt (dNb q) (dNb p) = false := (Bool.not_eq_true' _).mp (show (!PySem.W.dataLt (dNb q) (dNb p)) = true from a)
  have b' : PySem.W.dataLt (dNb r) (dNb q) = false := (Bool.not_eq_true' _).mp (show (!PySem.W.dataLt (dNb r) (dNb q)) = true from b)
  show (!PySem.W.dataLt (dNb r) (dNb p)) = true
  rw [nlt_trans a' b']
  rfl
theorem leNb_total (p q : Nbk) : (leNb p q || leNb q p) = true := by
  show (!PySem.W.dataLt (dNb q) (dNb p) || !PySem.W.dataLt (dNb p) (dNb q)) = true
  cases h : PySem.W.dataLt (dNb q) (dNb p) with
  | false => rfl
  | true =>
    cases g : PySem.W.dataLt (dNb p) (dNb q) with
    | false => rfl
    | true =>
      have := PyProof.Rows.lex_trans _ _ _ g h
      rw [PyProof.Rows.lex_irrefl] at this
      cases this
theorem lt_mem : ∀ {l : List Nbk}, l.Pairwise (fun g h => g.1 < h.1) → ∀ g ∈ l, ∀ h ∈ l, g.1 = h.1 → g = h
  | [], _, _, z, _, _, _ => absurd z (by simp)
  | x :: l, p, g, hg, h, hh, e => by
    obtain ⟨p1, p2⟩ := List.pairwise_cons.mp p
    rcases List.mem_cons.mp hg with eg | hg
    · rcases List.mem_cons.mp hh with eh | hh
      · rw [eg, eh]
      · have := p1 h hh
        rw [eg] at e
        omega
    · rcases List.mem_cons.mp hh with eh | hh
      · have := p1 g hg
        rw [eh] at e
        omega
      · exact lt_mem p2 g hg h hh e
theorem sort_nb {gs l : List Nbk} (h : l.Pairwise fun g h => g.1 < h.1) (p : l.Perm gs) : gs.mergeSort leNb = l := by
  refine ((List.mergeSort_perm gs leNb).trans p.symm).eq_of_pairwise (le := fun g h => leNb g h = true) (fun g h' hg hh a b => ?_) (List.pairwise_mergeSort leNb_trans leNb_total gs) (h.imp fun q => leNb_lt q)
  have mg : g ∈ l := p.mem_iff.mpr ((List.mergeSort_perm gs leNb).mem_iff.mp hg)
  have mh : h' ∈ l := hh
  refine lt_mem h g mg h' mh ?_
  rcases Int.lt_trichotomy g.1 h'.1 with z | z | z
  · rw [leNb_gt z] at b
    cases b
  · exact z
  · rw [leNb_gt z] at a
    cases a
def RN (K : PySem.W.Frag) (H : Hp) (u : Value) (g : Nbk) : Prop := ∃ a, u = Value.ref a ∧ Nb K H (.ref a) g
theorem each_rn {K : PySem.W.Frag} {H : Hp} : ∀ {xs : List V} {us : List Value} {ps : List Nbk}, Vals xs us → Al (Nb K H) xs ps → PySem.W.EachIs (RN K H) us ps
  | _, _, _, .nil, .nil => .nil
  | _, _, _, .cons r t, .cons h al => by
    obtain ⟨a, b, rfl, s, i⟩ := h
    cases r
    exact .cons ⟨a, rfl, a, b, rfl, s, i⟩ (each_rn t al)
theorem each_backN {K : PySem.W.Frag} {H : Hp} : ∀ {us : List Value} {ps : List Nbk}, PySem.W.EachIs (RN K H) us ps → Al (Nb K H) (us.map backV) ps ∧ ∀ u ∈ us, ∃ a, u = Value.ref a
  | _, _, .nil => ⟨.nil, fun u hu => absurd hu (by simp)⟩
  | _, _, .cons ⟨a, e, h⟩ t => by
    subst e
    obtain ⟨t1, t2⟩ := each_backN t
    refine ⟨.cons h t1, fun u hu => ?_⟩
    rcases List.mem_cons.mp hu with e | hu
    · exact ⟨a, e⟩
    · exact t2 u hu
theorem depth_dNb (g : Nbk) : (dNb g).depth ≤ 2 := by
  have h := depth_dI g.2
  unfold dNb
  simp only [PyData.depth, PyData.depthAll]
  omega
theorem nb_dp {K : PySem.W.Frag} {H : Hp} {v : V} {g : Nbk} (h : Nb K H v g) : Dp K H v (dNb g) := by
  obtain ⟨a, b, rfl, s, t⟩ := h
  exact .tup s (.cons (.int _) (.cons (.tup t (dp_ints g.2)) .nil))
def rSortedNb (K : PySem.W.Frag) : List V → Hp → VK → Prop := fun vs H Q => ∃ (a : Addr) (xs : List V) (gs l : List Nbk), vs = [V.ref a] ∧ SqL K H a xs ∧ Al (Nb K H) xs gs ∧ l.Pairwise (fun g h => g.1 < h.1) ∧ l.Perm gs ∧
  ∀ ys L, Al (Nb K H) ys l → H L = none → Q (.ref L) (upd H L (.lst ys))
section
variable {X : Cx}
theorem cr_sortedNb (hu : X.A.units + 64 < cLine) : CallR X (.builtin "sorted") (rSortedNb X.K) := by
  intro pins s σ H vs us Q I r h
  obtain ⟨a, xs, ps, l, rfl, hs, al, pw, pm, q⟩ := h
  obtain ⟨its, rv, hl, hz⟩ := I.list hs
  rw [Vals.ref1 r]
  have er := each_rn rv al
  have ln : ps.length ≤ sizeLine := by rw [← al.len]; exact hz
  have hr : PySem.W.EachIs (fun v b => ∃ as, PySem.Reads s.heap v (dNb b) as) its ps := er.mono fun u p z => by
    obtain ⟨b, e, h⟩ := z
    subst e
    exact Dp.reads I _ _ _ (nb_dp h) rfl
  have hk : PySem.W.Sortable (ps.map dNb) := .inl fun d hd => by
    obtain ⟨p, hp, rfl⟩ := List.mem_map.mp hd
    exact ⟨_, _, rfl⟩
  refine PySem.W.sorted_data (enc := dNb) hl.isList er hr (.of alike_dNb) hk ln (fun p _ => ?_) fun out _ eo => ?_
  · have := depth_dNb p
    omega
  · rw [show PySem.W.dataLe false dNb = leNb from rfl, sort_nb pw pm] at eo
    obtain ⟨k1, k2⟩ := each_backN eo
    obtain ⟨ep, he'⟩ := PyProof.Rows.sortedAll_at s.heap its out.toArray
    have hlen : (out.map backV).length ≤ sizeLine := by
      rw [k1.len, pm.length_eq]
      exact ln
    exact ⟨.ref _, upd H (s.heap.objs.size + 1) (.lst (out.map backV)), I.laid (t' := s.toks) (fun _ _ => PyProof.Rows.sortedAll_old) (Nat.le_succ _) ⟨hlen, out, ep, vals_back k2, he'⟩, rfl, q _ _ k1 (I.hok.fresh (Nat.le_succ _))⟩
end
end Rs


set_option Elab.async false
set_option linter.all false
set_option maxRecDepth 100000
set_option maxHeartbeats 1000000
namespace Mk
open Pg
def nbOf (p : Prt) : List (Int × Blk) := (List.range (total p)).map fun i : Nat => ((i : Int), blkOf p i)
def nbs (p : Prt) : List (Int × Blk) := p.flatMap fun b => b.map fun n => (n, b)
def srtB (p : Prt) : Bool := (nbOf p).isPerm (nbs p)
theorem all_S : ∀ n ∈ [0, 1, 2, 3, 4, 5, 6], (lawRows n).all srtB = true := by decide +kernel
theorem nb_pair (p : Prt) : (nbOf p).Pairwise fun g h => g.1 < h.1 := by
  unfold nbOf
  rw [List.pairwise_map]
  exact List.pairwise_lt_range.imp fun h => by
    show (_ : Int) < _
    omega
theorem nb_in {p : Prt} (h : srtB p = true) {i : Nat} (hi : i < total p) : blkOf p i ∈ p := by
  have m : ((i : Int), blkOf p i) ∈ nbs p := (List.isPerm_iff.mp h).mem_iff.mp (List.mem_map.mpr ⟨i, List.mem_range.mpr hi, rfl⟩)
  unfold nbs at m
  obtain ⟨b, hb, hm⟩ := List.mem_flatMap.mp m
  obtain ⟨n, _, e⟩ := List.mem_map.mp hm
  cases e
  exact hb
theorem nbs_take {p : Prt} {j : Nat} {b : Blk} (h : p[j]? = some b) : nbs (p.take (j + 1)) = nbs (p.take j) ++ b.map fun n => (n, b) := by
  unfold nbs
  rw [List.take_succ, h, List.flatMap_append]
  simp
theorem nbs_len {p : Prt} (h : ∀ b ∈ p, b.length ≤ 8) : (nbs p).length ≤ 8 * p.length := by
  unfold nbs
  induction p with
  | nil => exact Nat.zero_le _
  | cons b p ih =>
    rw [List.flatMap_cons, List.length_append, List.length_map, List.length_cons]
    have h1 := h b List.mem_cons_self
    have := ih fun c hc => h c (List.mem_cons_of_mem _ hc)
    omega
end Mk
namespace Rs
open PySem L2 Bs Fq LamX Pg RZ Mk
abbrev sMW : Stmt := top 55
abbrev NMw : List Str := ["parting", "pairs", "way", "block", "number"]
/-- a marked way -/
def W2 (K : PySem.W.Frag) (H : Hp) (v : V) (w ms : List Int) : Prop := ∃ a x y, v = .ref a ∧ SqT K H a [x, y] ∧ Rs.It K H x w ∧ Rs.It K H y ms
def spMW (K : PySem.W.Frag) : Sp := fun vs H Q _ => ∃ (v : V) (p : Prt), vs = [v] ∧ Pt K H v p ∧ validB p = true ∧ sizeB p = true ∧ srtB p = true ∧ total p ≤ 7 ∧ ∀ H' u, Same H H' → W2 K H' u (mwS p) (mwM p) → Q u H'
section
variable {P : Program} {w : World} {K : PySem.W.Frag} {mg : Str → Option Value} {base : Heap} {f : Addr} {fd : FuncData}
theorem scMw : FnScope NMw ["parting"] (defScope sMW) := ⟨rfl, rfl, rfl, by decide +kernel, rfl, by decide +kernel, by decide +kernel⟩
theorem ok_mw (F : Fun K "marked_way" "marked_way" sMW f fd) (T : Blt mg) (so : mg "sorted" = none) (NP : Cal P w K mg base 5 "need_parting" (spNeedPart K)) (SO : Cal P w K mg base 1 "step_of" (spStepOf K)) (MO : Cal P w K mg base 1 "mark_of" (spMarkOf K)) : FnOk P w K mg base CX0 6 f fd ["parting"] (spMW K) := by
  refine F.ok scMw (fun vs H Q E h => ?_) (fun cdv A outer s H vs Q E hr h => ?_)
  · obtain ⟨v, p, rfl, _⟩ := h
    rfl
  · obtain ⟨v, p, rfl, pp, va, sz, sr, t7, kk⟩ := h
    obtain ⟨a, xs, rfl, sx, al⟩ := id pp
    obtain ⟨l8, bl⟩ := size_blk sz
    have lx := al.len
    refine ⟨_, C8.pss_cut (ps_set (i := 1) scMw.nd rfl (Or.inl rfl) (pe_callB (cr_sortedNb hr.units) (by rfl) so (by decide +kernel) (pa_cons (pe_lc2 (own := [("block", 3), ("number", 4)]) (vs1 := [4]) (g := gName 3) (tt := tYes) (wi1 := iTup K (tVar 3)) (g1 := gName 4) (tt1 := tYes) (te := tTup (tCons (tVar 4) (tCons (tVar 3) tNil))) rfl scMw.nd (pi_tup (pe_n NP hr (by decide) (by rfl) (pa_cons (pv 0) pa_nil))) (blkOk_by (N := NMw) (sc := defScope sMW) (by decide +kernel)) (by decide)
          (fun _ _ _ _ _ => pg_name (i := 3) scMw.nd rfl (Or.inl rfl)) (fun _ _ _ _ _ => pts_nil)
          (fun _ _ _ _ _ => pi_tup (pv 3))
          (fun _ _ _ _ _ => pg_name (i := 4) scMw.nd rfl (Or.inl rfl)) (fun _ _ _ _ _ => pts_nil)
          (fun _ _ _ _ _ => pe_tup (pa_cons (pv 4) (pa_cons (pv 3) pa_nil)))) pa_nil)))
      (C8.pss_cut (ps_set (i := 2) scMw.nd rfl (Or.inl rfl) (pe_callTy call_tuple_of (by rfl) T.tuple (by decide +kernel) (pa_cons (pe_lc (own := [("number", 4), ("block", 3)]) (g := gTup K 2 (gCons (gName 4) (gCons (gName 3) gNil))) (tt := tYes) rfl scMw.nd (pi_list (pv 1)) (blkOk_by (N := NMw) (sc := defScope sMW) (by decide +kernel))
          (fun _ _ _ _ _ => pg_tup rfl (pgs_cons (pg_name (i := 4) scMw.nd rfl (Or.inl rfl)) (pgs_cons (pg_name (i := 3) scMw.nd rfl (Or.inl rfl)) pgs_nil))) (fun _ _ _ _ _ => pts_nil)
          (fun _ _ _ _ _ => (pe_n SO hr (by decide) (by rfl) (pa_cons (pv 3) (pa_cons (pv 4) pa_nil))))) pa_nil)))
      (pss_one (ps_ret (pe_tup (pa_cons (pv 2) (pa_cons (pe_callTy call_tuple_of (by rfl) T.tuple (by decide +kernel) (pa_cons (pe_lc (own := [("number", 4), ("block", 3)]) (g := gTup K 2 (gCons (gName 4) (gCons (gName 3) gNil))) (tt := tYes) rfl scMw.nd (pi_list (pv 1)) (blkOk_by (N := NMw) (sc := defScope sMW) (by decide +kernel))
          (fun _ _ _ _ _ => pg_tup rfl (pgs_cons (pg_name (i := 4) scMw.nd rfl (Or.inl rfl)) (pgs_cons (pg_name (i := 3) scMw.nd rfl (Or.inl rfl)) pgs_nil))) (fun _ _ _ _ _ => pts_nil)
          (fun _ _ _ _ _ => (pe_n MO hr (by decide) (by rfl) (pa_cons (pv 0) (pa_cons (pv 3) (pa_cons (pv 4) pa_nil)))))) pa_nil)) pa_nil)))))), ?_⟩
    refine ⟨fun σ H1 => Same H H1 ∧ ∃ (L : Addr) (gs : List V), H1 L = some (.lst gs) ∧ Al (Nb K H1) gs (nbOf p) ∧ σ = [some (.ref a), some (.ref L), none, none, none], ?_, ?_⟩
    · refine ⟨_, rfl, _, p, rfl, pp, va, sz, fun H0 s0 => ⟨a, rfl, ⟨_, Bs.Same.t s0 sx⟩, fun D hD => ?_⟩⟩
      have sx0 := Bs.Same.t s0 sx
      refine lc2_out (walk_tup (K := K) (a := a) (xs := xs)) (fun i H2 => Same H0 H2 ∧ ∃ acc, H2 D = some (.lst acc) ∧ Al (Nb K H2) acc (nbs (p.take i))) ⟨same_new hD, [], upd_same, .nil⟩ (fun i H2 _ q => Bs.Same.t q.1 sx0) ?_ ?_
      · rintro i x H2' H2 hi ⟨s2, acc, hD2, ga⟩ ⟨e2, hx⟩
        subst e2
        obtain ⟨b, hb, ib⟩ := al.get hx
        have bb := bl b (List.mem_of_getElem? hb)
        obtain ⟨c, rfl, sc⟩ := id ib
        have sc2 := Bs.Same.t (s0.trans s2) sc
        refine ⟨rfl, ?_⟩
        refine iteT (B := Same H0 H2 ∧ ∃ acc, H2 D = some (.lst acc) ∧ Al (Nb K H2) acc (nbs (p.take (i + 1)))) ?_
        refine ⟨_, rfl, c, rfl, ⟨_, sc2⟩, ?_⟩
        refine lc2_in (walk_tup (K := K) (a := c) (xs := b.map V.int)) (fun j H4 => Same H0 H4 ∧ ∃ acc, H4 D = some (.lst acc) ∧ Al (Nb K H4) acc (nbs (p.take i) ++ ((b.take j).map fun n => (n, b)))) ⟨s2, acc, hD2, by rw [List.take_zero, List.map_nil, List.append_nil]; exact ga⟩ (fun j H4 _ z => Bs.Same.t (s0.trans z.1) sc) ?_ ?_
        · rintro j y H4' H4 hj ⟨s4, acc4, hD4, ga4⟩ ⟨e4, hy⟩
          subst e4
          obtain ⟨t, ht, rfl⟩ := some_int hy
          have la := ga4.len
          rw [List.length_append, List.length_map, List.length_take] at la
          have lg : (nbs (p.take i)).length ≤ 64 := by
            have := nbs_len (p := p.take i) fun b hb => (bl b (List.mem_of_mem_take hb)).1
            rw [List.length_take] at this
            omega
          have sc4 := Bs.Same.t (s0.trans s4) sc
          refine ⟨rfl, ?_⟩
          refine iteT (B := Same H0 H4 ∧ ∃ acc, H4 D = some (.lst acc) ∧ Al (Nb K H4) acc (nbs (p.take i) ++ ((b.take (j + 1)).map fun n => (n, b)))) ?_
          refine ⟨_, rfl, _, rfl, (by show 2 ≤ sizeLine; decide), fun p1 hp1 => ?_⟩
          have s6 := same_new (o := .tup [.int t, .ref c]) hp1
          have hD6 := s6 _ _ hD4
          refine ⟨acc4, hD6, small1000 (by omega), fun c o e => (upd_ne (ne_of_none e hD)).trans (s6 c o (s4 c o e)), acc4 ++ [.ref p1], upd_same, ?_⟩
          rw [take_one ht, List.map_append, ← List.append_assoc]
          exact (nb_off (nb_mono ga4 s6) hD6).snoc ⟨p1, c, rfl, sqT_off hD6 (SqT.of upd_same), sqT_off hD6 (Bs.Same.t s6 sc4)⟩
        · rintro H4 ⟨s4, acc4, hD4, ga4⟩
          rw [List.length_map, List.take_length, ← nbs_take hb] at ga4
          exact ⟨s4, acc4, hD4, ga4⟩
      · rintro H2 ⟨s2, acc, hD2, ga⟩
        rw [lx, List.take_length] at ga
        refine ⟨D, acc, nbs p, nbOf p, rfl, SqL.of hD2, ga, nb_pair p, List.isPerm_iff.mp sr, fun ys L gy hL => ?_⟩
        have s3 := same_new (o := .lst ys) hL
        exact ⟨(s0.trans s2).trans s3, L, ys, upd_same, nb_mono gy s3, rfl⟩
    rintro σ H1 ⟨s1, L, gs, gL, ga, rfl⟩
    have lg : gs.length = total p := by
      rw [ga.len]
      unfold nbOf
      rw [List.length_map, List.length_range]
    have at_ : ∀ {i : Nat} {x : V} {H2 : Hp}, Same H1 H2 → gs[i]? = some x → ∃ T c, x = .ref T ∧ i < total p ∧ SqT K H2 T [.int (i : Nat), .ref c] ∧ SqT K H2 c ((blkOf p i).map V.int) ∧ blkOf p i ∈ p := by
      intro i x H2 s2 hx
      have hi : i < total p := by rw [← lg]; exact (List.getElem?_eq_some_iff.mp hx).1
      obtain ⟨g, hg, T, c, rfl, sT, sc⟩ := ga.get hx
      have e : g = ((i : Int), blkOf p i) := by
        unfold nbOf at hg
        rw [List.getElem?_map, List.getElem?_range hi] at hg
        exact (Option.some.inj hg).symm
      subst e
      exact ⟨T, c, rfl, hi, Bs.Same.t s2 sT, Bs.Same.t s2 sc, nb_in sr hi⟩
    refine ⟨fun σ H2 => Same H1 H2 ∧ ∃ x, Rs.It K H2 x (mwS p) ∧ σ = [some (.ref a), some (.ref L), some x, none, none], ?_, ?_⟩
    · refine ⟨_, rfl, L, rfl, ⟨_, SqL.of gL⟩, fun D hD => lc_list (K := K) (a := L) (xs := gs) (fun i H2 => Same H1 H2 ∧ H2 D = some (.lst (((List.range i).map fun i : Nat => stepOf (blkOf p i) i).map V.int))) ⟨same_new hD, upd_same⟩ (fun i H2 _ z => SqL.of (z.1 _ _ gL)) ?_ ?_⟩
      · rintro i x H2 hx ⟨s2, hD2⟩
        obtain ⟨T', c, rfl, hi, sT, sc, hm⟩ := at_ s2 hx
        have bb := bl _ hm
        refine ⟨T', _, rfl, sT, rfl, _, _, rfl, _, _, rfl, rfl, rfl, ?_⟩
        refine iteT (B := Same H1 H2 ∧ H2 D = some (.lst (((List.range (i + 1)).map fun i : Nat => stepOf (blkOf p i) i).map V.int))) ?_
        refine ⟨_, rfl, _, rfl, _, blkOf p i, _, rfl, ⟨c, rfl, sc⟩, bb.2, ?_⟩
        refine ⟨_, hD2, small1000 (by rw [List.length_map, List.length_map, List.length_range]; omega), fun c o e => (upd_ne (ne_of_none e hD)).trans (s2 c o e), ?_⟩
        rw [upd_same, List.range_succ, List.map_append, List.map_append]
        rfl
      · rintro H2 ⟨s2, hD2⟩
        rw [lg] at hD2
        refine ⟨D, _, rfl, .inl ⟨SqL.of hD2, fun q hq => ?_⟩⟩
        exact ⟨s2.trans (same_new hq), _, ⟨q, rfl, SqT.of upd_same⟩, rfl⟩
    rintro σ H2 ⟨s2, x, ix, rfl⟩
    refine ⟨_, rfl, _, rfl, L, rfl, ⟨_, SqL.of (s2 _ _ gL)⟩, fun D hD => lc_list (K := K) (a := L) (xs := gs) (fun i H3 => Same H2 H3 ∧ H3 D = some (.lst (((List.range i).map fun i : Nat => Mk.markOf p (blkOf p i) i).map V.int))) ⟨same_new hD, upd_same⟩ (fun i H3 _ z => SqL.of (z.1 _ _ (s2 _ _ gL))) ?_ ?_⟩
    · rintro i y H3 hx ⟨s3, hD3⟩
      have s23 := s2.trans s3
      obtain ⟨T', c, rfl, hi, sT, sc, hm⟩ := at_ s23 hx
      have bb := bl _ hm
      refine ⟨T', _, rfl, sT, rfl, _, _, rfl, _, _, rfl, rfl, rfl, ?_⟩
      refine iteT (B := Same H2 H3 ∧ H3 D = some (.lst (((List.range (i + 1)).map fun i : Nat => Mk.markOf p (blkOf p i) i).map V.int))) ?_
      refine ⟨_, rfl, _, rfl, _, rfl, _, _, p, blkOf p i, _, rfl, pp.mono (s1.trans s23), sz, ⟨c, rfl, sc⟩, bb.2, fun H4 s4 => ?_⟩
      refine ⟨_, s4 _ _ hD3, small1000 (by rw [List.length_map, List.length_map, List.length_range]; omega), fun c o e => (upd_ne (ne_of_none e hD)).trans (s4 c o (s3 c o e)), ?_⟩
      rw [upd_same, List.range_succ, List.map_append, List.map_append]
      rfl
    · rintro H3 ⟨s3, hD3⟩
      rw [lg] at hD3
      refine ⟨D, _, rfl, .inl ⟨SqL.of hD3, fun q hq => ?_⟩⟩
      have s4 := same_new (o := .tup (((List.range (total p)).map fun i : Nat => Mk.markOf p (blkOf p i) i).map V.int)) hq
      refine ⟨(by show 2 ≤ sizeLine; decide), fun r hr => ?_⟩
      have s5 := same_new (o := .tup [x, .ref q]) hr
      exact kk _ _ ((s1.trans s2).trans ((s3.trans s4).trans s5)) ⟨r, x, .ref q, rfl, SqT.of upd_same, ix.mono (s3.trans (s4.trans s5)), ⟨q, rfl, Bs.Same.t s5 (SqT.of upd_same)⟩⟩
end
end Rs


set_option Elab.async false
set_option linter.all false
set_option maxRecDepth 100000
set_option maxHeartbeats 1000000
namespace Rs
open PySem PySem.Spec PyProof.Rows L2 Bs LamX Pg RZ HT
theorem noI_tuple_add : typeLookup (.type "tuple") (dunderI "add") = pure none := by rw [typeLookup_type, builtinLookup_eq_fast]; kernel_rfl
section
variable {prog : Program} {w : World} {A : Around} {E : Value → Shared → Prop} {s : Shared}
theorem icat_tup {t b : Addr} {vs ws : List Value} {Q : Value → Shared → Prop} (ht : IsTup s.heap t vs.toArray) (hb : IsTup s.heap b ws.toArray) (hv : vs ≠ []) (hw : ws ≠ [])
    (h2 : Q (.ref s.heap.objs.size) { s with heap := s.heap.push { cls := .type "tuple", data := .seq (vs ++ ws).toArray } })
    (hsz : vs.length + ws.length ≤ sizeLine) : wpAny (model prog w) A (inplaceOp .Add (.ref t) (.ref b)) Q E s := by
  obtain ⟨⟨cls, dd, data, sl⟩, ho, hc, n, hd⟩ := id ht
  obtain ⟨⟨cls2, dd2, data2, sl2⟩, ho2, hc2, n2, hd2⟩ := id hb
  simp only at hc hd hc2 hd2
  subst hc hd hc2 hd2
  have e : vs.toArray ++ ws.toArray = (vs ++ ws).toArray := by simp
  refine wpAny_inplaceOp_concat ⟨_, ho, rfl⟩ ⟨_, ho2, rfl⟩ noI_tuple_add noFill_tuple_add seq_tuple_add (call_meets PySem.F.slot_tuple_add ⟨_, ho, rfl⟩ PySem.F.entry_tuple_add (PySem.F.args_tuple_add_2 _ _)
    (tuple_addW2 t b vs.toArray ws.toArray n n2 dd dd2 sl sl2 (by simpa using hv) (by simpa using hw) (by rw [List.size_toArray, List.size_toArray]; exact hsz)) ⟨ho, ho2, ?_⟩)
  rw [e]
  exact h2
end
section
variable {X : Cx}
def ipCat (K : PySem.W.Frag) : TIp := fun x y H Q => ∃ a b xs ys, x = .ref a ∧ y = .ref b ∧ SqT K H a xs ∧ SqT K H b ys ∧ xs ≠ [] ∧ ys ≠ [] ∧ xs.length + ys.length ≤ sizeLine ∧ ∀ p, H p = none → Q (.ref p) (upd H p (.tup (xs ++ ys)))
theorem ip_catT : PIp X .Add (ipCat X.K) := by
  intro pins s σ H x y v u Q I rx ry h
  obtain ⟨a, b, xs, ys, rfl, rfl, ha, hb, hx, hy, hz, q⟩ := h
  cases rx
  cases ry
  obtain ⟨its, r1, p1, _⟩ := I.tuple ha
  obtain ⟨its2, r2, p2, _⟩ := I.tuple hb
  refine icat_tup p1 p2 (fun z => hx (r1.nil_iff.mp z)) (fun z => hy (r2.nil_iff.mp z)) ?_ (by rw [← r1.length, ← r2.length]; exact hz)
  refine ⟨.ref s.heap.objs.size, _, I.laid (t' := s.toks) (o := .tup (xs ++ ys)) (fun b ob q => Heap.get?_push_of_some _ q) (Nat.le_refl _) ?_, rfl, q _ (I.hok.fresh (Nat.le_refl _))⟩
  exact ⟨by rw [List.length_append]; exact hz, _, r1.append r2, IsTup.new _ _⟩
/-- xs[i], i a place -/
def gtL (K : PySem.W.Frag) : V → V → Hp → VK → Prop := fun x y H Q => ∃ p xs v, ∃ j : Nat, x = .ref p ∧ y = .int (j : Nat) ∧ SqL K H p xs ∧ xs[j]? = some v ∧ Q v H
theorem gt_list : PGet X (gtL X.K) := by
  intro pins s σ H x y v u Q I rx ry h
  obtain ⟨p, xs, z, j, rfl, rfl, hq, he, q⟩ := h
  cases rx
  obtain ⟨t, rfl⟩ := ry
  obtain ⟨its, r, pl, hz⟩ := I.list hq
  obtain ⟨w, ew, rw'⟩ := r.get he
  have hl := r.length
  have hn := line63
  have hj : j < xs.length := (List.getElem?_eq_some_iff.mp he).1
  exact wpAny_getItem_list pl.isList (by omega) (by omega) (by simpa using ew) ⟨z, H, I, rw', q⟩
end
end Rs


set_option Elab.async false
set_option linter.all false
set_option maxRecDepth 100000
set_option maxHeartbeats 1000000
namespace Mk
open Pg
theorem pok_at {w ms : List Int} (h : pok w ms = true) {i : Nat} (hi : i < w.length) : (ptd w ms i).1.length ≤ 8 ∧ (ptd w ms i).2.length ≤ 8 ∧ (∀ b ∈ (ptd w ms i).1, 0 < b.length ∧ b.length ≤ 8) ∧
    (ms.getD i 0 = -1 ∨ (0 ≤ ms.getD i 0 ∧ (ms.getD i 0).toNat < (ptd w ms i).2.length ∧ (ptd w ms i).2.getD ((ptd w ms i).2.length - 1 - (ms.getD i 0).toNat) 0 < (ptd w ms i).1.length)) := by
  unfold pok at h
  have h := List.all_eq_true.mp h i (List.mem_range.mpr hi)
  simp only [Bool.and_eq_true, Bool.or_eq_true, decide_eq_true_eq, List.all_eq_true] at h
  exact ⟨h.1, h.2.1, h.2.2.1, h.2.2.2⟩
theorem pstep_new {st : Prt × List Nat} {i : Nat} {s m : Int} (h : m = -1) : pstep st i s m = (st.1 ++ [[(i : Int)]], if s = 1 then st.2 ++ [st.1.length] else st.2) := if_pos h
theorem pstep_old {st : Prt × List Nat} {i : Nat} {s m : Int} (h : ¬ m = -1) : pstep st i s m = (st.1.set (st.2.getD (st.2.length - 1 - m.toNat) 0) (st.1.getD (st.2.getD (st.2.length - 1 - m.toNat) 0) [] ++ [(i : Int)]), if s = -1 then st.2.erase (st.2.getD (st.2.length - 1 - m.toNat) 0) else st.2) := if_neg h
end Mk
namespace Rs
open PySem L2 Bs Fq LamX Pg RZ Mk
abbrev sPD : Stmt := top 58
abbrev NPd2 : List Str := ["way", "marks", "blocks", "ahead", "number", "step", "place"]
def spPD (K : PySem.W.Frag) : Sp := fun vs H Q _ => ∃ (v t : V) (w ms : List Int), vs = [v, t] ∧ Rs.It K H v w ∧ Rs.It K H t ms ∧ w.length ≤ 8 ∧ ms.length = w.length ∧ pok w ms = true ∧ ∀ H' L, Same H H' → Pt K H' (.ref L) (ptd w ms w.length).1 → Q (.ref L) H'
theorem ixnF {n j : Nat} (hj : j < n) : ixN n (j : Int) = some j := by
  unfold ixN
  rw [if_pos (by omega), if_pos (by omega)]
  simp
theorem ixN_back {n m : Nat} (h : m < n) : ixN n (-1 - (m : Int)) = some (n - 1 - m) := by
  unfold ixN
  rw [if_neg (by omega), if_pos (by omega)]
  congr 1
  omega
theorem atI_back {xs : List V} {m : Nat} {u : V} (h : m < xs.length) (g : xs[xs.length - 1 - m]? = some u) : atI xs (-1 - (m : Int)) = some u := by
  unfold atI
  rw [ixN_back h]
  exact g
theorem erase_ix (l : List Nat) (a : Nat) : (l.map fun n : Nat => (n : Int)).eraseIdx (l.idxOf a) = (l.erase a).map fun n : Nat => (n : Int) := by
  rw [List.erase_eq_eraseIdx_of_idxOf (l := l) (a := a) rfl]
  generalize l.idxOf a = k
  induction l generalizing k with
  | nil => rfl
  | cons x l ih =>
    cases k with
    | zero => rfl
    | succ k =>
      show (x : Int) :: _ = (x : Int) :: _
      rw [ih k]
section
variable {P : Program} {w : World} {K : PySem.W.Frag} {mg : Str → Option Value} {base : Heap} {f : Addr} {fd : FuncData}
theorem scPd : FnScope NPd2 ["way", "marks"] (defScope sPD) := ⟨rfl, rfl, rfl, by decide +kernel, rfl, by decide +kernel, by decide +kernel⟩
theorem ok_pd (F : Fun K "parted" "parted" sPD f fd) (T : Blt mg) (en : mg "enumerate" = none) (N : NoneG mg) : FnOk P w K mg base CX0 1 f fd ["way", "marks"] (spPD K) := by
  refine F.ok scPd (fun vs H Q E h => ?_) (fun cdv A outer s H vs Q E hr h => ?_)
  · obtain ⟨v, t, w, ms, rfl, _⟩ := h
    rfl
  · obtain ⟨v, t, w, ms, rfl, ⟨wa, rfl, sw⟩, ⟨ma, rfl, sm⟩, l8, lm, ok, kk⟩ := h
    obtain ⟨tno, mno⟩ := N.no
    refine ⟨_, pss_cons (ps_set (i := 2) scPd.nd rfl (Or.inl rfl) (pe_lst pa_nil))
      (pss_cons (ps_set (i := 3) scPd.nd rfl (Or.inl rfl) (pe_lst pa_nil))
      (C8.pss_cut (ps_for PassesOwn.never rfl (EnT.pi_enumT (by rfl) en (pa_cons (pv 0) pa_nil)) (pg_tup rfl (pgs_cons (pg_name (i := 4) scPd.nd rfl (Or.inl rfl)) (pgs_cons (pg_name (i := 5) scPd.nd rfl (Or.inl rfl)) pgs_nil)))
      (pss_one (ps_if (pt_cmpR op_eq (pe_ix ix_tup (pv 1) (pv 4) (fun _ _ => rfl)) (pe_glob (v := .int (-1)) (by rfl) mno ⟨tno, rfl⟩) (nomark _)) (pss_cons (ps_expr (pe_bm PySem.F.plainAttrs_list PySem.F.slot_list_append PySem.F.type_list_append mt_append (pv 2) (pa_cons (pe_tup (pa_cons (pv 4) pa_nil)) pa_nil)))
          (pss_one (ps_if (pt_cmpR op_eq (pv 5) pe_int (nomark _)) (pss_one (ps_expr (pe_bm PySem.F.plainAttrs_list PySem.F.slot_list_append PySem.F.type_list_append mt_append (pv 3) (pa_cons (pe_op op_sub (pe_callB call_len_seq (by rfl) T.len (by decide +kernel) (pa_cons (pv 2) pa_nil)) pe_int) pa_nil)))) pss_nil))) (pss_cons (ps_set (i := 6) scPd.nd rfl (Or.inl rfl) (pe_ix ix_list (pv 3) (pe_op op_sub (pe_un un_neg pe_int) (pe_ix ix_tup (pv 1) (pv 4) (fun _ _ => rfl))) (fun _ _ => rfl)))
          (pss_cons (ps_augS (pv 2) (pv 6) gt_list (pe_tup (pa_cons (pv 4) pa_nil)) ip_catT set_list)
          (pss_one (ps_if (pt_cmpR op_eq (pv 5) (pe_un un_neg pe_int) (nomark _)) (pss_one (ps_expr (pe_bm PySem.F.plainAttrs_list PySem.F.slot_list_remove PySem.F.type_list_remove mt_remove (pv 3) (pa_cons (pv 6) pa_nil)))) pss_nil)))))))
      (pss_one (ps_ret (pe_callTy call_tuple_of (by rfl) T.tuple (by decide +kernel) (pa_cons (pv 2) pa_nil)))))), ?_⟩
    refine ⟨(by show 0 ≤ sizeLine; decide), fun L hL => ?_⟩
    have s0 := same_new (o := .lst []) hL
    refine ⟨(by show 0 ≤ sizeLine; decide), fun R hR => ?_⟩
    have s1 := same_new (o := .lst []) hR
    have gL0 : upd (upd H L (.lst [])) R (.lst []) L = some (.lst []) := s1 _ _ upd_same
    have gR0 : upd (upd H L (.lst [])) R (.lst []) R = some (.lst []) := upd_same
    have nLR : L ≠ R := fun z => by
      rw [← z, upd_same] at hR
      cases hR
    have hR' : H R = none := by
      rw [upd_ne (Ne.symm nLR)] at hR
      exact hR
    have s01 := s0.trans s1
    generalize upd (upd H L (.lst [])) R (.lst []) = H0 at *
    refine ⟨fun σ H1 => ∃ acc v4 v5 v6, Same H H1 ∧ H1 L = some (.lst acc) ∧ Al (Rs.It K H1) acc (ptd w ms w.length).1 ∧ σ = [some (.ref wa), some (.ref ma), some (.ref L), some (.ref R), v4, v5, v6], ?_, ?_⟩
    · refine ⟨_, rfl, wa, w.map V.int, rfl, Bs.Same.t s01 sw, for_it (walk_enumT (xs := w.map V.int)) (fun i σ H1 => ∃ acc v4 v5 v6, Same H H1 ∧ H1 L = some (.lst acc) ∧ Al (Rs.It K H1) acc (ptd w ms i).1 ∧ H1 R = some (.lst (((ptd w ms i).2.map fun n : Nat => (n : Int)).map V.int)) ∧ σ = [some (.ref wa), some (.ref ma), some (.ref L), some (.ref R), v4, v5, v6])
        ⟨[], none, none, none, s01, gL0, .nil, gR0, rfl⟩ (fun i σ H1 _ ⟨_, _, _, _, z, _⟩ => Bs.Same.t z sw) ?_ ?_⟩
      · rintro i x σ H1 H2 hi ⟨acc, v4, v5, v6, s2, gL, al, gR, rfl⟩ ⟨T', x', y', rfl, hT, rfl, h1, h2⟩
        cases h1
        have h2' : (w.map V.int)[i]? = some y' := h2
        rw [List.length_map] at hi
        obtain ⟨t, ht, rfl⟩ := some_int h2'
        have s3 := same_new (o := .tup [.int (i : Nat), .int t]) hT
        obtain ⟨o1, o2, o3, o4⟩ := pok_at ok hi
        have s23 := s2.trans s3
        have gL3 := s3 _ _ gL
        have gR3 := s3 _ _ gR
        have al3 := alI_mono al s3
        have la := al.len
        refine ⟨T', _, rfl, SqT.of upd_same, rfl, _, _, rfl, _, _, rfl, rfl, ?_⟩
        generalize upd H1 T' (.tup [.int (i : Nat), .int t]) = H2 at *
        have hm : ms[i]? = some ms[i] := List.getElem?_eq_getElem (by omega)
        have em : ms.getD i 0 = ms[i] := by rw [List.getD_eq_getElem?_getD, hm]; rfl
        have ew : w.getD i 0 = t := by rw [List.getD_eq_getElem?_getD, ht]; rfl
        have gm : atI (ms.map V.int) ((i : Nat) : Int) = some (V.int ms[i]) := atI_nat (by rw [List.getElem?_map, hm]; rfl)
        have sm2 := Bs.Same.t s23 sm
        have e1 : ptd w ms (i + 1) = pstep (ptd w ms i) i t ms[i] := by
          show pstep _ _ (w.getD i 0) (ms.getD i 0) = _
          rw [em, ew]
        rw [em] at o4
        generalize ms[i] = m at *
        generalize ptd w ms i = st at *
        generalize ptd w ms (i + 1) = st2 at *
        subst e1
        refine ⟨_, rfl, _, rfl, ma, _, _, _, rfl, rfl, sm2, gm, rfl, _, rfl, ?_⟩
        refine ite2 (fun c1 => ?_) (fun c1 => ?_)
        · have c1 : m = -1 := by simpa using c1
          rw [pstep_new c1]
          refine ⟨_, rfl, .inl ⟨rfl, _, SqL.of gL3⟩, _, rfl, (by show 1 ≤ sizeLine; decide), fun p4 hp4 => ?_⟩
          have s4 := same_new (o := .tup [.int (i : Nat)]) hp4
          have gL4 := s4 _ _ gL3
          have gR4 := s4 _ _ gR3
          refine ⟨L, acc, _, rfl, rfl, gL4, small1000 (by omega), ?_⟩
          have s5 : Same H (upd (upd H2 p4 (.tup [.int (i : Nat)])) L (.lst (acc ++ [.ref p4]))) := fun b' o e => (upd_ne (ne_of_none e hL)).trans (s4 b' o (s23 b' o e))
          have gL5 : upd (upd H2 p4 (.tup [.int (i : Nat)])) L (.lst (acc ++ [.ref p4])) L = some (.lst (acc ++ [.ref p4])) := upd_same
          have gR5 := (upd_ne (Ne.symm nLR) (H := upd H2 p4 (.tup [.int (i : Nat)])) (o := .lst (acc ++ [.ref p4]))).trans gR4
          have al5 : Al (Rs.It K (upd (upd H2 p4 (.tup [.int (i : Nat)])) L (.lst (acc ++ [.ref p4])))) (acc ++ [.ref p4]) (st.1 ++ [[(i : Int)]]) := alI_off ((alI_mono al3 s4).snoc ⟨p4, rfl, SqT.of upd_same⟩) gL4
          generalize upd (upd H2 p4 (.tup [.int (i : Nat)])) L (.lst (acc ++ [.ref p4])) = H5 at *
          refine ⟨_, rfl, rfl, _, rfl, ?_⟩
          refine ite2 (fun c2 => ?_) (fun c2 => ?_)
          · have c2 : t = 1 := by simpa using c2
            rw [if_pos c2]
            refine ⟨_, rfl, .inl ⟨rfl, _, SqL.of gR5⟩, _, rfl, L, _, rfl, .inl (SqL.of gL5), _, _, rfl, rfl, R, _, _, rfl, rfl, gR5, small1000 (by rw [List.length_map, List.length_map]; omega), ?_⟩
            refine ⟨acc ++ [.ref p4], _, _, _, fun b' o e => (upd_ne (ne_of_none e hR')).trans (s5 b' o e), (upd_ne nLR).trans gL5, alI_off al5 gR5, ?_, rfl⟩
            rw [upd_same, List.map_append, List.map_append, List.length_append]
            have : ((acc.length + 1 : Nat) : Int) - 1 = ((st.1.length : Nat) : Int) := by omega
            show some (HO.lst (_ ++ [V.int (((acc.length + 1 : Nat) : Int) - 1)])) = _
            rw [this]
            rfl
          · have c2 : ¬ t = 1 := by simpa using c2
            rw [if_neg c2]
            exact ⟨acc ++ [.ref p4], _, _, _, s5, gL5, al5, gR5, rfl⟩
        · have c1 : ¬ m = -1 := by simpa using c1
          rw [pstep_old c1]
          obtain ⟨m0, m1, m2⟩ := o4.resolve_left c1
          have hp : st.2[st.2.length - 1 - m.toNat]? = some (st.2.getD (st.2.length - 1 - m.toNat) 0) := by
            have := List.getElem?_eq_getElem (l := st.2) (i := st.2.length - 1 - m.toNat) (by omega)
            rw [List.getD_eq_getElem?_getD, this]
            rfl
          generalize st.2.getD (st.2.length - 1 - m.toNat) 0 = pl at *
          have gp : atI ((st.2.map fun n : Nat => (n : Int)).map V.int) (-1 - m) = some (V.int (pl : Nat)) := by
            have em : m = ((m.toNat : Nat) : Int) := by omega
            rw [em]
            refine atI_back (by rw [List.length_map, List.length_map]; exact m1) ?_
            rw [List.length_map, List.length_map, List.getElem?_map, List.getElem?_map, hp]
            rfl
          refine ⟨_, rfl, _, rfl, _, rfl, _, rfl, ma, _, _, _, rfl, rfl, sm2, gm, _, _, rfl, rfl, R, _, _, _, rfl, rfl, SqL.of gR3, gp, ?_⟩
          have hb : st.1[pl]? = some (st.1[pl]) := List.getElem?_eq_getElem m2
          obtain ⟨x, hx, ix⟩ := al3.at hb
          have bb := o3 _ (List.mem_of_getElem? hb)
          rw [getD_some hb]
          generalize st.1[pl] = b at *
          obtain ⟨c, rfl, sc⟩ := id ix
          refine ⟨_, rfl, _, rfl, L, acc, _, pl, rfl, rfl, SqL.of gL3, hx, _, rfl, (by show 1 ≤ sizeLine; decide), fun p4 hp4 => ?_⟩
          have s4 := same_new (o := .tup [.int (i : Nat)]) hp4
          refine ⟨c, p4, b.map V.int, [.int (i : Nat)], rfl, rfl, Bs.Same.t s4 sc, SqT.of upd_same, (fun z => ?_), (by simp), Nat.le_of_lt (small1000 (by rw [List.length_map]; show _ + 1 ≤ 1000; omega)), fun q hq => ?_⟩
          · have := congrArg List.length z
            rw [List.length_map] at this
            have h0 : b.length = 0 := this
            omega
          have s5 := same_new (o := .tup (b.map V.int ++ [.int (i : Nat)])) hq
          have s45 := s4.trans s5
          have gL5 := s45 _ _ gL3
          have gR5 := s45 _ _ gR3
          refine ⟨L, acc, pl, pl, rfl, rfl, gL5, ixnF (by omega), ?_⟩
          have al6 := alI_off ((alI_mono al3 s45).set pl (v := .ref q) (q := b ++ [(i : Int)]) ⟨q, rfl, by rw [List.map_append]; exact SqT.of upd_same⟩) gL5 (o := .lst (acc.set pl (.ref q)))
          generalize upd (upd H2 p4 (.tup [.int (i : Nat)])) q (.tup (b.map V.int ++ [.int (i : Nat)])) = H5 at *
          have s6 : Same H (upd H5 L (.lst (acc.set pl (.ref q)))) := fun b' o e => (upd_ne (ne_of_none e hL)).trans (s45 b' o (s23 b' o e))
          have gL6 : upd H5 L (.lst (acc.set pl (.ref q))) L = some (.lst (acc.set pl (.ref q))) := upd_same
          have gR6 := (upd_ne (Ne.symm nLR) (H := H5) (o := .lst (acc.set pl (.ref q)))).trans gR5
          generalize upd H5 L (.lst (acc.set pl (.ref q))) = H6 at *
          refine ⟨_, rfl, _, rfl, rfl, _, rfl, ?_⟩
          refine ite2 (fun c2 => ?_) (fun c2 => ?_)
          · have c2 : t = -1 := by simpa using c2
            rw [if_pos c2]
            have pm : pl ∈ st.2 := List.mem_of_getElem? hp
            refine ⟨_, rfl, .inl ⟨rfl, _, SqL.of gR6⟩, _, rfl, R, st.2.map fun n : Nat => (n : Int), ((pl : Nat) : Int), st.2.idxOf pl, rfl, rfl, gR6, ?_, fun k hk => ?_, ?_⟩
            · have := List.idxOf_lt_length_of_mem pm
              rw [List.getElem?_map, List.getElem?_eq_getElem this, List.getElem_idxOf this]
              rfl
            · rw [List.getElem?_map]
              intro z
              have kl : k < st.2.length := by
                have := List.idxOf_lt_length_of_mem pm
                omega
              rw [List.getElem?_eq_getElem kl] at z
              have z : ((st.2[k] : Nat) : Int) = (pl : Int) := Option.some.inj z
              have z : st.2[k] = pl := by omega
              have := List.not_of_lt_findIdx (p := (· == pl)) (xs := st.2) (i := k) hk
              rw [z] at this
              simp at this
            · refine ⟨_, _, _, _, fun b' o e => (upd_ne (ne_of_none e hR')).trans (s6 b' o e), (upd_ne nLR).trans gL6, alI_off al6 gR6, ?_, rfl⟩
              rw [upd_same, erase_ix]
          · have c2 : ¬ t = -1 := by simpa using c2
            rw [if_neg c2]
            exact ⟨_, _, _, _, s6, gL6, al6, gR6, rfl⟩
      · rintro σ H1 ⟨acc, v4, v5, v6, s2, gL, al, gR, rfl⟩
        rw [List.length_map] at al
        exact ⟨acc, v4, v5, v6, s2, gL, al, rfl⟩
    rintro σ H1 ⟨acc, v4, v5, v6, s2, gL, al, rfl⟩
    refine ⟨_, rfl, L, acc, rfl, .inl ⟨SqL.of gL, fun l hl => ?_⟩⟩
    have s3 := same_new (o := .tup acc) hl
    exact kk _ l (s2.trans s3) ⟨l, acc, rfl, SqT.of upd_same, alI_mono al s3⟩
end
end Rs


set_option Elab.async false
set_option linter.all false
set_option maxRecDepth 100000
set_option maxHeartbeats 1000000
namespace SmT
open PySem PySem.Spec PyProof.Rows L2
section
variable {X : Cx}
def rSumT (K : PySem.W.Frag) : List V → Hp → VK → Prop := fun vs H Q => ∃ (a : Addr) (ns : List Int), vs = [V.ref a] ∧ SqT K H a (ns.map V.int) ∧ Q (.int ns.sum) H
theorem cr_sumT (hc : X.calm = true) : CallR X (.builtin "sum") (rSumT X.K) := by
  rintro pins s σ H vs us Q I r ⟨a, ns, rfl, hs, q⟩
  obtain ⟨us2, rv, hl, _⟩ := I.tuple hs
  rw [Vals.ref1 r]
  obtain ⟨xs, e⟩ := rv.ints.allInts.items
  have hn : numsOf (intItems xs).toList = ns := by rw [← e]; exact rv.ints.numsOf
  rw [nums_intItems] at hn; subst hn
  rw [e] at hl
  refine PySem.W.ktm_sumG (I.ok.hd hc) hl fun h' tk t' hk => ⟨.int _, H, I.kept hk, ⟨_, rfl⟩, ?_⟩
  rw [preSum_eq, List.take_of_length_le (by simp)]
  exact q
end
end SmT
namespace Rs
open PySem L2 Bs Fq LamX Pg RZ Mk
structure Most7 (mg : Str → Option Value) : Prop where
  m7 : ∃ t, mg "MOST_NUMBERS" = some (.int 7 t)
abbrev sPO : Stmt := top 59
def spPO (K : PySem.W.Frag) : Sp := fun vs H Q _ => ∃ (v t : V) (w ms : List Int), vs = [v, t] ∧ Rs.It K H v w ∧ Rs.It K H t ms ∧ wayOk w = true ∧ mksOk w ms = true ∧ pok w ms = true ∧ ∀ H' L, Same H H' → Pt K H' (.ref L) (ptd w ms w.length).1 → Q (.ref L) H'
theorem hts_at {w : List Int} {h : Int} (m : h ∈ hts 0 w) : ∃ i, i < w.length + 1 ∧ h = Mk.hgt w i := by
  obtain ⟨i, hi, e⟩ := List.mem_iff_getElem.mp m
  rw [hts_len] at hi
  have := hgt_hts w (i := i) (by omega)
  rw [List.getElem?_eq_getElem (by rw [hts_len]; exact hi), e] at this
  exact ⟨i, hi, Option.some.inj this⟩
theorem way_ok {w : List Int} (h : wayOk w = true) : w.length ≤ 7 ∧ Way 0 w ∧ w.sum = 0 := by
  unfold wayOk at h
  simp only [Bool.and_eq_true, decide_eq_true_eq, List.all_eq_true] at h
  refine ⟨h.1, ⟨h.2.1, fun x hx => ?_⟩, h.2.2.2⟩
  obtain ⟨i, hi, rfl⟩ := hts_at hx
  exact h.2.2.1 i (List.mem_range.mpr hi)
section
variable {P : Program} {w : World} {K : PySem.W.Frag} {mg : Str → Option Value} {base : Heap} {f : Addr} {fd : FuncData}
theorem scPo : FnScope ["way", "marks"] ["way", "marks"] (defScope sPO) := ⟨rfl, rfl, rfl, by decide +kernel, rfl, by decide +kernel, by decide +kernel⟩
theorem ok_po (F : Fun K "parting_of" "parting_of" sPO f fd) (T : Blt mg) (su : mg "sum" = none) (M : Most7 mg) (IW : Cal P w K mg base 3 "is_way" (spIsWay K)) (AM : Cal P w K mg base 4 "are_marks" (spAreMk K)) (PD : Cal P w K mg base 1 "parted" (spPD K)) : FnOk P w K mg base CX0 5 f fd ["way", "marks"] (spPO K) := by
  refine F.ok scPo (fun vs H Q E h => ?_) (fun cdv A outer s H vs Q E hr h => ?_)
  · obtain ⟨v, t, w, ms, rfl, _⟩ := h
    rfl
  · obtain ⟨v, t, w, ms, rfl, iw, im, ow, om, op, kk⟩ := h
    obtain ⟨t7, m7⟩ := M.m7
    obtain ⟨w7, W, w0⟩ := way_ok ow
    have lm : ms.length = w.length := by
      unfold mksOk at om
      rw [Bool.and_eq_true, decide_eq_true_eq] at om
      exact om.1
    refine ⟨_, pss_cons (ps_if (PW.pt (pw_or (pt_not (pt_val (pe_n IW hr (by decide) (by rfl) (pa_cons pe_int (pa_cons (pv 0) pa_nil))))) (pw_or (pt_cmpR op_ne (pe_callB (SmT.cr_sumT rfl) (by rfl) su (by decide +kernel) (pa_cons (pv 0) pa_nil)) pe_int (nomark _)) (pw_or1 (pt_cmpR op_gt (pe_callB call_len_seq (by rfl) T.len (by decide +kernel) (pa_cons (pv 0) pa_nil)) (pe_glob (v := .int 7) (by rfl) m7 ⟨t7, rfl⟩) (nomark _)))))) (pss_one ps_never) pss_nil)
      (pss_cons (ps_if (pt_not (pt_val (pe_n AM hr (by decide) (by rfl) (pa_cons (pv 0) (pa_cons (pv 1) pa_nil))))) (pss_one ps_never) pss_nil)
      (pss_one (ps_ret (pe_n PD hr (by decide) (by rfl) (pa_cons (pv 0) (pa_cons (pv 1) pa_nil)))))), ?_⟩
    refine ⟨_, rfl, 0, _, w, rfl, iw, W, by omega, fun H1 s1 => ?_⟩
    have iw1 := iw.mono s1
    obtain ⟨wa, rfl, sw⟩ := id iw1
    refine ⟨_, rfl, ?_⟩
    refine iteF ⟨_, rfl, wa, w, rfl, sw, ?_⟩
    rw [w0]
    refine ⟨rfl, _, rfl, ?_⟩
    refine ite2 (fun c => absurd c (by decide)) (fun _ => ?_)
    refine ⟨_, rfl, wa, _, rfl, .inr sw, _, _, rfl, rfl, _, rfl, ?_⟩
    rw [List.length_map]
    refine ite2 (fun c => ?_) (fun _ => ?_)
    · have := of_decide_eq_true c
      omega
    refine ⟨_, rfl, _, rfl, _, _, w, ms, rfl, iw1, im.mono s1, by omega, fun H2 s2 => ?_⟩
    rw [om]
    refine ⟨_, rfl, ?_⟩
    refine iteF ?_
    have s12 := s1.trans s2
    exact ⟨_, rfl, _, rfl, _, _, w, ms, rfl, iw.mono s12, im.mono s12, by omega, lm, op, fun H3 L s3 p => kk H3 L (s12.trans s3) p⟩
end
end Rs


set_option Elab.async false
set_option linter.all false
set_option maxRecDepth 100000
set_option maxHeartbeats 1000000
namespace Mk
open Pg
theorem lok_at {p : Prt} (h : lok p = true) {i : Nat} (hi : i < total p) : home p i < p.length ∧ 0 < (p.getD (home p i) []).length ∧ (p.getD (home p i) []).length ≤ 8 ∧ (lmk p i).o.length ≤ 8 ∧ ((i : Int) = hdI (p.getD (home p i) []) ∨ p.getD (home p i) [] ∈ (lmk p i).o) := by
  unfold lok at h
  have h := List.all_eq_true.mp h i (List.mem_range.mpr hi)
  simp only [Bool.and_eq_true, Bool.or_eq_true, decide_eq_true_eq, List.contains_iff_mem] at h
  exact ⟨h.1, h.2.1, h.2.2.1, h.2.2.2.1, h.2.2.2.2⟩
def keepB (b : Blk) (i : Nat) (f : Blk) : Bool := decide (f ≠ b) || decide ((i : Int) ≠ ltI b)
theorem lstep_new {p : Prt} {st : LS} {i : Nat} {b : Blk} (e : p.getD (home p i) [] = b) (h : (i : Int) = hdI b) : lstep p st i = ⟨st.w ++ [if 1 < b.length then 1 else 0], st.m ++ [-1], if 1 < b.length then st.o ++ [b] else st.o⟩ := by
  subst e
  exact if_pos h
theorem lstep_old {p : Prt} {st : LS} {i : Nat} {b : Blk} (e : p.getD (home p i) [] = b) (h : ¬ (i : Int) = hdI b) : lstep p st i = ⟨st.w ++ [if (i : Int) = ltI b then -1 else 0], st.m ++ [((st.o.length : Nat) : Int) - 1 - ((st.o.findIdx (· == b) : Nat) : Int)], st.o.filter (keepB b i)⟩ := by
  subst e
  exact if_neg h
theorem lmk_len (p : Prt) : ∀ i, (lmk p i).w.length = i ∧ (lmk p i).m.length = i
  | 0 => ⟨rfl, rfl⟩
  | i + 1 => by
    obtain ⟨a, b⟩ := lmk_len p i
    show (lstep p (lmk p i) i).w.length = i + 1 ∧ (lstep p (lmk p i) i).m.length = i + 1
    by_cases h : (i : Int) = hdI (p.getD (home p i) [])
    · rw [lstep_new rfl h]
      exact ⟨by rw [List.length_append, a]; rfl, by rw [List.length_append, b]; rfl⟩
    · rw [lstep_old rfl h]
      exact ⟨by rw [List.length_append, a]; rfl, by rw [List.length_append, b]; rfl⟩
end Mk
namespace Rs
open PySem L2 Bs Fq LamX Pg RZ Mk
abbrev sLM : Stmt := top 80
abbrev NLm : List Str := ["parting", "way", "marks_so", "open_so", "number", "block", "far"]
def spLM (K : PySem.W.Frag) : Sp := fun vs H Q _ => ∃ (v : V) (p : Prt), vs = [v] ∧ Pt K H v p ∧ sizeB p = true ∧ homesOk p = true ∧ lok p = true ∧ ∀ H' u, Same H H' → W2 K H' u (lwS p) (lwM p) → Q u H'
theorem none_back {H H' : Hp} {a : Addr} (s : Same H H') (h : H' a = none) : H a = none := by
  cases e : H a with
  | none => rfl
  | some o =>
    rw [s a o e] at h
    cases h
theorem ne_fresh {H : Hp} {a b : Addr} {o : HO} (ha : H a = some o) (hb : H b = none) : a ≠ b := fun z => by
  rw [z, hb] at ha
  cases ha
theorem small1000' {n : Nat} (h : n ≤ 1000) : n ≤ sizeLine := by
  have e : sizeLine = 16777216 := sizeLine_eq
  omega
theorem Room65 {k : Nat} {A : Around} (r : L2.Room k A) : A.units + 65 < cLine := by
  have := r.un
  omega
theorem can_dIs : ∀ ws : List Blk, PyData.canLayAll0 (ws.map dI) = true
  | [] => rfl
  | b :: ws => by
    have h : PyData.canLay0 (dI b) = true := by simpa [dI, PyData.canLay0] using can_ints b
    rw [List.map_cons, PyData.canLayAll0, h, can_dIs ws]
    rfl
theorem shaped_dI (b : Blk) : SeqAt.shaped (dI b) = true := by
  unfold SeqAt.shaped
  rw [Bool.and_eq_true_iff]
  refine ⟨by simpa [dI, PyData.canLay0] using can_ints b, decide_eq_true ?_⟩
  have := depth_dI b
  omega
theorem shaped_dIs (ws : List Blk) : SeqAt.shaped (.list (ws.map dI)) = true := by
  unfold SeqAt.shaped
  rw [Bool.and_eq_true_iff]
  refine ⟨by simpa [PyData.canLay0] using can_dIs ws, decide_eq_true ?_⟩
  have := depth_dWs ws
  simp only [PyData.depth]
  omega
theorem find_ix {o : List Blk} {b : Blk} (h : b ∈ o) : o[o.findIdx (· == b)]? = some b ∧ ∀ m z, m < o.findIdx (· == b) → o[m]? = some z → z ≠ b := by
  have lt : o.findIdx (· == b) < o.length := List.findIdx_lt_length_of_exists ⟨b, h, by simp⟩
  refine ⟨?_, fun m z hm hz e => ?_⟩
  · have := List.findIdx_getElem (p := (· == b)) (xs := o) (w := lt)
    rw [List.getElem?_eq_getElem lt]
    rw [beq_iff_eq] at this
    rw [this]
  · have := List.not_of_lt_findIdx hm
    have l2 : m < o.length := by omega
    rw [List.getElem?_eq_getElem l2] at hz
    have hz := Option.some.inj hz
    rw [hz, e] at this
    simp at this
section
variable {P : Program} {w : World} {K : PySem.W.Frag} {mg : Str → Option Value} {base : Heap} {f : Addr} {fd : FuncData}
theorem scLm : FnScope NLm ["parting"] (defScope sLM) := ⟨rfl, rfl, rfl, by decide +kernel, rfl, by decide +kernel, by decide +kernel⟩
theorem ok_lm (F : Fun K "_law_marked" "_law_marked" sLM f fd) (T : Blt mg) (su : mg "sum" = none) (LH : Cal P w K mg base 1 "_law_home" (spLHome K)) : FnOk P w K mg base CX0 2 f fd ["parting"] (spLM K) := by
  refine F.ok scLm (fun vs H Q E h => ?_) (fun cdv A outer s H vs Q E hr h => ?_)
  · obtain ⟨v, p, rfl, _⟩ := h
    rfl
  · obtain ⟨v, p, rfl, pp, sz, ho, ok, kk⟩ := h
    obtain ⟨a, xs, rfl, sx, all⟩ := id pp
    obtain ⟨l8, bl⟩ := size_blk sz
    obtain ⟨t7, hne⟩ := homes_at ho
    have lx := all.len
    refine ⟨_, pss_cons (ps_par3 (i := 1) (j := 2) (l := 3) (by rfl) scLm.nd rfl rfl rfl (by decide) (by decide) (by decide) rfl rfl rfl (pa_cons (pe_lst pa_nil) (pa_cons (pe_lst pa_nil) (pa_cons (pe_lst pa_nil) pa_nil))) (by rfl))
      (C8.pss_cut (ps_for PassesOwn.never rfl (pi_range1 rfl T.range (pa_cons (pe_callB (cr_sum rfl) (by rfl) su (by decide +kernel) (pa_cons (pe_lc (own := [("block", 5)]) (g := gName 5) (tt := tYes) rfl scLm.nd (pi_tup (pv 0)) (blkOk_by (N := NLm) (sc := defScope sLM) (by decide +kernel))
          (fun _ _ _ _ _ => pg_name (i := 5) scLm.nd rfl (Or.inl rfl)) (fun _ _ _ _ _ => pts_nil)
          (fun _ _ _ _ _ => (pe_callB (id := "len") (r := rLenK K) call_len_seq (by rfl) T.len (by decide +kernel) (pa_cons (pv 5) pa_nil)))) pa_nil)) pa_nil)) (pg_name (i := 4) scLm.nd rfl (Or.inr rfl))
      (pss_cons (ps_set (i := 5) scLm.nd rfl (Or.inr rfl) (pe_ix ix_tup (pv 0) (pe_n LH hr (by decide) (by rfl) (pa_cons (pv 0) (pa_cons (pv 4) pa_nil))) (fun _ _ => rfl)))
        (pss_one (ps_if (pt_cmpR op_eq (pv 4) (pe_ix ix_tup (pv 5) pe_int (fun _ _ => rfl)) (nomark _)) (pss_cons (ps_expr (pe_bm PySem.F.plainAttrs_list PySem.F.slot_list_append PySem.F.type_list_append mt_append (pv 1) (pa_cons (pe_callTy call_int1 (by rfl) T.int (by decide +kernel) (pa_cons (pe_cmpR op_gt (pe_callB call_len_seq (by rfl) T.len (by decide +kernel) (pa_cons (pv 5) pa_nil)) pe_int (nomark _)) pa_nil)) pa_nil)))
          (pss_cons (ps_expr (pe_bm PySem.F.plainAttrs_list PySem.F.slot_list_append PySem.F.type_list_append mt_append (pv 2) (pa_cons (pe_un un_neg pe_int) pa_nil)))
          (pss_one (ps_set (i := 3) scLm.nd rfl (Or.inl rfl) (pe_op op_cat (pv 3) (pe_op op_rep (pe_lst (pa_cons (pv 5) pa_nil)) (pe_callTy call_int1 (by rfl) T.int (by decide +kernel) (pa_cons (pe_cmpR op_gt (pe_callB call_len_seq (by rfl) T.len (by decide +kernel) (pa_cons (pv 5) pa_nil)) pe_int (nomark _)) pa_nil)))))))) (pss_cons (ps_expr (pe_bm PySem.F.plainAttrs_list PySem.F.slot_list_append PySem.F.type_list_append mt_append (pv 2) (pa_cons (pe_op op_sub (pe_op op_sub (pe_callB call_len_seq (by rfl) T.len (by decide +kernel) (pa_cons (pv 3) pa_nil)) pe_int) (pe_bm PySem.F.plainAttrs_list PySem.F.slot_list_index PySem.F.type_list_index (mt_indexD (Room65 hr)) (pv 3) (pa_cons (pv 5) pa_nil))) pa_nil)))
          (pss_cons (ps_expr (pe_bm PySem.F.plainAttrs_list PySem.F.slot_list_append PySem.F.type_list_append mt_append (pv 1) (pa_cons (pe_op op_sub pe_int (pe_callTy call_int1 (by rfl) T.int (by decide +kernel) (pa_cons (pe_cmpR op_eq (pv 4) (pe_ix ix_tup (pv 5) (pe_un un_neg pe_int) (fun _ _ => rfl)) (nomark _)) pa_nil))) pa_nil)))
          (pss_one (ps_setLc (i := 3) (own := [("far", 6)]) (g := gName 6) rfl scLm.nd rfl rfl (sw_true rfl rfl rfl (by decide +kernel)) (pi_list (pv 3)) (blkOk_by (N := NLm) (sc := defScope sLM) (by decide +kernel))
          (fun _ _ _ _ _ => pg_name (i := 6) scLm.nd rfl (Or.inl rfl)) (fun _ _ _ _ _ => pts_one (PW.pt (pw_or (pt_cmpR (r := rNeD K) (op_neD hr.units) (pv 6) (pv 5) (nomark _)) (pw_or1 (pt_cmpR op_ne (pv 4) (pe_ix (r := rIxT K) ix_tup (pv 5) (pe_un (r := rU fun i => V.int (-i)) un_neg pe_int) (fun _ _ => rfl)) (nomark _))))))
          (fun _ _ _ _ _ => (pv 6))))))))))
      (pss_one (ps_ret (pe_tup (pa_cons (pe_callTy call_tuple_of (by rfl) T.tuple (by decide +kernel) (pa_cons (pv 1) pa_nil)) (pa_cons (pe_callTy call_tuple_of (by rfl) T.tuple (by decide +kernel) (pa_cons (pv 2) pa_nil)) pa_nil)))))), ?_⟩
    refine ⟨(by show 0 ≤ sizeLine; decide), fun LW hW => ⟨(by show 0 ≤ sizeLine; decide), fun LM hM => ⟨(by show 0 ≤ sizeLine; decide), fun LO hO => ⟨_, _, _, rfl, ?_⟩⟩⟩⟩
    have sW := same_new (o := .lst []) hW
    have sM := same_new (o := .lst []) hM
    have sO := same_new (o := .lst []) hO
    have gW := sO _ _ (sM _ _ (upd_same (H := H) (a := LW) (o := .lst [])))
    have gM := sO _ _ (upd_same (H := upd H LW (.lst [])) (a := LM) (o := .lst []))
    have gO := upd_same (H := upd (upd H LW (.lst [])) LM (.lst [])) (a := LO) (o := .lst [])
    have hM' := none_back sW hM
    have hWM : LW ≠ LM := ne_fresh upd_same hM
    have hWO : LW ≠ LO := ne_fresh (sM _ _ upd_same) hO
    have hMO : LM ≠ LO := ne_fresh upd_same hO
    have s0 := (sW.trans sM).trans sO
    generalize upd (upd (upd H LW (.lst [])) LM (.lst [])) LO (.lst []) = H0 at *
    have sx0 := Bs.Same.t s0 sx
    refine ⟨fun σ H1 => Same H H1 ∧ H1 LW = some (.lst ((lwS p).map V.int)) ∧ H1 LM = some (.lst ((lwM p).map V.int)) ∧ ∃ v3 v4 v5, σ = [some (.ref a), some (.ref LW), some (.ref LM), v3, v4, v5, none], ?_, ?_⟩
    · refine ⟨_, rfl, a, rfl, ⟨_, sx0⟩, fun D hD => lc_tup (K := K) (a := a) (xs := xs) (fun i H2 => Same H0 H2 ∧ H2 D = some (.lst (((p.take i).map fun b => (b.length : Int)).map V.int))) ⟨same_new hD, upd_same⟩ (fun i H2 _ z => Bs.Same.t z.1 sx0) ?_ ?_⟩
      · rintro i x H2 hx ⟨s2, hD2⟩
        obtain ⟨b, hb, c, rfl, sc⟩ := all.get hx
        refine ⟨rfl, ?_⟩
        refine iteT (B := Same H0 H2 ∧ H2 D = some (.lst (((p.take (i + 1)).map fun b => (b.length : Int)).map V.int))) ?_
        refine ⟨_, rfl, c, _, rfl, .inr (Bs.Same.t (s0.trans s2) sc), _, hD2, small1000 (by rw [List.length_map, List.length_map, List.length_take]; omega), fun c o e => (upd_ne (ne_of_none e hD)).trans (s2 c o e), ?_⟩
        rw [upd_same, take_one hb, List.map_append, List.map_append, List.length_map]
        rfl
      rintro H2 ⟨s2, hD2⟩
      rw [lx, List.take_length] at hD2
      refine ⟨D, _, rfl, SqL.of hD2, _, rfl, ?_⟩
      rw [sum_len p]
      refine ⟨by omega, by omega, for_range (n := ((total p : Nat) : Int).toNat) (fun i σ H1 => ∃ (LO : Addr) (os : List V), Same H H1 ∧ H1 LW = some (.lst ((lmk p i).w.map V.int)) ∧ H1 LM = some (.lst ((lmk p i).m.map V.int)) ∧ H1 LO = some (.lst os) ∧ LW ≠ LO ∧ LM ≠ LO ∧ Al (Rs.It K H1) os (lmk p i).o ∧ ∃ v4 v5, σ = [some (.ref a), some (.ref LW), some (.ref LM), some (.ref LO), v4, v5, none])
        ⟨LO, [], s0.trans s2, s2 _ _ gW, s2 _ _ gM, s2 _ _ gO, hWO, hMO, .nil, none, none, rfl⟩ ?_ ?_⟩
      · rintro i σ H1 hi ⟨LO, os, s1, gW, gM, gO, nWO, nMO, al, v4, v5, rfl⟩
        have im : i < total p := by omega
        rw [Int.zero_add]
        obtain ⟨w1, w2⟩ := lmk_len p i
        obtain ⟨h1, h2, h3, h4, h5⟩ := lok_at ok im
        have e1 : lmk p (i + 1) = lstep p (lmk p i) i := rfl
        refine ⟨_, rfl, _, rfl, _, rfl, _, p, _, rfl, pp.mono s1, sz, hne i im, fun H3 s3 => ?_⟩
        have s13 := s1.trans s3
        have hb : p[home p i]? = some (p[home p i]) := List.getElem?_eq_getElem h1
        obtain ⟨x, hx, ix⟩ := all.at hb
        have eb := getD_some hb
        rw [eb] at h2 h3 h5
        generalize p[home p i] = b at *
        rw [e1]
        obtain ⟨c, rfl, sc⟩ := id ix
        have gW3 := s3 _ _ gW
        have gM3 := s3 _ _ gM
        have gO3 := s3 _ _ gO
        have al3 := alI_mono al s3
        have la := al.len
        have sc3 := Bs.Same.t s13 sc
        generalize lmk p i = st at *
        refine ⟨a, _, _, _, rfl, rfl, Bs.Same.t s13 sx, atI_nat hx, ?_⟩
        refine ⟨_, rfl, _, rfl, c, _, _, _, rfl, rfl, sc3, atI_hd h2, rfl, _, rfl, ?_⟩
        have sl1 : ∀ {l : List Int}, l.length = i → (l.map V.int).length < sizeLine := fun e => small1000 (by rw [List.length_map]; omega)
        refine ite2 (fun c1 => ?_) (fun c1 => ?_)
        · have c1 : (i : Int) = hdI b := by simpa using c1
          rw [lstep_new eb c1]
          refine ⟨_, rfl, .inl ⟨rfl, _, SqL.of gW3⟩, _, rfl, c, _, rfl, .inr sc3, _, _, rfl, rfl, .inr ⟨_, rfl, ?_⟩⟩
          refine ⟨LW, _, _, rfl, rfl, gW3, sl1 w1, ?_⟩
          rw [List.length_map]
          have ei : (if decide ((b.length : Int) > 1) = true then (1 : Int) else 0) = if 1 < b.length then 1 else 0 := by
            by_cases q : 1 < b.length
            · rw [if_pos q, if_pos (decide_eq_true (by omega))]
            · rw [if_neg q, if_neg (by rw [decide_eq_true_eq]; omega)]
          rw [ei]
          have s4 : Same H (upd H3 LW (.lst (st.w.map V.int ++ [V.int (if 1 < b.length then 1 else 0)]))) := fun b' o e => (upd_ne (ne_of_none e hW)).trans (s13 b' o e)
          have gW4 := upd_same (H := H3) (a := LW) (o := .lst (st.w.map V.int ++ [V.int (if 1 < b.length then 1 else 0)]))
          have gM4 := (upd_ne (Ne.symm hWM) (H := H3) (o := .lst (st.w.map V.int ++ [V.int (if 1 < b.length then 1 else 0)]))).trans gM3
          have gO4 := (upd_ne (Ne.symm nWO) (H := H3) (o := .lst (st.w.map V.int ++ [V.int (if 1 < b.length then 1 else 0)]))).trans gO3
          have al4 := alI_off al3 gW3 (o := .lst (st.w.map V.int ++ [V.int (if 1 < b.length then 1 else 0)]))
          generalize upd H3 LW (.lst (st.w.map V.int ++ [V.int (if 1 < b.length then 1 else 0)])) = H4 at *
          refine ⟨_, rfl, .inl ⟨rfl, _, SqL.of gM4⟩, _, rfl, LM, _, _, rfl, rfl, gM4, sl1 w2, ?_⟩
          have s5 : Same H (upd H4 LM (.lst (st.m.map V.int ++ [V.int (-1)]))) := fun b' o e => (upd_ne (ne_of_none e hM')).trans (s4 b' o e)
          have gM5 := upd_same (H := H4) (a := LM) (o := .lst (st.m.map V.int ++ [V.int (-1)]))
          have gW5 := (upd_ne hWM (H := H4) (o := .lst (st.m.map V.int ++ [V.int (-1)]))).trans gW4
          have gO5 := (upd_ne (Ne.symm nMO) (H := H4) (o := .lst (st.m.map V.int ++ [V.int (-1)]))).trans gO4
          have al5 := alI_off al4 gM4 (o := .lst (st.m.map V.int ++ [V.int (-1)]))
          generalize upd H4 LM (.lst (st.m.map V.int ++ [V.int (-1)])) = H5 at *
          refine ⟨_, rfl, _, rfl, (by show 1 ≤ sizeLine; decide), fun l hl => ?_⟩
          have s6 := same_new (o := .lst [.ref c]) hl
          have sc6 := Bs.Same.t (s5.trans s6) sc
          refine ⟨_, rfl, c, _, rfl, .inr sc6, _, _, rfl, rfl, .inr ⟨_, rfl, ?_⟩⟩
          rw [List.length_map, ei]
          refine ⟨l, _, _, rfl, rfl, upd_same, by split <;> decide, by split <;> decide, small1000' (by split <;> simp), fun l2 hl2 => ?_⟩
          have s7 := same_new (o := .lst (List.replicate (if 1 < b.length then (1 : Int) else 0).toNat [V.ref c]).flatten) hl2
          have s67 := s6.trans s7
          have zl : (List.replicate (if 1 < b.length then (1 : Int) else 0).toNat [V.ref c]).flatten = if 1 < b.length then [V.ref c] else [] := by
            by_cases q : 1 < b.length
            · rw [if_pos q, if_pos q]; rfl
            · rw [if_neg q, if_neg q]; rfl
          have gl2 := upd_same (H := upd H5 l (.lst [.ref c])) (a := l2) (o := .lst (List.replicate (if 1 < b.length then (1 : Int) else 0).toNat [V.ref c]).flatten)
          generalize (List.replicate (if 1 < b.length then (1 : Int) else 0).toNat [V.ref c]).flatten = zz at *
          refine ⟨LO, l2, os, zz, rfl, rfl, s67 _ _ gO5, gl2, small1000' (by rw [zl]; split <;> simp <;> omega), fun L3 hL3 => ?_⟩
          have s8 := same_new (o := .lst (os ++ zz)) hL3
          have s68 := s67.trans s8
          refine ⟨L3, _, s5.trans s68, ?_, ?_, upd_same, ne_fresh (s67 _ _ gW5) hL3, ne_fresh (s67 _ _ gM5) hL3, ?_, _, _, rfl⟩
          · rw [List.map_append]
            exact s68 _ _ gW5
          · rw [List.map_append]
            exact s68 _ _ gM5
          · show Al _ (os ++ zz) (if 1 < b.length then st.o ++ [b] else st.o)
            have al8 := alI_mono al5 s68
            have sc8 := Bs.Same.t (s5.trans s68) sc
            by_cases q : 1 < b.length
            · rw [if_pos q] at zl ⊢
              subst zl
              exact al8.snoc ⟨c, rfl, sc8⟩
            · rw [if_neg q] at zl ⊢
              subst zl
              rw [List.append_nil]
              rw [List.append_nil] at al8
              exact al8
        · have c1 : ¬ (i : Int) = hdI b := by simpa using c1
          rw [lstep_old eb c1]
          have mb := h5.resolve_left c1
          obtain ⟨f1, f2⟩ := find_ix mb
          refine ⟨_, rfl, .inl ⟨rfl, _, SqL.of gM3⟩, _, rfl, LO, _, rfl, .inl (SqL.of gO3), _, _, rfl, rfl, _, rfl, .inl ⟨rfl, _, SqL.of gO3⟩, _, rfl, ?_⟩
          refine ⟨LO, .ref c, dI b, st.o.map dI, st.o.findIdx (· == b), dI b, rfl, rfl, .lst (SqL.of gO3) al3.dpI, .tup sc3 (dpInts b), shaped_dIs _, shaped_dI _, by rw [List.getElem?_map, f1]; rfl, by rw [eqv_dI]; exact decide_eq_true rfl, fun m z hm hz => ?_, ?_⟩
          · rw [List.getElem?_map] at hz
            cases q : st.o[m]? with
            | none => rw [q] at hz; cases hz
            | some y =>
              rw [q] at hz
              cases hz
              show PyData.eqv (dI y) (dI b) = false
              rw [eqv_dI]
              exact decide_eq_false (f2 m y hm q)
          refine ⟨_, _, rfl, rfl, LM, _, _, rfl, rfl, gM3, sl1 w2, ?_⟩
          rw [la]
          have s4 : Same H (upd H3 LM (.lst (st.m.map V.int ++ [V.int (((st.o.length : Nat) : Int) - 1 - ((st.o.findIdx (· == b) : Nat) : Int))]))) := fun b' o e => (upd_ne (ne_of_none e hM')).trans (s13 b' o e)
          have gM4 := upd_same (H := H3) (a := LM) (o := .lst (st.m.map V.int ++ [V.int (((st.o.length : Nat) : Int) - 1 - ((st.o.findIdx (· == b) : Nat) : Int))]))
          have gW4 := (upd_ne hWM (H := H3) (o := .lst (st.m.map V.int ++ [V.int (((st.o.length : Nat) : Int) - 1 - ((st.o.findIdx (· == b) : Nat) : Int))]))).trans gW3
          have gO4 := (upd_ne (Ne.symm nMO) (H := H3) (o := .lst (st.m.map V.int ++ [V.int (((st.o.length : Nat) : Int) - 1 - ((st.o.findIdx (· == b) : Nat) : Int))]))).trans gO3
          have al4 := alI_off al3 gM3 (o := .lst (st.m.map V.int ++ [V.int (((st.o.length : Nat) : Int) - 1 - ((st.o.findIdx (· == b) : Nat) : Int))]))
          generalize upd H3 LM (.lst (st.m.map V.int ++ [V.int (((st.o.length : Nat) : Int) - 1 - ((st.o.findIdx (· == b) : Nat) : Int))])) = H4 at *
          have sc4 := Bs.Same.t s4 sc
          refine ⟨_, rfl, .inl ⟨rfl, _, SqL.of gW4⟩, _, rfl, _, rfl, _, rfl, c, _, _, _, rfl, rfl, sc4, atI_last h2, rfl, .inr ⟨_, rfl, ?_⟩⟩
          refine ⟨_, _, rfl, rfl, LW, _, _, rfl, rfl, gW4, sl1 w1, ?_⟩
          have ei : (0 : Int) - (if decide ((i : Int) = ltI b) = true then (1 : Int) else 0) = if (i : Int) = ltI b then -1 else 0 := by
            by_cases q : (i : Int) = ltI b
            · rw [if_pos q, if_pos (decide_eq_true q)]; rfl
            · rw [if_neg q, if_neg (by rw [decide_eq_true_eq]; exact q)]; rfl
          have ev : ∀ k : Bool, k = decide ((i : Int) = ltI b) → (0 : Int) - (if k = true then (1 : Int) else 0) = if (i : Int) = ltI b then -1 else 0 := fun k e => by rw [e, ei]
          have ez : (fun i j : Int => V.int (i - j)) 0 (if decide (V.int (i : Int) = V.int (ltI b)) = true then (1 : Int) else 0) = V.int (if (i : Int) = ltI b then -1 else 0) := congrArg V.int (ev _ (by simp))
          rw [ez]
          have s5 : Same H (upd H4 LW (.lst (st.w.map V.int ++ [V.int (if (i : Int) = ltI b then -1 else 0)]))) := fun b' o e => (upd_ne (ne_of_none e hW)).trans (s4 b' o e)
          have gW5 := upd_same (H := H4) (a := LW) (o := .lst (st.w.map V.int ++ [V.int (if (i : Int) = ltI b then -1 else 0)]))
          have gM5 := (upd_ne (Ne.symm hWM) (H := H4) (o := .lst (st.w.map V.int ++ [V.int (if (i : Int) = ltI b then -1 else 0)]))).trans gM4
          have gO5 := (upd_ne (Ne.symm nWO) (H := H4) (o := .lst (st.w.map V.int ++ [V.int (if (i : Int) = ltI b then -1 else 0)]))).trans gO4
          have al5 := alI_off al4 gW4 (o := .lst (st.w.map V.int ++ [V.int (if (i : Int) = ltI b then -1 else 0)]))
          generalize upd H4 LW (.lst (st.w.map V.int ++ [V.int (if (i : Int) = ltI b then -1 else 0)])) = H5 at *
          refine ⟨_, rfl, LO, rfl, ⟨_, SqL.of gO5⟩, fun D hD => ?_⟩
          refine lc_list (K := K) (a := LO) (xs := os) (fun j H6 => Same H5 H6 ∧ ∃ acc, H6 D = some (.lst acc) ∧ Al (Rs.It K H6) acc ((st.o.take j).filter (keepB b i))) ⟨same_new hD, [], upd_same, .nil⟩ (fun j H6 _ z => SqL.of (z.1 _ _ gO5)) ?_ ?_
          · rintro j x H6 hx ⟨s6, acc, hD6, ga⟩
            obtain ⟨g, hg, ig⟩ := al5.get hx
            obtain ⟨d, rfl, sd⟩ := id ig
            have sd6 := Bs.Same.t s6 sd
            have sc6 := Bs.Same.t (s5.trans s6) sc
            have lf := List.length_filter_le (keepB b i) (st.o.take j)
            rw [List.length_take] at lf
            have lg := ga.len
            refine ⟨rfl, ?_⟩
            have goT : keepB b i g = true → ∃ acc, H6 D = some (.lst acc) ∧ acc.length < sizeLine ∧ Same H5 (upd H6 D (.lst (acc ++ [.ref d]))) ∧ ∃ acc', upd H6 D (.lst (acc ++ [.ref d])) D = some (.lst acc') ∧ Al (Rs.It K (upd H6 D (.lst (acc ++ [.ref d])))) acc' ((st.o.take (j + 1)).filter (keepB b i)) := fun e => by
              refine ⟨acc, hD6, small1000 (by omega), fun c o e => (upd_ne (ne_of_none e hD)).trans (s6 c o e), acc ++ [.ref d], upd_same, ?_⟩
              rw [take_one hg, List.filter_append, List.filter_cons_of_pos e]
              exact (alI_off ga hD6).snoc ⟨d, rfl, sqT_off hD6 sd6⟩
            refine ⟨_, rfl, _, rfl, dI g, dI b, .tup sd6 (dpInts g), .tup sc6 (dpInts b), shaped_dI _, shaped_dI _, _, rfl, ?_⟩
            rw [eqv_dI]
            refine ite2 (fun c2 => ?_) (fun c2 => ?_)
            · exact ⟨_, rfl, goT (by unfold keepB; simpa using Or.inl (by simpa using c2))⟩
            · have c2 : g = b := by simpa using c2
              refine ⟨_, rfl, _, rfl, _, rfl, c, _, _, _, rfl, rfl, sc6, atI_last h2, rfl, _, rfl, ?_⟩
              refine ite2 (fun c3 => ?_) (fun c3 => ?_)
              · exact ⟨_, rfl, goT (by unfold keepB; simpa using Or.inr (by simpa using c3))⟩
              · have c3 : (i : Int) = ltI b := by simpa using c3
                refine ⟨s6, acc, hD6, ?_⟩
                rw [take_one hg, List.filter_append, List.filter_cons_of_neg (by unfold keepB; rw [c2, c3]; simp)]
                show Al _ _ (_ ++ [])
                rw [List.append_nil]
                exact ga
          · rintro H6 ⟨s6, acc, hD6, ga⟩
            rw [la, List.take_length] at ga
            refine ⟨D, acc, s5.trans s6, ?_, ?_, hD6, ne_fresh gW5 hD, ne_fresh gM5 hD, ga, _, _, rfl⟩
            · rw [List.map_append]
              exact s6 _ _ gW5
            · rw [List.map_append]
              exact s6 _ _ gM5
      · rintro σ H1 ⟨LO, os, s1, gW, gM, gO, nWO, nMO, al, v4, v5, rfl⟩
        exact ⟨s1, gW, gM, _, _, _, rfl⟩
    rintro σ H1 ⟨s1, gW1, gM1, v3, v4, v5, rfl⟩
    refine ⟨_, rfl, LW, _, rfl, .inl ⟨SqL.of gW1, fun q hq => ?_⟩⟩
    have s2 := same_new (o := .tup ((lwS p).map V.int)) hq
    refine ⟨_, rfl, LM, _, rfl, .inl ⟨SqL.of (s2 _ _ gM1), fun r hr => ?_⟩⟩
    have s3 := same_new (o := .tup ((lwM p).map V.int)) hr
    refine ⟨(by show 2 ≤ sizeLine; decide), fun t ht => ?_⟩
    have s4 := same_new (o := .tup [.ref q, .ref r]) ht
    exact kk _ _ (s1.trans (s2.trans (s3.trans s4))) ⟨t, _, _, rfl, SqT.of upd_same, ⟨q, rfl, Bs.Same.t (s3.trans s4) (SqT.of upd_same)⟩, ⟨r, rfl, Bs.Same.t s4 (SqT.of upd_same)⟩⟩
end
end Rs


set_option Elab.async false
set_option linter.all false
set_option maxRecDepth 100000
set_option maxHeartbeats 1000000
namespace Mk
open Pg
theorem D_ok {n : Nat} (hn : n ≤ 7) {i : Nat} (hi : i < n) {d : Dw} (h : d ∈ drawnTo n i) : d.1.length = i ∧ d.2.1.length = i ∧ 0 ≤ d.2.2 ∧ d.2.2 ≤ 7 ∧ some_ d.2.2 (n - 1 - i) ≠ [] := by
  have a := all_D n (by simp; omega)
  rw [Bool.and_eq_true, List.all_eq_true, List.all_eq_true] at a
  have b := a.2 i (List.mem_range.mpr hi)
  rw [List.all_eq_true] at b
  have c := b d h
  unfold okD at c
  simp only [Bool.and_eq_true, decide_eq_true_eq, Bool.not_eq_true', List.isEmpty_eq_false_iff] at c
  exact ⟨c.1, c.2.1, c.2.2.1, c.2.2.2.1, c.2.2.2.2⟩
theorem D_dr {n : Nat} (hn : n ≤ 7) {d : Dw} (h : d ∈ drawnTo n n) : drB d = true := by
  have a := all_D n (by simp; omega)
  rw [Bool.and_eq_true, List.all_eq_true, List.all_eq_true] at a
  exact a.1 d h
theorem D_succ {n i : Nat} {d : Dw} (h : d ∈ drawnTo n i) {s m : Int} (hs : s ∈ some_ d.2.2 (n - 1 - i)) (hm : m ∈ marksAt d.2.2 s) : (d.1 ++ [s], d.2.1 ++ [m], d.2.2 + s) ∈ drawnTo n (i + 1) := by
  show _ ∈ (drawnTo n i).flatMap (dstep (n - 1 - i))
  refine List.mem_flatMap.mpr ⟨d, h, ?_⟩
  unfold dstep
  exact List.mem_flatMap.mpr ⟨s, hs, List.mem_map.mpr ⟨m, hm, rfl⟩⟩
def someB (h left s : Int) : Bool := decide (0 ≤ h + s) && decide (h + s ≤ left)
theorem some_eq (h : Int) (left : Nat) : some_ h left = [-1, 0, 1].filter (someB h left) := rfl
theorem some_in {h s : Int} {left : Nat} (m : s ∈ some_ h left) : (s = -1 ∨ s = 0 ∨ s = 1) ∧ 0 ≤ h + s := by
  unfold some_ at m
  obtain ⟨a, b⟩ := List.mem_filter.mp m
  rw [Bool.and_eq_true, decide_eq_true_eq] at b
  exact ⟨by simpa using a, b.1⟩
theorem mk_down {h r : Int} (a : 0 ≤ r) (b : r < h) : r ∈ marksAt h (-1) := by
  unfold marksAt
  rw [if_pos rfl]
  exact List.mem_map.mpr ⟨r.toNat, List.mem_range.mpr (by omega), by show ((r.toNat : Nat) : Int) = r; omega⟩
theorem mk_flat {h r : Int} (a : 0 ≤ r) (b : r < h + 1) : r - 1 ∈ marksAt h 0 := by
  unfold marksAt
  rw [if_neg (by decide), if_pos rfl]
  exact List.mem_map.mpr ⟨r.toNat, List.mem_range.mpr (by omega), by show ((r.toNat : Nat) : Int) - 1 = r - 1; omega⟩
theorem mk_up {h : Int} : (-1 : Int) ∈ marksAt h 1 := by
  unfold marksAt
  rw [if_neg (by decide), if_neg (by decide)]
  exact List.mem_singleton.mpr rfl
end Mk
namespace Rs
open PySem L2 Bs Fq LamX Pg RZ Mk Dd
abbrev sDW : Stmt := top 81
abbrev NDw : List Str := ["state", "many", "way", "marks_so", "here", "left", "some", "step", "mark"]
def spDW (K : PySem.W.Frag) : Sp := fun vs H Q _ => ∃ (p c l : Addr) (n : Nat) (t : Int) (k : Nat), vs = [.ref p, .int (k : Nat)] ∧ Sta H p c l n t ∧ t ≤ 9000 ∧ k ≤ 7 ∧
  ∀ (H' : Hp) (u : V) (d : Dw) (t' : Int), d ∈ drawnTo k k → Sta H' p c l n t' → t' ≤ t + 14 → Kp p l H H' → W2 K H' u d.1 d.2.1 → Q u H'
theorem Kp.off2 {H0 H : Hp} {p l D : Addr} {o : HO} (k : Kp p l H0 H) (h : H0 D = none) : Kp p l H0 (upd H D o) := fun b o' e m1 m2 => (upd_ne (ne_of_none e h)).trans (k b o' e m1 m2)
section
variable {P : Program} {w : World} {K : PySem.W.Frag} {mg : Str → Option Value} {base : Heap} {f : Addr} {fd : FuncData}
theorem scDw : FnScope NDw ["state", "many"] (defScope sDW) := ⟨rfl, rfl, rfl, by decide +kernel, rfl, by decide +kernel, by decide +kernel⟩
theorem ok_dw (F : Fun K "_law_drawn_way" "_law_drawn_way" sDW f fd) (T : Blt mg) (DR : Cal P w K mg base 2 "_law_draw" spDraw) : FnOk P w K mg base CX0 3 f fd ["state", "many"] (spDW K) := by
  refine F.ok scDw (fun vs H Q E h => ?_) (fun cdv A outer s H vs Q E hr h => ?_)
  · obtain ⟨p, c, l, n, t, k, rfl, _⟩ := h
    rfl
  · obtain ⟨p, c, l, n, t, k, rfl, S, t9, k7, kk⟩ := h
    refine ⟨_, pss_cons (ps_asg (pe_tup (pa_cons (pe_lst pa_nil) (pa_cons (pe_lst pa_nil) (pa_cons pe_int pa_nil)))) (pg_tup rfl (pgs_cons (pg_name (i := 2) scDw.nd rfl (Or.inl rfl)) (pgs_cons (pg_name (i := 3) scDw.nd rfl (Or.inl rfl)) (pgs_cons (pg_name (i := 4) scDw.nd rfl (Or.inr rfl)) pgs_nil)))))
      (C8.pss_cut (ps_for PassesOwn.never rfl (pi_range3 rfl T.range (pa_cons (pe_op op_sub (pv 1) pe_int) (pa_cons (pe_un un_neg pe_int) (pa_cons (pe_un un_neg pe_int) pa_nil)))) (pg_name (i := 5) scDw.nd rfl (Or.inr rfl))
      (C8.pss_cut (ps_setLc (i := 6) (own := [("step", 7)]) (g := gName 7) rfl scDw.nd rfl rfl (sw_true rfl rfl rfl (by decide +kernel)) (pi_tup (pd_tup (pd_cons pd_neg (pd_cons pd_int (pd_cons pd_int pd_nil))))) (blkOk_by (N := NDw) (sc := defScope sDW) (by decide +kernel))
          (fun _ _ _ _ _ => pg_name (i := 7) scDw.nd rfl (Or.inl rfl)) (fun _ _ _ _ _ => pts_one (pt_chain op_le op_le pe_int (pe_op (r := rAdd) op_add (pv 4) (pv 7)) (pv 5)))
          (fun _ _ _ _ _ => (pv 7)))
        (C8.pss_cut (ps_set (i := 7) scDw.nd rfl (Or.inl rfl) (pe_ix ix_list (pv 6) (pe_n DR hr (by decide) (by rfl) (pa_cons (pv 0) (pa_cons (pe_callB call_len_seq (by rfl) T.len (by decide +kernel) (pa_cons (pv 6) pa_nil)) pa_nil))) (fun _ _ => rfl)))
        (pss_cons (ps_set (i := 8) scDw.nd rfl (Or.inl rfl) (pe_un un_neg pe_int))
        (C8.pss_cut (ps_if (pt_cmpR op_eq (pv 7) (pe_un un_neg pe_int) (nomark _)) (pss_one (ps_set (i := 8) scDw.nd rfl (Or.inl rfl) (pe_n DR hr (by decide) (by rfl) (pa_cons (pv 0) (pa_cons (pv 4) pa_nil))))) (pss_one (ps_if (pt_cmpR op_eq (pv 7) pe_int (nomark _)) (pss_one (ps_set (i := 8) scDw.nd rfl (Or.inl rfl) (pe_op op_sub (pe_n DR hr (by decide) (by rfl) (pa_cons (pv 0) (pa_cons (pe_op op_add (pv 4) pe_int) pa_nil))) pe_int))) pss_nil)))
        (pss_cons (ps_expr (pe_bm PySem.F.plainAttrs_list PySem.F.slot_list_append PySem.F.type_list_append mt_append (pv 3) (pa_cons (pv 8) pa_nil)))
        (pss_one (ps_asg (pe_tup (pa_cons (pe_op op_cat (pv 2) (pe_lst (pa_cons (pv 7) pa_nil))) (pa_cons (pe_op op_add (pv 4) (pv 7)) pa_nil))) (pg_tup rfl (pgs_cons (pg_name (i := 2) scDw.nd rfl (Or.inl rfl)) (pgs_cons (pg_name (i := 4) scDw.nd rfl (Or.inr rfl)) pgs_nil)))))))))))
      (pss_one (ps_ret (pe_tup (pa_cons (pe_callTy call_tuple_of (by rfl) T.tuple (by decide +kernel) (pa_cons (pv 2) pa_nil)) (pa_cons (pe_callTy call_tuple_of (by rfl) T.tuple (by decide +kernel) (pa_cons (pv 3) pa_nil)) pa_nil)))))), ?_⟩
    have np : ∀ {D : Addr}, H D = none → p ≠ D ∧ c ≠ D ∧ l ≠ D := fun h => by
      obtain ⟨cs, c1, _⟩ := S.cs
      obtain ⟨zs, l1, _⟩ := S.ls
      exact ⟨ne_fresh S.d h, ne_fresh c1 h, ne_fresh l1 h⟩
    refine ⟨(by show 0 ≤ sizeLine; decide), fun LW hW => ⟨(by show 0 ≤ sizeLine; decide), fun LM hM => ⟨(by show 3 ≤ sizeLine; decide), fun T0 hT => ?_⟩⟩⟩
    have sW := same_new (o := .lst []) hW
    have sM := same_new (o := .lst []) hM
    have sT := same_new (o := .tup [.ref LW, .ref LM, .int 0]) hT
    have gW := sT _ _ (sM _ _ (upd_same (H := H) (a := LW) (o := .lst [])))
    have gM := sT _ _ (upd_same (H := upd H LW (.lst [])) (a := LM) (o := .lst []))
    have hM' := none_back sW hM
    have hWM : LW ≠ LM := ne_fresh upd_same hM
    have s0 := (sW.trans sM).trans sT
    obtain ⟨m1, m2, m3⟩ := np hM'
    obtain ⟨w1, w2, w3⟩ := np hW
    refine ⟨T0, _, rfl, SqT.of upd_same, rfl, _, _, rfl, _, _, rfl, _, _, rfl, rfl, ?_⟩
    generalize upd (upd (upd H LW (.lst [])) LM (.lst [])) T0 (.tup [.ref LW, .ref LM, .int 0]) = H0 at *
    refine ⟨fun σ H1 => ∃ (LW : Addr) (d : Dw) (t' : Int), d ∈ drawnTo k k ∧ Sta H1 p c l n t' ∧ t' ≤ t + 14 ∧ Kp p l H H1 ∧ H1 LW = some (.lst (d.1.map V.int)) ∧ H1 LM = some (.lst (d.2.1.map V.int)) ∧ ∃ v4 v5 v6 v7 v8, σ = [some (.ref p), some (.int (k : Nat)), some (.ref LW), some (.ref LM), v4, v5, v6, v7, v8], ?_, ?_⟩
    · refine ⟨_, rfl, _, _, rfl, rfl, _, rfl, _, rfl, _, _, _, k, rfl, ?_, ?_⟩
      · have := RgC.neg (i := (k : Int) - 1) (j := -1) (by omega) (by omega) (by omega) (by omega)
        rw [show ((k : Int) - 1 - -1).toNat = k by omega] at this
        exact this
      refine for_rangeC (n := k) (fun i σ H1 => ∃ (LW : Addr) (d : Dw) (t' : Int), d ∈ drawnTo k i ∧ Sta H1 p c l n t' ∧ t' ≤ t + 2 * (i : Int) ∧ Kp p l H H1 ∧ H1 LW = some (.lst (d.1.map V.int)) ∧ H1 LM = some (.lst (d.2.1.map V.int)) ∧ LW ≠ LM ∧ LW ≠ p ∧ LW ≠ l ∧ ∃ v5 v6 v7 v8, σ = [some (.ref p), some (.int (k : Nat)), some (.ref LW), some (.ref LM), some (.int d.2.2), v5, v6, v7, v8])
        ⟨LW, ([], [], 0), t, List.mem_singleton.mpr rfl, S.mono s0, by omega, Kp.of s0, gW, gM, hWM, Ne.symm w1, Ne.symm w3, none, none, none, none, rfl⟩ ?_ ?_
      · rintro i σ H1 hi ⟨LW, d, t', dm, S1, tt, k1, gW, gM, nWM, nWp, nWl, v5, v6, v7, v8, rfl⟩
        obtain ⟨d1, d2, d3, d4, d5⟩ := D_ok k7 hi dm
        have el : (k : Int) - 1 + (i : Int) * -1 = ((k - 1 - i : Nat) : Int) := by omega
        rw [el]
        refine ⟨fun σ H2 => ∃ LS : Addr, l ≠ LS ∧ Same H1 H2 ∧ H2 LS = some (.lst ((some_ d.2.2 (k - 1 - i)).map V.int)) ∧ σ = [some (.ref p), some (.int (k : Nat)), some (.ref LW), some (.ref LM), some (.int d.2.2), some (.int ((k - 1 - i : Nat) : Int)), some (.ref LS), v7, v8], ?_, ?_⟩
        · intro v H2 s2 dv
          obtain ⟨ta, rfl, st⟩ := dp_it (w := [-1, 0, 1]) dv
          refine ⟨ta, rfl, ⟨_, st⟩, fun D hD => lc_tup (K := K) (a := ta) (xs := [-1, 0, 1].map V.int) (fun j H3 => Same H2 H3 ∧ H3 D = some (.lst ((([-1, 0, 1].take j).filter (someB d.2.2 ((k - 1 - i : Nat) : Int))).map V.int))) ⟨same_new hD, upd_same⟩ (fun j H3 _ z => Bs.Same.t z.1 st) ?_ ?_⟩
          · rintro j x H3 hx ⟨s3, hD3⟩
            obtain ⟨y, hy, rfl⟩ := some_int hx
            have lf := List.length_filter_le (someB d.2.2 ((k - 1 - i : Nat) : Int)) (([-1, 0, 1] : List Int).take j)
            have lt := List.length_take_le' j ([-1, 0, 1] : List Int)
            have l3 : ([-1, 0, 1] : List Int).length = 3 := rfl
            have goF : someB d.2.2 ((k - 1 - i : Nat) : Int) y = false → Same H2 H3 ∧ H3 D = some (.lst ((([-1, 0, 1].take (j + 1)).filter (someB d.2.2 ((k - 1 - i : Nat) : Int))).map V.int)) := fun e => by
              refine ⟨s3, ?_⟩
              rw [hD3, take_one hy, List.filter_append, List.map_append, List.filter_cons_of_neg (by rw [e]; decide)]
              show _ = some (HO.lst (_ ++ []))
              rw [List.append_nil]
            refine ⟨rfl, ?_⟩
            refine ⟨_, rfl, _, rfl, _, _, rfl, rfl, _, _, rfl, rfl, _, rfl, ?_⟩
            refine ite2 (fun c1 => ?_) (fun c1 => ⟨_, rfl, iteF (goF (by unfold someB; rw [Bool.eq_false_iff.mpr c1, Bool.false_and]))⟩)
            refine ⟨_, rfl, _, _, rfl, rfl, _, rfl, ?_⟩
            refine ite2 (fun c2 => ?_) (fun c2 => goF (by unfold someB; rw [Bool.eq_false_iff.mpr c2, Bool.and_false]))
            refine ⟨_, rfl, _, hD3, small1000 (by rw [List.length_map]; omega), fun b' o e => (upd_ne (ne_of_none e hD)).trans (s3 b' o e), ?_⟩
            rw [upd_same, take_one hy, List.filter_append, List.map_append, List.filter_cons_of_pos (by unfold someB; rw [c1, c2]; rfl)]
            rfl
          · rintro H3 ⟨s3, hD3⟩
            obtain ⟨zs, l1, _⟩ := S1.ls
            exact ⟨D, ne_fresh (s2 _ _ l1) hD, s2.trans s3, hD3, rfl⟩
        rintro σ H2 ⟨LS, nSl, s2, gS, rfl⟩
        have S2 := S1.mono s2
        have gW2 := s2 _ _ gW
        have gM2 := s2 _ _ gM
        have k2 := k1.trans (Kp.of s2)
        have gl : 0 < (some_ d.2.2 (k - 1 - i)).length := List.length_pos_iff.mpr d5
        have gl3 : (some_ d.2.2 (k - 1 - i)).length ≤ 3 := List.length_filter_le _ _
        refine ⟨fun σ H3 => ∃ s : Int, s ∈ some_ d.2.2 (k - 1 - i) ∧ Sta H3 p c l n (t' + 1) ∧ Kp p l H H3 ∧ H3 LW = some (.lst (d.1.map V.int)) ∧ H3 LM = some (.lst (d.2.1.map V.int)) ∧ σ = [some (.ref p), some (.int (k : Nat)), some (.ref LW), some (.ref LM), some (.int d.2.2), some (.int ((k - 1 - i : Nat) : Int)), some (.ref LS), some (.int s), v8], ?_, ?_⟩
        · refine ⟨_, rfl, _, rfl, _, rfl, LS, _, rfl, .inl (SqL.of gS), p, c, l, n, t', _, rfl, S2, by omega, by rw [List.length_map]; omega, by rw [List.length_map]; omega, fun H3 r r0 r1 S3 k3 => ?_⟩
          obtain ⟨r', rfl⟩ := Int.eq_ofNat_of_zero_le r0
          rw [List.length_map] at r1
          have hg : (some_ d.2.2 (k - 1 - i))[r']? = some ((some_ d.2.2 (k - 1 - i))[r']'(by omega)) := List.getElem?_eq_getElem (by omega)
          refine ⟨LS, _, _, _, rfl, rfl, k3.lst S2 (SqL.of gS) (Ne.symm nSl), atI_nat (by rw [List.getElem?_map, hg]; rfl), ?_⟩
          exact ⟨_, List.mem_of_getElem? hg, S3, k2.trans k3, k3 _ _ gW2 nWp nWl, k3 _ _ gM2 (Ne.symm m1) (Ne.symm m3), rfl⟩
        rintro σ H3 ⟨s, ms, S3, k3, gW3, gM3, rfl⟩
        obtain ⟨sv, sh⟩ := some_in ms
        refine ⟨_, rfl, ?_⟩
        refine ⟨fun σ H4 => ∃ (m t2 : Int), m ∈ marksAt d.2.2 s ∧ Sta H4 p c l n t2 ∧ t2 ≤ t' + 2 ∧ Kp p l H H4 ∧ H4 LW = some (.lst (d.1.map V.int)) ∧ H4 LM = some (.lst (d.2.1.map V.int)) ∧ σ = [some (.ref p), some (.int (k : Nat)), some (.ref LW), some (.ref LM), some (.int d.2.2), some (.int ((k - 1 - i : Nat) : Int)), some (.ref LS), some (.int s), some (.int m)], ?_, ?_⟩
        · refine ⟨_, rfl, _, rfl, rfl, _, rfl, ?_⟩
          refine ite2 (fun c1 => ?_) (fun c1 => ?_)
          · have c1 : s = -1 := by simpa using c1
            subst c1
            refine ⟨_, rfl, _, rfl, p, c, l, n, t' + 1, d.2.2, rfl, S3, by omega, by omega, by omega, fun H4 r r0 r1 S4 k4 => ?_⟩
            exact ⟨r, _, mk_down r0 r1, S4, by omega, k3.trans k4, k4 _ _ gW3 nWp nWl, k4 _ _ gM3 (Ne.symm m1) (Ne.symm m3), rfl⟩
          · have c1 : ¬ s = -1 := by simpa using c1
            refine ⟨_, rfl, rfl, _, rfl, ?_⟩
            refine ite2 (fun c2 => ?_) (fun c2 => ?_)
            · have c2 : s = 0 := by simpa using c2
              subst c2
              refine ⟨_, rfl, _, rfl, _, _, rfl, rfl, p, c, l, n, t' + 1, d.2.2 + 1, rfl, S3, by omega, by omega, by omega, fun H4 r r0 r1 S4 k4 => ?_⟩
              exact ⟨_, _, rfl, rfl, r - 1, _, mk_flat r0 r1, S4, by omega, k3.trans k4, k4 _ _ gW3 nWp nWl, k4 _ _ gM3 (Ne.symm m1) (Ne.symm m3), rfl⟩
            · have c2 : ¬ s = 0 := by simpa using c2
              have e1 : s = 1 := by omega
              subst e1
              exact ⟨-1, _, mk_up, S3, by omega, k3, gW3, gM3, rfl⟩
        rintro σ H4 ⟨m, t2, mm, S4, tt2, k4, gW4, gM4, rfl⟩
        refine ⟨_, rfl, .inl ⟨rfl, _, SqL.of gM4⟩, _, rfl, LM, _, _, rfl, rfl, gM4, small1000 (by rw [List.length_map]; omega), ?_⟩
        have S5 := S4.off gM4 m2 m3 (o := .lst (d.2.1.map V.int ++ [V.int m]))
        have k5 := Kp.off2 k4 hM' (o := .lst (d.2.1.map V.int ++ [V.int m]))
        have gM5 := upd_same (H := H4) (a := LM) (o := .lst (d.2.1.map V.int ++ [V.int m]))
        have gW5 := (upd_ne nWM (H := H4) (o := .lst (d.2.1.map V.int ++ [V.int m]))).trans gW4
        generalize upd H4 LM (.lst (d.2.1.map V.int ++ [V.int m])) = H5 at *
        refine ⟨_, rfl, _, rfl, (by show 1 ≤ sizeLine; decide), fun l2 hl2 => ?_⟩
        have s6 := same_new (o := .lst [.int s]) hl2
        refine ⟨LW, l2, _, _, rfl, rfl, s6 _ _ gW5, upd_same, small1000' (by rw [List.length_map]; show _ + 1 ≤ 1000; omega), fun p3 hp3 => ?_⟩
        have s7 := same_new (o := .lst (d.1.map V.int ++ [V.int s])) hp3
        refine ⟨_, rfl, _, rfl, _, _, rfl, rfl, (by show 2 ≤ sizeLine; decide), fun T hT => ?_⟩
        have s8 := same_new (o := .tup [.ref p3, .int (d.2.2 + s)]) hT
        have s57 := s6.trans s7
        have s58 := s57.trans s8
        refine ⟨T, _, rfl, SqT.of upd_same, rfl, _, _, rfl, _, _, rfl, rfl, ?_⟩
        obtain ⟨zs, l1, _⟩ := S5.ls
        refine ⟨p3, (d.1 ++ [s], d.2.1 ++ [m], d.2.2 + s), t2, D_succ dm ms mm, S5.mono s58, by omega, k5.trans (Kp.of s58), ?_, ?_, Ne.symm (ne_fresh (s6 _ _ gM5) hp3), Ne.symm (ne_fresh (s6 _ _ S5.d) hp3), Ne.symm (ne_fresh (s6 _ _ l1) hp3), _, _, _, _, rfl⟩
        · rw [List.map_append]
          exact s8 _ _ upd_same
        · rw [List.map_append]
          exact s58 _ _ gM5
      · rintro σ H1 ⟨LW, d, t', dm, S1, tt, k1, gW, gM, nWM, nWp, nWl, v5, v6, v7, v8, rfl⟩
        exact ⟨LW, d, t', dm, S1, by omega, k1, gW, gM, _, _, _, _, _, rfl⟩
    rintro σ H1 ⟨LW, d, t', dm, S1, tt, k1, gW, gM, v4, v5, v6, v7, v8, rfl⟩
    refine ⟨_, rfl, LW, _, rfl, .inl ⟨SqL.of gW, fun q hq => ?_⟩⟩
    have s2 := same_new (o := .tup (d.1.map V.int)) hq
    refine ⟨_, rfl, LM, _, rfl, .inl ⟨SqL.of (s2 _ _ gM), fun r hr => ?_⟩⟩
    have s3 := same_new (o := .tup (d.2.1.map V.int)) hr
    refine ⟨(by show 2 ≤ sizeLine; decide), fun z hz => ?_⟩
    have s4 := same_new (o := .tup [.ref q, .ref r]) hz
    have s24 := s2.trans (s3.trans s4)
    exact kk _ _ d t' dm (S1.mono s24) tt (k1.trans (Kp.of s24)) ⟨z, _, _, rfl, SqT.of upd_same, ⟨q, rfl, Bs.Same.t (s3.trans s4) (SqT.of upd_same)⟩, ⟨r, rfl, Bs.Same.t s4 (SqT.of upd_same)⟩⟩
end
end Rs


set_option Elab.async false
set_option linter.all false
set_option maxRecDepth 100000
set_option maxHeartbeats 1000000
namespace Mk
open Pg
def numB (p : Prt) : Bool := p.all fun b => b.all fun x => decide (x.natAbs < 16)
theorem all_N : ∀ n ∈ [0, 1, 2, 3, 4, 5, 6], (lawRows n).all numB = true := by decide +kernel
structure Good (p : Prt) : Prop where
  va : validB p = true
  sz : sizeB p = true
  t7 : total p ≤ 7
  ho : homesOk p = true
  lo : lok p = true
  ew : mwS p = lwS p
  em : mwM p = lwM p
  sw : sizeM (lwS p) = true
  sm : sizeM (lwM p) = true
  sr : srtB p = true
  nb : numB p = true
  wo : wayOk (lwS p) = true
  mo : mksOk (lwS p) (lwM p) = true
  po : pok (lwS p) (lwM p) = true
  pt : (ptd (lwS p) (lwM p) (total p)).1 = p
  fr : lawFree p = noPos (lwM p)
  st : lawKind .str p = ((lowS (lwS p) (lwM p) (total p)).2 && noPos (lwM p))
theorem lw_len (p : Prt) : (lwS p).length = total p ∧ (lwM p).length = total p := lmk_len p (total p)
theorem good_of {n : Nat} (hn : n ≤ 6) {p : Prt} (h : p ∈ lawRows n) : Good p := by
  have hm : n ∈ [0, 1, 2, 3, 4, 5, 6] := by simp; omega
  have a := List.all_eq_true.mp (all_M n hm) p h
  have b := List.all_eq_true.mp (all_S n hm) p h
  have c := List.all_eq_true.mp (all_N n hm) p h
  simp only [oneM, twoM, threeM, Bool.and_eq_true, decide_eq_true_eq, beq_iff_eq] at a
  obtain ⟨⟨a1, a2, a3, a4, a5, a6, a7, a8, a9⟩, ⟨b1, b2, b3, b4, b5, b6⟩, c1, c2⟩ := a
  refine ⟨a1, a2, a3, ?_, a5, a6, a7, a8, a9, b, c, b1, b2, b3, b4, c1, c2⟩
  unfold homesOk
  rw [Bool.and_eq_true, decide_eq_true_eq]
  exact ⟨a3, a4⟩
end Mk
namespace Rs
open PySem L2 Bs Fq LamX Pg RZ Mk Dd
theorem ftI {w : List Int} (l : w.length ≤ 8) (h : ∀ x ∈ w, x.natAbs < 16) : ftB 1 2808 (dI w) = true := by
  refine ft_tup (k := 0) (n := 350) (fun d hd => ?_) (by rw [List.length_map]; omega)
  obtain ⟨x, hx, rfl⟩ := List.mem_map.mp hd
  exact ftB_int (Nat.lt_of_lt_of_le (h x hx) (show 2 ^ 4 ≤ 2 ^ 350 from Nat.pow_le_pow_right (by decide) (by decide)))
theorem sh_dW {p : Prt} (sz : sizeB p = true) (nb : numB p = true) : Sh.Ok (dW p) := by
  obtain ⟨l8, bl⟩ := size_blk sz
  refine ft_ok (k := 2) (n := 22472) (ft_tup (k := 1) (n := 2808) (fun d hd => ?_) ?_) (by decide) (by decide)
  · obtain ⟨b, hb, rfl⟩ := List.mem_map.mp hd
    refine ftI (bl b hb).1 fun x hx => ?_
    unfold numB at nb
    rw [List.all_eq_true] at nb
    have := nb b hb
    rw [List.all_eq_true] at this
    exact of_decide_eq_true (this x hx)
  · rw [List.length_map]
    omega
theorem size_m {w : List Int} (h : sizeM w = true) : w.length ≤ 8 ∧ ∀ x ∈ w, x.natAbs < 16 := by
  unfold sizeM at h
  rw [Bool.and_eq_true, decide_eq_true_eq, List.all_eq_true] at h
  exact ⟨h.1, fun x hx => of_decide_eq_true (h.2 x hx)⟩
def dW2 (w ms : List Int) : PyData := .tuple [dI w, dI ms]
theorem sh_dW2 {w ms : List Int} (h1 : sizeM w = true) (h2 : sizeM ms = true) : Sh.Ok (dW2 w ms) := by
  obtain ⟨a1, a2⟩ := size_m h1
  obtain ⟨b1, b2⟩ := size_m h2
  refine ft_ok (k := 2) (n := 5618) (ft_tup (k := 1) (n := 2808) (fun d hd => ?_) (by show 2809 * 2 ≤ 5618; decide)) (by decide) (by decide)
  rcases List.mem_cons.mp hd with rfl | hd
  · exact ftI a1 a2
  · rw [List.mem_singleton.mp hd]
    exact ftI b1 b2
theorem W2.dp {K : PySem.W.Frag} {H : Hp} {v : V} {w ms : List Int} (h : W2 K H v w ms) : Dp K H v (dW2 w ms) := by
  obtain ⟨a, x, y, rfl, s, ⟨b, rfl, sb⟩, ⟨c, rfl, sc⟩⟩ := h
  exact .tup s (.cons (.tup sb (dpInts w)) (.cons (.tup sc (dpInts ms)) .nil))
def posL (ms : List Int) (i : Nat) : List V := ((((ms.take i).filter fun m => decide (0 < m)).map fun _ => (1 : Int)).map V.int)
theorem posL_empty (ms : List Int) : ((((ms.take ms.length).filter fun m => decide (0 < m)).map fun _ => (1 : Int))).isEmpty = noPos ms := by
  rw [List.take_length]
  unfold noPos
  rw [List.isEmpty_map]
abbrev sOR : Stmt := top 82
abbrev NOr : List Str := ["parting", "way", "marks_so", "here", "low", "step", "mark"]
def spOR (K : PySem.W.Frag) : Sp := fun vs H Q _ => ∃ (v : V) (p : Prt), vs = [v] ∧ Pt K H v p ∧ Good p ∧ ∀ H', Same H H' → Q (.bl true) H'
section
variable {P : Program} {w : World} {K : PySem.W.Frag} {mg : Str → Option Value} {base : Heap} {f : Addr} {fd : FuncData}
theorem scOr : FnScope NOr ["parting"] (defScope sOR) := ⟨rfl, rfl, rfl, by decide +kernel, rfl, by decide +kernel, by decide +kernel⟩
theorem ok_or (F : Fun K "_law_one_right" "_law_one_right" sOR f fd) (T : Blt mg) (zp : mg "zip" = none) (LM : Cal P w K mg base 2 "_law_marked" (spLM K)) (MW : Cal P w K mg base 6 "marked_way" (spMW K)) (PO : Cal P w K mg base 5 "parting_of" (spPO K)) (LK : Cal P w K mg base 3 "_law_is_kind" (spLKind K)) :
    FnG P w K mg base 7 f fd ["parting"] (spOR K) := by
  refine FnG.ok F scOr (fun vs H Q E h => ?_) (fun cdv A outer s H vs Q E hgd hr h => ?_)
  · obtain ⟨v, p, rfl, _⟩ := h
    rfl
  · obtain ⟨v, p, rfl, pp, G, kk⟩ := h
    obtain ⟨pa, _, rfl, _⟩ := id pp
    obtain ⟨L1, L2⟩ := lw_len p
    have t7 := G.t7
    have shW := sh_dW2 G.sw G.sm
    have shP := sh_dW G.sz G.nb
    refine ⟨_, C8.pss_cut (ps_asg (pe_n LM hr (by decide) (by rfl) (pa_cons (pv 0) pa_nil)) (pg_tup rfl (pgs_cons (pg_name (i := 1) scOr.nd rfl (Or.inl rfl)) (pgs_cons (pg_name (i := 2) scOr.nd rfl (Or.inl rfl)) pgs_nil))))
      (C8.pss_cut (ps_if (PW.pt (pw_or (pt_cmpR op_ne (pe_callB (call_repr hgd hr.units) (by rfl) T.repr (by decide +kernel) (pa_cons (pe_n MW hr (by decide) (by rfl) (pa_cons (pv 0) pa_nil)) pa_nil)) (pe_callB (call_repr hgd hr.units) (by rfl) T.repr (by decide +kernel) (pa_cons (pe_tup (pa_cons (pv 1) (pa_cons (pv 2) pa_nil))) pa_nil)) (nomark _)) (pw_or1 (pt_cmpR op_ne (pe_callB (call_repr hgd hr.units) (by rfl) T.repr (by decide +kernel) (pa_cons (pe_n PO hr (by decide) (by rfl) (pa_cons (pv 1) (pa_cons (pv 2) pa_nil))) pa_nil)) (pe_callB (call_repr hgd hr.units) (by rfl) T.repr (by decide +kernel) (pa_cons (pv 0) pa_nil)) (nomark _))))) (pss_one (ps_ret pe_bl)) pss_nil)
      (C8.pss_cut (ps_if (pt_cmpR op_ne (pe_n LK hr (by decide) (by rfl) (pa_cons pe_str (pa_cons (pv 0) pa_nil))) (pe_cmpR (op_eqD hr.units) (pe_lc (own := [("mark", 6)]) (g := gName 6) rfl scOr.nd (pi_tup (pv 2)) (blkOk_by (N := NOr) (sc := defScope sOR) (by decide +kernel))
          (fun _ _ _ _ _ => pg_name (i := 6) scOr.nd rfl (Or.inl rfl)) (fun _ _ _ _ _ => pts_one (pt_cmpR op_gt (pv 6) pe_int (nomark _)))
          (fun _ _ _ _ _ => pe_int)) (pe_lst pa_nil) (nomark _)) (nomark _)) (pss_one (ps_ret pe_bl)) pss_nil)
      (pss_cons (ps_asg (pd_tup (pd_cons pd_int (pd_cons pd_bl pd_nil))) (pg_tup rfl (pgs_cons (pg_name (i := 3) scOr.nd rfl (Or.inl rfl)) (pgs_cons (pg_name (i := 4) scOr.nd rfl (Or.inl rfl)) pgs_nil))))
      (pss_cons (ps_for PassesOwn.never rfl (pi_zipA (by rfl) zp (pa_cons (pv 1) (pa_cons (pv 2) pa_nil))) (pg_tup rfl (pgs_cons (pg_name (i := 5) scOr.nd rfl (Or.inl rfl)) (pgs_cons (pg_name (i := 6) scOr.nd rfl (Or.inl rfl)) pgs_nil)))
      (C8.pss_cut (ps_set (i := 4) scOr.nd rfl (Or.inl rfl) (pe_and (pv 4) (pe_and (pe_cmpR op_lt (pe_op op_add (pv 3) (pv 5)) pe_int (nomark _)) (pe_one (pe_not (pe_and (pe_cmpR op_eq (pv 5) pe_int (nomark _)) (pe_and (pe_cmpR op_eq (pv 6) (pe_un un_neg pe_int) (nomark _)) (pe_one (pe_cmpR op_eq (pv 3) pe_int (nomark _))))))))))
        (pss_one (ps_set (i := 3) scOr.nd rfl (Or.inl rfl) (pe_op op_add (pv 3) (pv 5))))))
      (pss_one (ps_ret (pe_cmpR op_eq (pe_n LK hr (by decide) (by rfl) (pa_cons pe_str (pa_cons (pv 0) pa_nil))) (pe_and (pv 4) (pe_one (pe_cmpR (op_eqD hr.units) (pe_lc (own := [("mark", 6)]) (g := gName 6) rfl scOr.nd (pi_tup (pv 2)) (blkOk_by (N := NOr) (sc := defScope sOR) (by decide +kernel))
          (fun _ _ _ _ _ => pg_name (i := 6) scOr.nd rfl (Or.inl rfl)) (fun _ _ _ _ _ => pts_one (pt_cmpR op_gt (pv 6) pe_int (nomark _)))
          (fun _ _ _ _ _ => pe_int)) (pe_lst pa_nil) (nomark _)))) (nomark _)))))))), ?_⟩
    refine ⟨fun σ H1 => Same H H1 ∧ ∃ x y, SqT K H1 x ((lwS p).map V.int) ∧ SqT K H1 y ((lwM p).map V.int) ∧ σ = [some (.ref pa), some (.ref x), some (.ref y), none, none, none, none], ?_, ?_⟩
    · refine ⟨_, rfl, .ref pa, p, rfl, pp, G.sz, G.ho, G.lo, fun H1 u s1 w2 => ?_⟩
      obtain ⟨a, x, y, rfl, sa, ⟨x', rfl, sx⟩, ⟨y', rfl, sy⟩⟩ := w2
      exact ⟨a, _, rfl, sa, rfl, _, _, rfl, _, _, rfl, rfl, s1, x', y', sx, sy, rfl⟩
    rintro σ H1 ⟨s1, x, y, sx, sy, rfl⟩
    refine ⟨fun σ H2 => Same H1 H2 ∧ σ = [some (.ref pa), some (.ref x), some (.ref y), none, none, none, none], ?_, ?_⟩
    · refine ⟨_, rfl, .ref pa, p, rfl, pp.mono s1, G.va, G.sz, G.sr, t7, fun H2 u s2 w2 => ?_⟩
      rw [G.ew, G.em] at w2
      obtain ⟨ua, _, _, rfl, _⟩ := id w2
      refine ⟨ua, _, rfl, w2.dp, shW.s, shW.n, shW.dep, shW.l, ?_⟩
      refine ⟨_, rfl, _, rfl, (by show 2 ≤ sizeLine; decide), fun q hq => ?_⟩
      have s3 := same_new (o := .tup [.ref x, .ref y]) hq
      have s13 := s2.trans s3
      have d2 : Dp K (upd H2 q (.tup [.ref x, .ref y])) (.ref q) (dW2 (lwS p) (lwM p)) := .tup (SqT.of upd_same) (.cons (.tup (Bs.Same.t s13 sx) (dpInts _)) (.cons (.tup (Bs.Same.t s13 sy) (dpInts _)) .nil))
      generalize upd H2 q (.tup [.ref x, .ref y]) = H3 at *
      refine ⟨_, _, rfl, d2, shW.s, shW.n, shW.dep, shW.l, ?_⟩
      refine ⟨rfl, _, rfl, ?_⟩
      refine ite2 (fun c => by simp at c) (fun _ => ?_)
      refine ⟨_, rfl, _, rfl, .ref x, .ref y, _, _, rfl, ⟨x, rfl, Bs.Same.t s13 sx⟩, ⟨y, rfl, Bs.Same.t s13 sy⟩, G.wo, G.mo, G.po, fun H4 L s4 pl => ?_⟩
      rw [L1, G.pt] at pl
      refine ⟨_, _, rfl, pl.dp, shP.s, shP.n, shP.dep, shP.l, ?_⟩
      refine ⟨_, rfl, pa, _, rfl, (pp.mono (s1.trans (s13.trans s4))).dp, shP.s, shP.n, shP.dep, shP.l, ?_⟩
      refine ⟨rfl, _, rfl, ?_⟩
      refine ite2 (fun c => by simp at c) (fun _ => ?_)
      exact ⟨s13.trans s4, rfl⟩
    rintro σ H2 ⟨s2, rfl⟩
    have sx2 := Bs.Same.t s2 sx
    have sy2 := Bs.Same.t s2 sy
    have pp2 := pp.mono (s1.trans s2)
    have s02 := s1.trans s2
    clear sx sy
    refine ⟨fun σ H3 => Same H2 H3 ∧ σ = [some (.ref pa), some (.ref x), some (.ref y), none, none, none, none], ?_, ?_⟩
    · refine ⟨_, rfl, .free, .ref pa, p, rfl, pp2, G.sz, G.ho, fun H3 s3 => ?_⟩
      have sy3 := Bs.Same.t s3 sy2
      refine ⟨_, rfl, y, rfl, ⟨_, sy3⟩, fun D hD => lc_tup (K := K) (a := y) (xs := (lwM p).map V.int) (fun i H4 => Same H3 H4 ∧ H4 D = some (.lst (posL (lwM p) i))) ⟨same_new hD, upd_same⟩ (fun i H4 _ z => Bs.Same.t z.1 sy3) ?_ ?_⟩
      · rintro i u H4 hu ⟨s4, hD4⟩
        obtain ⟨m, hm, rfl⟩ := some_int hu
        have lf := List.length_filter_le (fun m : Int => decide (0 < m)) ((lwM p).take i)
        have lt := List.length_take_le' i (lwM p)
        refine ⟨rfl, ?_⟩
        refine ⟨_, rfl, _, _, rfl, rfl, _, rfl, ?_⟩
        refine ite2 (fun c => ?_) (fun c => ?_)
        · refine ⟨_, hD4, small1000 (by unfold posL; rw [List.length_map, List.length_map]; omega), fun b' o e => (upd_ne (ne_of_none e hD)).trans (s4 b' o e), ?_⟩
          unfold posL
          rw [upd_same, take_one hm, List.filter_append, List.filter_cons_of_pos (p := fun m : Int => decide (0 < m)) c, List.map_append, List.map_append]
          rfl
        · refine ⟨s4, ?_⟩
          rw [hD4]
          unfold posL
          rw [take_one hm, List.filter_append, List.filter_cons_of_neg (p := fun m : Int => decide (0 < m)) c]
          show _ = some (HO.lst (((_ ++ []) : List Int).map _ |>.map _))
          rw [List.append_nil]
      · rintro H4 ⟨s4, hD4⟩
        rw [List.length_map] at hD4
        refine ⟨(by show 0 ≤ sizeLine; decide), fun q hq => ?_⟩
        have s5 := same_new (o := .lst []) hq
        refine ⟨_, _, .lst (SqL.of (s5 _ _ hD4)) (dpInts _), .lst (SqL.of upd_same) .nil, shaped_ints _, rfl, ?_⟩
        rw [eqv_empty, posL_empty]
        refine ⟨rfl, _, rfl, ?_⟩
        rw [show lawKind .free p = noPos (lwM p) from G.fr]
        refine ite2 (fun c => by simp at c) (fun _ => ?_)
        exact ⟨s3.trans (s4.trans s5), rfl⟩
    rintro σ H3 ⟨s3, rfl⟩
    have sx3 := Bs.Same.t s3 sx2
    have sy3 := Bs.Same.t s3 sy2
    have s03 := s02.trans s3
    intro v0 H4 s4 d0
    obtain ⟨t0, u0, u1, rfl, st0, du0, du1⟩ := dp_two d0
    cases du0
    cases du1
    refine ⟨t0, _, rfl, st0, rfl, _, _, rfl, _, _, rfl, rfl, ?_⟩
    have sx4 := Bs.Same.t s4 sx3
    have sy4 := Bs.Same.t s4 sy3
    have s04 := s03.trans s4
    refine ⟨_, rfl, _, rfl, x, y, (lwS p).map V.int, (lwM p).map V.int, rfl, .inr ⟨sx4, sy4, ?_⟩⟩
    refine for_it (walk_zipT (xs := (lwS p).map V.int) (ys := (lwM p).map V.int) (n := total p) (by rw [List.length_map, List.length_map, L1, L2]; omega)) (fun i σ H5 => Same H4 H5 ∧ ∃ v5 v6, σ = [some (.ref pa), some (.ref x), some (.ref y), some (.int (lowS (lwS p) (lwM p) i).1), some (.bl (lowS (lwS p) (lwM p) i).2), v5, v6])
      ⟨fun _ _ z => z, none, none, rfl⟩ (fun i σ H5 _ z => ⟨Bs.Same.t z.1 sx4, Bs.Same.t z.1 sy4⟩) ?_ ?_
    · rintro i u σ H5 H6 hi ⟨s5, v5, v6, rfl⟩ ⟨T', x', y', rfl, hT, rfl, h1, h2⟩
      obtain ⟨a, ha, rfl⟩ := some_int h1
      obtain ⟨m, hm, rfl⟩ := some_int h2
      have s6 := same_new (o := .tup [.int a, .int m]) hT
      have s56 := s5.trans s6
      refine ⟨T', _, rfl, SqT.of upd_same, rfl, _, _, rfl, _, _, rfl, rfl, ?_⟩
      generalize upd H5 T' (.tup [.int a, .int m]) = H6 at *
      have ea : (lwS p).getD i 0 = a := by rw [List.getD_eq_getElem?_getD, ha]; rfl
      have em : (lwM p).getD i 0 = m := by rw [List.getD_eq_getElem?_getD, hm]; rfl
      have e1 : (lowS (lwS p) (lwM p) (i + 1)).1 = (lowS (lwS p) (lwM p) i).1 + a := by
        show _ + (lwS p).getD i 0 = _
        rw [ea]
      have e2 : (lowS (lwS p) (lwM p) (i + 1)).2 = ((lowS (lwS p) (lwM p) i).2 && (decide ((lowS (lwS p) (lwM p) i).1 + a < 2) && !(decide (a = 0) && (decide (m = -1) && decide ((lowS (lwS p) (lwM p) i).1 = 1))))) := by
        show (_ && (decide (_ + (lwS p).getD i 0 < 2) && !(decide ((lwS p).getD i 0 = 0) && (decide ((lwM p).getD i 0 = -1) && _)))) = _
        rw [ea, em]
      rw [e1, e2]
      generalize (lowS (lwS p) (lwM p) i).1 = h at *
      generalize (lowS (lwS p) (lwM p) i).2 = lo at *
      refine ⟨fun σ H7 => Same H4 H7 ∧ ∃ b, b = (lo && (decide (h + a < 2) && !(decide (a = 0) && (decide (m = -1) && decide (h = 1))))) ∧ σ = [some (.ref pa), some (.ref x), some (.ref y), some (.int h), some (.bl b), some (.int a), some (.int m)], ?_, ?_⟩
      · refine ⟨_, rfl, _, rfl, ?_⟩
        refine ite2 (fun c1 => ?_) (fun c1 => ⟨s56, false, by rw [Bool.eq_false_iff.mpr c1]; rfl, rfl⟩)
        refine ⟨_, rfl, _, rfl, _, _, rfl, rfl, _, _, rfl, rfl, _, rfl, ?_⟩
        refine ite2 (fun c2 => ?_) (fun c2 => ⟨s56, _, by rw [c1, Bool.eq_false_iff.mpr c2]; rfl, rfl⟩)
        rw [c1, c2]
        refine ⟨_, rfl, rfl, _, rfl, ?_⟩
        refine ite2 (fun c3 => ?_) (fun c3 => ?_)
        · have c3 : a = 0 := by simpa using c3
          refine ⟨_, rfl, _, rfl, rfl, _, rfl, ?_⟩
          refine ite2 (fun c4 => ?_) (fun c4 => ?_)
          · have c4 : m = -1 := by simpa using c4
            refine ⟨_, rfl, rfl, _, rfl, s56, _, ?_, rfl⟩
            subst c3 c4
            by_cases q : h = 1
            · subst q; rfl
            · simp [q]
          · have c4 : ¬ m = -1 := by simpa using c4
            refine ⟨_, rfl, s56, _, ?_, rfl⟩
            simp [c4]
        · have c3 : ¬ a = 0 := by simpa using c3
          refine ⟨_, rfl, s56, _, ?_, rfl⟩
          simp [c3]
      rintro σ H7 ⟨s7, b, rfl, rfl⟩
      exact ⟨_, rfl, _, rfl, _, _, rfl, rfl, s7, _, _, rfl⟩
    · rintro σ H5 ⟨s5, v5, v6, rfl⟩
      have s05 := s04.trans s5
      have sy5 := Bs.Same.t s5 sy4
      refine ⟨_, rfl, .str, .ref pa, p, rfl, pp.mono s05, G.sz, G.ho, fun H6 s6 => ?_⟩
      have gs := G.st
      refine ⟨_, rfl, _, rfl, ?_⟩
      refine ite2 (fun c => ?_) (fun c => ?_)
      · rw [c, Bool.true_and] at gs
        have sy6 := Bs.Same.t s6 sy5
        refine ⟨_, rfl, y, rfl, ⟨_, sy6⟩, fun D hD => lc_tup (K := K) (a := y) (xs := (lwM p).map V.int) (fun i H4 => Same H6 H4 ∧ H4 D = some (.lst (posL (lwM p) i))) ⟨same_new hD, upd_same⟩ (fun i H4 _ z => Bs.Same.t z.1 sy6) ?_ ?_⟩
        · rintro i u H7 hu ⟨s7, hD7⟩
          obtain ⟨m, hm, rfl⟩ := some_int hu
          have lf := List.length_filter_le (fun m : Int => decide (0 < m)) ((lwM p).take i)
          have lt := List.length_take_le' i (lwM p)
          refine ⟨rfl, ?_⟩
          refine ⟨_, rfl, _, _, rfl, rfl, _, rfl, ?_⟩
          refine ite2 (fun c => ?_) (fun c => ?_)
          · refine ⟨_, hD7, small1000 (by unfold posL; rw [List.length_map, List.length_map]; omega), fun b' o e => (upd_ne (ne_of_none e hD)).trans (s7 b' o e), ?_⟩
            unfold posL
            rw [upd_same, take_one hm, List.filter_append, List.filter_cons_of_pos (p := fun m : Int => decide (0 < m)) c, List.map_append, List.map_append]
            rfl
          · refine ⟨s7, ?_⟩
            rw [hD7]
            unfold posL
            rw [take_one hm, List.filter_append, List.filter_cons_of_neg (p := fun m : Int => decide (0 < m)) c]
            show _ = some (HO.lst (((_ ++ []) : List Int).map _ |>.map _))
            rw [List.append_nil]
        · rintro H7 ⟨s7, hD7⟩
          rw [List.length_map] at hD7
          refine ⟨(by show 0 ≤ sizeLine; decide), fun q hq => ?_⟩
          have s8 := same_new (o := .lst []) hq
          refine ⟨_, _, .lst (SqL.of (s8 _ _ hD7)) (dpInts _), .lst (SqL.of upd_same) .nil, shaped_ints _, rfl, ?_⟩
          rw [eqv_empty, posL_empty]
          refine ⟨rfl, ?_⟩
          rw [show lawKind .str p = noPos (lwM p) from gs]
          have := kk _ (s05.trans (s6.trans (s7.trans s8)))
          simpa using this
      · have c := Bool.eq_false_iff.mpr c
        rw [c, Bool.false_and] at gs
        refine ⟨rfl, ?_⟩
        rw [show lawKind .str p = false from gs]
        have := kk _ (s05.trans s6)
        simpa using this
end
end Rs


set_option Elab.async false
set_option linter.all false
set_option maxRecDepth 100000
set_option maxHeartbeats 1000000
namespace Rs
open PySem L2 Bs Fq LamX RZ
def zB (q : F) : Bool := decide (0 < q.2) && decide (Nat.gcd q.1.natAbs q.2.natAbs = 1) && decide (6 % q.2 = 0) && decide (q.1.natAbs ≤ 85)
theorem zB_zs {q : F} (h : zB q = true) : Zs 1 q := by
  simp only [zB, Bool.and_eq_true, decide_eq_true_eq] at h
  exact Zs.of ⟨h.1.1.1, h.1.1.2⟩ (Int.dvd_of_emod_eq_zero h.1.2) h.2
theorem zB_all {qs : List F} (h : qs.all zB = true) : Za 1 qs := fun q hq => zB_zs (List.all_eq_true.mp h q hq)
end Rs
namespace Cu
open Fq Pg Rs
theorem one_p : (0 : Int) < 1 ∧ (1 : Int).natAbs ≤ 2 ^ 150 := ⟨by decide, Nat.one_le_two_pow⟩
theorem row_is {qs : List F} (h : ∀ q ∈ qs, Fq.Ok q) : qs = rl (rho qs) qs.length := by
  refine List.ext_getElem? fun i => ?_
  by_cases c : i < qs.length
  · rw [rl_get c, co_lt c]
    unfold rho
    rw [rf_of (h _ (co_mem c))]
  · rw [List.getElem?_eq_none (by omega), List.getElem?_eq_none (by rw [rl_len]; omega)]
theorem okAll2 {D : Int} {n : Nat} {l : List F} (h : Ca D n l) : ∀ q ∈ l, Fq.Ok q := fun q hq => (h q hq).ok
theorem ca_sz {qs : List F} (h : Ca 1 20 qs) : Sz 1 (rho qs) := ⟨one_p.1, one_p.2, fun i => (h.co i).v.mono (by decide)⟩
theorem cum_sz {cl : List F} (h : Ca 1 20 cl) : Sz 1 (cum cl) := ⟨one_p.1, one_p.2, fun i => by
  unfold cum
  split
  · exact Ov.zero
  · exact (h.co _).v.mono (by decide)⟩
theorem cum_is2 {qs : List F} (h : ∀ q ∈ qs, Fq.Ok q) : rl (fun i => cum qs (i + 1)) qs.length = qs := by
  refine Eq.symm ((row_is h).trans (rl_congr fun i _ => ?_))
  rfl
/-- a ladder's row and its cumulants, by hand -/
def rcB (k : Kd) (T : F) (ls ss cl : List F) : Bool :=
  grB k (rowL (1, 1) ls ss 7) cl && ((rowL T ls ss 7).all smB && (decide (0 < T.1) && (decide (0 < T.2) && ((List.range 8).all (fun i => decide (rho (rowL T ls ss 7) i = val T * rho (rowL (1, 1) ls ss 7) i)) && (ladderD (dL T ls ss) && (decide (7 ≤ mostN ls ss) && (zB T && (ls.all zB && (ss.all zB && (decide (cl.length = 7) && decide (0 < val T)))))))))))
structure Rc (k : Kd) (T : F) (ls ss cl : List F) : Prop where
  la : ladderD (dL T ls ss) = true
  mo : 7 ≤ mostN ls ss
  z1 : Zs 1 T
  z2 : Za 1 ls
  z3 : Za 1 ss
  is : rl (rho (rowL T ls ss 7)) 8 = rowL T ls ss 7
  hy : CuHyp k (rho (rowL T ls ss 7)) (cum cl) 8 1 1
  cl : rl (fun i => cum cl (i + 1)) 7 = cl
theorem rowL_len (T : F) (ls ss : List F) (n : Nat) : (rowL T ls ss n).length = n + 1 := by
  unfold rowL
  rw [List.length_cons, List.length_map, List.length_range]
theorem rc_of {k : Kd} {T : F} {ls ss cl : List F} (h : rcB k T ls ss cl = true) : Rc k T ls ss cl := by
  unfold rcB at h
  simp only [Bool.and_eq_true, decide_eq_true_eq] at h
  obtain ⟨h1, h2, h3, h3', h4, h5, h6, h7, h8, h9, h10, h11⟩ := h
  have g := gr_of h1
  have cq := sm_ca h2
  have lq := rowL_len T ls ss 7
  have lu := rowL_len (1, 1) ls ss 7
  have r0 : rho (rowL (1, 1) ls ss 7) 0 = 1 := by
    unfold rho
    rw [g.c0, val_one]
  have eq8 : ∀ i, rho (rowL T ls ss 7) i = val T * rho (rowL (1, 1) ls ss 7) i := fun i => by
    by_cases c : i < 8
    · exact of_decide_eq_true (List.all_eq_true.mp h4 i (List.mem_range.mpr c))
    · have z : ∀ {l : List F}, l.length = 8 → rho l i = 0 := fun {l} e => by
        unfold rho
        rw [co_ge (by omega), val_zero]
      rw [z lq, z lu]
      grind
  have eum : um (rho (rowL T ls ss 7)) = rho (rowL (1, 1) ls ss 7) := by
    funext i
    show rho _ i / rho _ 0 = _
    rw [eq8 i, eq8 0, r0, Rat.div_def]
    grind
  have t0 : 0 < rho (rowL T ls ss 7) 0 := by
    rw [eq8 0, r0, Rat.mul_one]
    exact h11
  refine ⟨h5, h6, zB_zs h7, zB_all h8, zB_all h9, ?_, ⟨⟨ca_sz cq, t0, by decide, by decide⟩, by rw [eum]; exact ca_sz g.q, cum_sz g.c, fun n n1 nl => ?_⟩, ?_⟩
  · have := (row_is (okAll2 cq)).symm
    rwa [lq] at this
  · rw [eum]
    exact g.m n n1 (by rw [lu]; exact nl)
  · have := cum_is2 (okAll2 g.c)
    rwa [h10] at this
/-- what the law reckons -/
def i1 (n : Nat) : F := ((n : Int), 1)
def clP (o m : Nat) : List F := [i1 o, i1 m] ++ List.replicate 5 (0, 1)
def mulM (m : Nat) : List F := (List.range 4).map fun k => ((m : Int) * ((1 : Int) + (k : Nat)), 1)
def addM (m : Nat) : List F := (List.range 4).map fun k => ((m : Int) + ((0 : Int) + (k : Nat)), 1)
def plB (o m : Nat) : Bool := rcB .free (2, 1) (List.replicate 4 (i1 o)) (List.replicate 4 (i1 m)) (clP o m) && (rcB .all (1, 1) (List.replicate 4 (i1 o)) (mulM m) (clP o m) && (rcB .all (1, 1) (addM m) (mulM m) (List.replicate 7 (i1 m)) &&
  (rcB .free (1, 1) (i1 m :: List.replicate 3 ((m : Int) + 1, 1)) (List.replicate 4 (i1 m)) (List.replicate 7 (i1 m)) && rcB .str (1, 1) [i1 o, (0, 1)] [i1 m, (0, 1)] (clP o m))))
theorem all_P : ∀ o ∈ [1, 2, 3], ∀ m ∈ [1, 2, 3], plB o m = true := by decide +kernel
end Cu


set_option Elab.async false
set_option linter.all false
set_option maxRecDepth 100000
set_option maxHeartbeats 1000000
namespace Rs
open PySem PySem.Spec PyProof.Rows L2 Bs Fq LamX RZ Cu Pg Dd Mk
abbrev sPR : Stmt := top 83
abbrev NPr : List Str := ["state", "one", "many", "levels", "steps", "told", "k"]
def spPR : Sp := fun vs H Q _ => ∃ (p c l : Addr) (n : Nat) (t : Int), vs = [.ref p] ∧ Sta H p c l n t ∧ t ≤ 9000 ∧ ∀ H', Q (.bl true) H'
theorem noLdP (qs : List F) : noL (dP qs) = true := by
  show noLs (qs.map dF) = true
  induction qs with
  | nil => rfl
  | cons p ps ih =>
    show (noL (dF p) && noLs (ps.map dF)) = true
    rw [ih]
    simp [dF, noL, noLs]
theorem frs_rep {K : PySem.W.Frag} {H : Hp} {v : V} {q : F} (h : Fr K H v q) : ∀ n, FrAll K H (List.replicate n [v]).flatten (List.replicate n q)
  | 0 => .nil
  | n + 1 => by
    rw [List.replicate_succ, List.flatten_cons, List.replicate_succ]
    exact .cons h (frs_rep h n)
theorem fr_two {K : PySem.W.Frag} {H : Hp} {p : Addr} {a b : Int} : Fr K (upd H p (.tup [.int a, .int b])) (.ref p) (a, b) := ⟨p, rfl, SqT.of upd_same⟩
/-- ((x, 1),) * n -/
theorem rep_po {K : PySem.W.Frag} {H : Hp} {p1 x : Addr} {q : F} (f : Fr K H (.ref p1) q) (hx : H x = none) (n : Int) : Po K (upd H x (.tup (List.replicate n.toNat [V.ref p1]).flatten)) (.ref x) (List.replicate n.toNat q) :=
  ⟨x, _, rfl, SqT.of upd_same, (frs_rep f n.toNat).mono (same_new hx)⟩
theorem dp_lad {K : PySem.W.Frag} {H : Hp} {a : Addr} {u v w : V} {T : F} {ls ss : List F} (s : SqT K H a [u, v, w]) (d : Dp K H u (dF T)) (f : Po K H v ls) (g : Po K H w ss) : Dp K H (.ref a) (dL T ls ss) := .tup s (.cons d (.cons f.dp (.cons g.dp .nil)))
theorem row_call {K : PySem.W.Frag} {CL CN : Addr} {H : Hp} {Q : VK} {E : XK} {v : V} {k : Kd} {T : F} {ls ss cl : List F} (rc : Rc k T ls ss cl) (d : Dp K H v (dL T ls ss)) (kk : ∀ H' u, Same H H' → Po K H' u (rl (rho (rowL T ls ss 7)) 8) → Q u H') : spRowOf K CL CN [v, .int 7] H Q E := by
  refine ⟨v, .int 7, _, .int 7, rfl, d, .int 7, fun e => absurd rc.la (by rw [e]; decide), fun T' ls' ss' e _ => ?_⟩
  unfold dL at e
  simp only [PyData.tuple.injEq, List.cons.injEq, and_true] at e
  obtain ⟨e1, e2, e3⟩ := e
  obtain rfl := dF_inj e1
  obtain rfl := dP_inj e2
  obtain rfl := dP_inj e3
  have mo := rc.mo
  refine ⟨fun e => ?_, fun n e n0 nm => ?_⟩
  · have : betwD 0 (mostN ls ss) (.int 7) = (decide ((0 : Int) ≤ 7) && decide ((7 : Int) ≤ mostN ls ss)) := rfl
    rw [this, decide_eq_true mo] at e
    exact absurd e (by decide)
  · cases e
    refine ⟨rc.z1, rc.z2, rc.z3, fun H' u s po => kk H' u s ?_⟩
    rw [rc.is]
    exact po
theorem shaped_dPs (ws : List (List F)) : SeqAt.shaped (.list (ws.map dP)) = true := by
  have hc : ∀ ws : List (List F), PyData.canLayAll0 (ws.map dP) = true := fun ws => by
    induction ws with
    | nil => rfl
    | cons q ws ih =>
      have h : PyData.canLay0 (dP q) = true := by simpa [dP, PyData.canLay0] using can_dFs q
      rw [List.map_cons, PyData.canLayAll0, h, ih]
      rfl
  have hd : ∀ ws : List (List F), PyData.depthAll (ws.map dP) ≤ 3 := fun ws => by
    induction ws with
    | nil => simp [PyData.depthAll]
    | cons q ws ih =>
      have e : (dP q).depth ≤ 3 := by
        have := dep_dFs q
        simp only [dP, PyData.depth]
        omega
      simp only [List.map_cons, PyData.depthAll]
      omega
  unfold SeqAt.shaped
  rw [Bool.and_eq_true_iff]
  refine ⟨by simpa [PyData.canLay0] using hc ws, decide_eq_true ?_⟩
  have := hd ws
  simp only [PyData.depth]
  omega
theorem eqv_dPs (ws : List (List F)) : PyData.eqv (.list (ws.map dP)) (.list (ws.map dP)) = true := by
  show PyData.eqvAll _ _ = true
  induction ws with
  | nil => rfl
  | cons q ws ih =>
    show (PyData.eqv (dP q) (dP q) && PyData.eqvAll (ws.map dP) (ws.map dP)) = true
    rw [eqv_dPr, ih]
    rfl
section
variable {P : Program} {w : World} {K : PySem.W.Frag} {mg : Str → Option Value} {base : Heap} {f : Addr} {fd : FuncData}
theorem scPr : FnScope NPr ["state"] (defScope sPR) := ⟨rfl, rfl, rfl, by decide +kernel, rfl, by decide +kernel, by decide +kernel⟩
theorem ok_pr {CL CN : Addr} (F : Fun K "_law_plain_right" "_law_plain_right" sPR f fd) (T : Blt mg) (DR : Cal P w K mg base 2 "_law_draw" spDraw) (RO : CalX P w K mg base 6 "row_of" (spRowOf K CL CN)) (CO : Cal P w K mg base 8 "cumulants_of" (spCB K)) : FnOk P w K mg base CX0 9 f fd ["state"] spPR := by
  refine F.ok scPr (fun vs H Q E h => ?_) (fun cdv A outer s H vs Q E hr h => ?_)
  · obtain ⟨p, c, l, n, t, rfl, _⟩ := h
    rfl
  · obtain ⟨p, c, l, n, t, rfl, S, t9, kk⟩ := h
    refine ⟨_, C8.pss_cut (ps_asg (pe_tup (pa_cons (pe_op op_add pe_int (pe_n DR hr (by decide) (by rfl) (pa_cons (pv 0) (pa_cons pe_int pa_nil)))) (pa_cons (pe_op op_add pe_int (pe_n DR hr (by decide) (by rfl) (pa_cons (pv 0) (pa_cons pe_int pa_nil)))) pa_nil))) (pg_tup rfl (pgs_cons (pg_name (i := 1) scPr.nd rfl (Or.inl rfl)) (pgs_cons (pg_name (i := 2) scPr.nd rfl (Or.inr rfl)) pgs_nil))))
      (C8.pss_cut (ps_par (i := 3) (j := 4) (by rfl) scPr.nd rfl rfl (by decide) rfl rfl (pa_cons (pe_op op_repT (pe_tup (pa_cons (pe_tup (pa_cons (pv 1) (pa_cons pe_int pa_nil))) pa_nil)) pe_int) (pa_cons (pe_op op_repT (pe_tup (pa_cons (pe_tup (pa_cons (pv 2) (pa_cons pe_int pa_nil))) pa_nil)) pe_int) pa_nil)) (by rfl))
      (C8.pss_cut (ps_set (i := 5) scPr.nd rfl (Or.inl rfl) (pe_lst (pa_cons (pe_n CO hr (by decide) (by rfl) (pa_cons (pe_x RO hr (by decide) (by rfl) passL (pa_cons (pe_tup (pa_cons (pd_tup (pd_cons pd_int (pd_cons pd_int pd_nil))) (pa_cons (pv 3) (pa_cons (pv 4) pa_nil)))) (pa_cons pe_int pa_nil))) (pa_cons pe_str pa_nil))) pa_nil)))
      (C8.pss_cut (ps_expr (pe_bm PySem.F.plainAttrs_list PySem.F.slot_list_append PySem.F.type_list_append mt_append (pv 5) (pa_cons (pe_n CO hr (by decide) (by rfl) (pa_cons (pe_x RO hr (by decide) (by rfl) passL (pa_cons (pe_tup (pa_cons (pd_tup (pd_cons pd_int (pd_cons pd_int pd_nil))) (pa_cons (pv 3) (pa_cons (pe_callTy call_tuple_of (by rfl) T.tuple (by decide +kernel) (pa_cons (pe_lc (own := [("k", 6)]) (g := gName 6) (tt := tYes) rfl scPr.nd (pi_range2 rfl T.range (pa_cons pe_int (pa_cons pe_int pa_nil))) (blkOk_by (N := NPr) (sc := defScope sPR) (by decide +kernel))
          (fun _ _ _ _ _ => pg_name (i := 6) scPr.nd rfl (Or.inl rfl)) (fun _ _ _ _ _ => pts_nil)
          (fun _ _ _ _ _ => (pe_tup (pa_cons (pe_op (r := rI CMul fun i j => .int (i * j)) op_mul (pv 2) (pv 6)) (pa_cons pe_int pa_nil))))) pa_nil)) pa_nil)))) (pa_cons pe_int pa_nil))) (pa_cons pe_str pa_nil))) pa_nil)))
      (C8.pss_cut (ps_if (pt_cmpR (op_neD hr.units) (pv 5) (pe_op op_rep (pe_lst (pa_cons (pe_op op_catA (pe_tup (pa_cons (pe_tup (pa_cons (pv 1) (pa_cons pe_int pa_nil))) (pa_cons (pe_tup (pa_cons (pv 2) (pa_cons pe_int pa_nil))) pa_nil))) (vd_rep (vd_g (pd_tup (pd_cons (pd_tup (pd_cons pd_int (pd_cons pd_int pd_nil))) pd_nil))))) pa_nil)) pe_int) (nomark _)) (pss_one (ps_ret pe_bl)) pss_nil)
      (C8.pss_cut (ps_set (i := 3) scPr.nd rfl (Or.inl rfl) (pe_callTy call_tuple_of (by rfl) T.tuple (by decide +kernel) (pa_cons (pe_lc (own := [("k", 6)]) (g := gName 6) (tt := tYes) rfl scPr.nd (pi_range1 rfl T.range (pa_cons pe_int pa_nil)) (blkOk_by (N := NPr) (sc := defScope sPR) (by decide +kernel))
          (fun _ _ _ _ _ => pg_name (i := 6) scPr.nd rfl (Or.inl rfl)) (fun _ _ _ _ _ => pts_nil)
          (fun _ _ _ _ _ => (pe_tup (pa_cons (pe_op (r := rAdd) op_add (pv 2) (pv 6)) (pa_cons pe_int pa_nil))))) pa_nil)))
      (C8.pss_cut (ps_set (i := 5) scPr.nd rfl (Or.inl rfl) (pe_lst (pa_cons (pe_n CO hr (by decide) (by rfl) (pa_cons (pe_x RO hr (by decide) (by rfl) passL (pa_cons (pe_tup (pa_cons (pd_tup (pd_cons pd_int (pd_cons pd_int pd_nil))) (pa_cons (pv 3) (pa_cons (pe_callTy call_tuple_of (by rfl) T.tuple (by decide +kernel) (pa_cons (pe_lc (own := [("k", 6)]) (g := gName 6) (tt := tYes) rfl scPr.nd (pi_range2 rfl T.range (pa_cons pe_int (pa_cons pe_int pa_nil))) (blkOk_by (N := NPr) (sc := defScope sPR) (by decide +kernel))
          (fun _ _ _ _ _ => pg_name (i := 6) scPr.nd rfl (Or.inl rfl)) (fun _ _ _ _ _ => pts_nil)
          (fun _ _ _ _ _ => (pe_tup (pa_cons (pe_op (r := rI CMul fun i j => .int (i * j)) op_mul (pv 2) (pv 6)) (pa_cons pe_int pa_nil))))) pa_nil)) pa_nil)))) (pa_cons pe_int pa_nil))) (pa_cons pe_str pa_nil))) pa_nil)))
      (C8.pss_cut (ps_set (i := 3) scPr.nd rfl (Or.inl rfl) (pe_op op_catA (pe_tup (pa_cons (pe_tup (pa_cons (pv 2) (pa_cons pe_int pa_nil))) pa_nil)) (pe_op op_repT (pe_tup (pa_cons (pe_tup (pa_cons (pe_op op_add (pv 2) pe_int) (pa_cons pe_int pa_nil))) pa_nil)) pe_int)))
      (C8.pss_cut (ps_expr (pe_bm PySem.F.plainAttrs_list PySem.F.slot_list_append PySem.F.type_list_append mt_append (pv 5) (pa_cons (pe_n CO hr (by decide) (by rfl) (pa_cons (pe_x RO hr (by decide) (by rfl) passL (pa_cons (pe_tup (pa_cons (pd_tup (pd_cons pd_int (pd_cons pd_int pd_nil))) (pa_cons (pv 3) (pa_cons (pv 4) pa_nil)))) (pa_cons pe_int pa_nil))) (pa_cons pe_str pa_nil))) pa_nil)))
      (C8.pss_cut (ps_expr (pe_bm PySem.F.plainAttrs_list PySem.F.slot_list_append PySem.F.type_list_append mt_append (pv 5) (pa_cons (pe_n CO hr (by decide) (by rfl) (pa_cons (pe_x RO hr (by decide) (by rfl) passL (pa_cons (pe_tup (pa_cons (pd_tup (pd_cons pd_int (pd_cons pd_int pd_nil))) (pa_cons (pe_tup (pa_cons (pe_tup (pa_cons (pv 1) (pa_cons pe_int pa_nil))) (pa_cons (pd_tup (pd_cons pd_int (pd_cons pd_int pd_nil))) pa_nil))) (pa_cons (pe_tup (pa_cons (pe_tup (pa_cons (pv 2) (pa_cons pe_int pa_nil))) (pa_cons (pd_tup (pd_cons pd_int (pd_cons pd_int pd_nil))) pa_nil))) pa_nil)))) (pa_cons pe_int pa_nil))) (pa_cons pe_str pa_nil))) pa_nil)))
      (pss_one (ps_ret (pe_cmpR (op_eqD hr.units) (pv 5) (pe_lst (pa_cons (pe_op op_repT (pe_tup (pa_cons (pe_tup (pa_cons (pv 2) (pa_cons pe_int pa_nil))) pa_nil)) pe_int) (pa_cons (pe_op op_repT (pe_tup (pa_cons (pe_tup (pa_cons (pv 2) (pa_cons pe_int pa_nil))) pa_nil)) pe_int) (pa_cons (pe_op op_catA (pe_tup (pa_cons (pe_tup (pa_cons (pv 1) (pa_cons pe_int pa_nil))) (pa_cons (pe_tup (pa_cons (pv 2) (pa_cons pe_int pa_nil))) pa_nil))) (vd_rep (vd_g (pd_tup (pd_cons (pd_tup (pd_cons pd_int (pd_cons pd_int pd_nil))) pd_nil))))) pa_nil)))) (nomark _))))))))))))), ?_⟩
    refine ⟨fun σ H => ∃ o m : Nat, 1 ≤ o ∧ o ≤ 3 ∧ 1 ≤ m ∧ m ≤ 3 ∧ σ = [some (.ref p), some (.int (o : Nat)), some (.int (m : Nat)), none, none, none, none], ?_, ?_⟩
    · refine ⟨_, rfl, p, c, l, n, t, 3, rfl, S, by omega, by decide, by decide, fun H1 r r0 r1 S1 k1 => ?_⟩
      refine ⟨_, _, rfl, rfl, _, rfl, p, c, l, n, t + 1, 3, rfl, S1, by omega, by decide, by decide, fun H2 u u0 u1 S2 k2 => ?_⟩
      refine ⟨_, _, rfl, rfl, (by show 2 ≤ sizeLine; decide), fun q hq => ?_⟩
      refine ⟨q, _, rfl, SqT.of upd_same, rfl, _, _, rfl, _, _, rfl, rfl, (1 + r).toNat, (1 + u).toNat, by omega, by omega, by omega, by omega, ?_⟩
      rw [show (((1 + r).toNat : Nat) : Int) = 1 + r by omega, show (((1 + u).toNat : Nat) : Int) = 1 + u by omega]
      rfl
    clear S
    rintro σ H1 ⟨o, m, o1, o3, m1, m3, rfl⟩
    generalize some (V.ref p) = v0
    have hP : plB o m = true := all_P o (by simp; omega) m (by simp; omega)
    unfold plB at hP
    simp only [Bool.and_eq_true] at hP
    obtain ⟨h1, h2, h3, h4, h5⟩ := hP
    have r1 := rc_of h1
    have r2 := rc_of h2
    have r3 := rc_of h3
    have r4 := rc_of h4
    have r5 := rc_of h5
    clear h1 h2 h3 h4 h5
    -- levels, steps
    refine ⟨fun σ H2 => ∃ x y, Same H1 H2 ∧ Po K H2 (.ref x) (List.replicate 4 (i1 o)) ∧ Po K H2 (.ref y) (List.replicate 4 (i1 m)) ∧ σ = [v0, some (.int (o : Nat)), some (.int (m : Nat)), some (.ref x), some (.ref y), none, none], ?_, ?_⟩
    · refine ⟨_, rfl, (by show 2 ≤ sizeLine; decide), fun p1 hp1 => ⟨(by show 1 ≤ sizeLine; decide), fun p2 hp2 => ?_⟩⟩
      have s2 := same_new (o := .tup [.ref p1]) hp2
      refine ⟨p2, _, [.ref p1], rfl, rfl, SqT.of upd_same, by simp, by decide, by decide, by simp, fun x hx => ?_⟩
      have s3 := same_new (o := .tup (List.replicate ((4 : Int)).toNat [V.ref p1]).flatten) hx
      have s12 := ((same_new hp1).trans s2).trans s3
      have px : Po K _ (.ref x) (List.replicate 4 (i1 o)) := rep_po ((fr_two (a := (o : Int)) (b := 1)).mono s2) hx 4
      generalize upd (upd (upd H1 p1 (.tup [.int (o : Nat), .int 1])) p2 (.tup [.ref p1])) x (.tup (List.replicate ((4 : Int)).toNat [V.ref p1]).flatten) = H2 at *
      refine ⟨_, rfl, (by show 2 ≤ sizeLine; decide), fun p4 hp4 => ⟨(by show 1 ≤ sizeLine; decide), fun p5 hp5 => ?_⟩⟩
      have s5 := same_new (o := .tup [.ref p4]) hp5
      refine ⟨p5, _, [.ref p4], rfl, rfl, SqT.of upd_same, by simp, by decide, by decide, by simp, fun y hy => ?_⟩
      have s6 := same_new (o := .tup (List.replicate ((4 : Int)).toNat [V.ref p4]).flatten) hy
      have py : Po K _ (.ref y) (List.replicate 4 (i1 m)) := rep_po ((fr_two (a := (m : Int)) (b := 1)).mono s5) hy 4
      have s46 := ((same_new hp4).trans s5).trans s6
      exact ⟨_, _, rfl, x, y, s12.trans s46, Po.mono s46 px, py, rfl⟩
    rintro σ H2 ⟨x, y, s2, px, py, rfl⟩
    -- told
    refine ⟨fun σ H3 => ∃ L, Tl K H2 H3 L [dP (clP o m)] ∧ Same H2 H3 ∧ σ = [v0, some (.int (o : Nat)), some (.int (m : Nat)), some (.ref x), some (.ref y), some (.ref L), none], ?_, ?_⟩
    · intro w1 H3 s3 d3
      refine ⟨_, rfl, _, rfl, (by show 3 ≤ sizeLine; decide), fun q hq => ?_⟩
      have s4 := same_new (o := .tup [w1, .ref x, .ref y]) hq
      have s34 := s3.trans s4
      refine row_call r1 (dp_lad (SqT.of upd_same) (dp_same s4 _ _ d3) (Po.mono s34 px) (Po.mono s34 py)) fun H5 u s5 pu => ?_
      refine ⟨u, .free, _, _, 8, 1, 1, rfl, pu, r1.hy, fun H6 a s6 pa => ?_⟩
      rw [show 8 - 1 = 7 from rfl, r1.cl] at pa
      refine ⟨(by show 1 ≤ sizeLine; decide), fun L hL => ?_⟩
      have s36 := (s34.trans s5).trans s6
      exact ⟨L, Tl.new s36 hL (.cons pa.dp .nil), s36.trans (same_new hL), rfl⟩
    rintro σ H3 ⟨L, tl, s3, rfl⟩
    refine ⟨fun σ H4 => ∃ v6, Tl K H2 H4 L [dP (clP o m), dP (clP o m)] ∧ σ = [v0, some (.int (o : Nat)), some (.int (m : Nat)), some (.ref x), some (.ref y), some (.ref L), v6], ?_, ?_⟩
    · obtain ⟨xs, gx, _⟩ := tl.get
      refine ⟨_, rfl, .inl ⟨rfl, _, SqL.of gx⟩, fun w1 H4 s4 d4 => ?_⟩
      refine ⟨_, rfl, _, _, rfl, ⟨by decide, by decide, by decide, by decide⟩, fun D hD => ?_⟩
      refine lc_range (lo := 1) (n := ((5 : Int) - 1).toNat) (fun i H5 => Same H4 H5 ∧ ∃ acc, H5 D = some (.lst acc) ∧ FrAll K H5 acc ((mulM m).take i)) ⟨same_new hD, [], upd_same, .nil⟩ ?_ ?_
      · rintro i H5 hi ⟨s5, acc, hD5, fa⟩
        refine ⟨rfl, ?_⟩
        refine iteT (B := Same H4 H5 ∧ ∃ acc, H5 D = some (.lst acc) ∧ FrAll K H5 acc ((mulM m).take (i + 1))) ?_
        refine ⟨_, rfl, _, rfl, _, _, rfl, rfl, .inl ⟨by omega, by omega⟩, (by show 2 ≤ sizeLine; decide), fun q hq => ?_⟩
        have s6 := same_new (o := .tup [.int ((m : Int) * (1 + (i : Nat))), .int 1]) hq
        have lf := fa.len
        rw [List.length_take] at lf
        have hi4 : i < 4 := hi
        refine ⟨acc, s6 _ _ hD5, small1000 (by omega), fun c o e => (upd_ne (ne_of_none e hD)).trans (s6 c o (s5 c o e)), acc ++ [.ref q], upd_same, ?_⟩
        have hg : (mulM m)[i]? = some ((m : Int) * (1 + (i : Nat)), 1) := by
          unfold mulM
          rw [List.getElem?_map, List.getElem?_range hi4]
          rfl
        rw [take_one hg]
        exact (FrAll.off (s6 _ _ hD5) (fa.mono s6)).snoc ((fr_two).off (s6 _ _ hD5))
      · rintro H5 ⟨s5, acc, hD5, fa⟩
        rw [show (mulM m).take ((5 : Int) - 1).toNat = mulM m from rfl] at fa
        refine ⟨D, acc, rfl, .inl ⟨SqL.of hD5, fun q hq => ?_⟩⟩
        have s6 := same_new (o := .tup acc) hq
        have pq : Po K (upd H5 q (.tup acc)) (.ref q) (mulM m) := ⟨q, acc, rfl, SqT.of upd_same, fa.mono s6⟩
        refine ⟨(by show 3 ≤ sizeLine; decide), fun z hz => ?_⟩
        have s7 := same_new (o := .tup [w1, .ref x, .ref q]) hz
        have s47 := s5.trans (s6.trans s7)
        have s37 := s4.trans s47
        refine row_call r2 (dp_lad (SqT.of upd_same) (dp_same s47 _ _ d4) (Po.mono (s3.trans s37) px) (Po.mono s7 pq)) fun H8 u s8 pu => ?_
        refine ⟨u, .all, _, _, 8, 1, 1, rfl, pu, r2.hy, fun H9 a s9 pa => ?_⟩
        rw [show 8 - 1 = 7 from rfl, r2.cl] at pa
        have s39 := (s37.trans s8).trans s9
        obtain ⟨xs2, gx2, sz2, t2⟩ := (tl.mono s39).push (v := .ref a) (by simp [noLs, noLdP]) (noLdP _) pa.dp (by show 1 ≤ 1000; decide)
        exact ⟨L, xs2, _, rfl, rfl, gx2, sz2, _, t2, rfl⟩
    clear tl s3
    rintro σ H4 ⟨v6, tl, rfl⟩
    -- the first test
    refine ⟨fun σ H5 => Same H2 H5 ∧ σ = [v0, some (.int (o : Nat)), some (.int (m : Nat)), some (.ref x), some (.ref y), some (.ref L), v6], ?_, ?_⟩
    · refine ⟨_, rfl, _, rfl, (by show 2 ≤ sizeLine; decide), fun p1 hp1 => ⟨_, rfl, (by show 2 ≤ sizeLine; decide), fun p2 hp2 => ⟨(by show 2 ≤ sizeLine; decide), fun p3 hp3 => ⟨trivial, fun w1 H5 s5 d5 => ?_⟩⟩⟩⟩
      have t2' := same_new (o := .tup [.int (m : Nat), .int 1]) hp2
      have t3 := same_new (o := .tup [.ref p1, .ref p2]) hp3
      have t13 := ((same_new (o := .tup [.int (o : Nat), .int 1]) hp1).trans t2').trans t3
      have f1 : Fr K _ (.ref p1) (i1 o) := (fr_two (a := (o : Int)) (b := 1)).mono ((t2'.trans t3).trans s5)
      have f2 : Fr K _ (.ref p2) (i1 m) := (fr_two (a := (m : Int)) (b := 1)).mono (t3.trans s5)
      have d5 : Dp K H5 w1 (dP (List.replicate 5 (0, 1))) := d5
      obtain ⟨b, ys, rfl, sb, fb⟩ := dp_po d5
      refine cat_any (Bs.Same.t s5 (SqT.of upd_same)) sb (Nat.le_of_lt (small1000 (by rw [fb.len]; show 2 + 5 ≤ 1000; decide))) fun c H6 s6 sc => ?_
      have pc : Po K H6 (.ref c) (clP o m) := ⟨c, _, rfl, sc, FrAll.app (.cons (f1.mono s6) (.cons (f2.mono s6) .nil)) (fb.mono s6)⟩
      have s46 := (t13.trans s5).trans s6
      refine ⟨(by show 1 ≤ sizeLine; decide), fun L1 hL1 => ?_⟩
      have s7 := same_new (o := .lst [.ref c]) hL1
      refine ⟨L1, 2, [.ref c], rfl, rfl, upd_same, by decide, by decide, small1000' (by show 1 * 2 ≤ 1000; decide), fun L2 hL2 => ?_⟩
      have s8 := same_new (o := .lst (List.replicate ((2 : Int)).toNat [V.ref c]).flatten) hL2
      have s48 := (s46.trans s7).trans s8
      have pc8 := (Po.mono (s7.trans s8) pc).dp
      refine ⟨_, .list [dP (clP o m), dP (clP o m)], (tl.mono s48).dp, .lst (SqL.of upd_same) (.cons pc8 (.cons pc8 .nil)), shaped_dPs [clP o m, clP o m], shaped_dPs [clP o m, clP o m], _, rfl, ?_⟩
      rw [show PyData.eqv (.list [dP (clP o m), dP (clP o m)]) (.list [dP (clP o m), dP (clP o m)]) = true from eqv_dPs [clP o m, clP o m]]
      exact iteF ⟨(tl.mono s48).2.1, rfl⟩
    clear tl
    rintro σ H5a ⟨s5a, rfl⟩
    have px5 := Po.mono s5a px
    have py5 := Po.mono s5a py
    clear px py s5a
    -- other levels
    refine ⟨fun σ H6 => ∃ x2, Same H5a H6 ∧ Po K H6 (.ref x2) (addM m) ∧ σ = [v0, some (.int (o : Nat)), some (.int (m : Nat)), some (.ref x2), some (.ref y), some (.ref L), v6], ?_, ?_⟩
    · refine ⟨_, rfl, by decide, by decide, fun D hD => ?_⟩
      refine lc_range (lo := 0) (n := ((4 : Int)).toNat) (fun i H5 => Same H5a H5 ∧ ∃ acc, H5 D = some (.lst acc) ∧ FrAll K H5 acc ((addM m).take i)) ⟨same_new hD, [], upd_same, .nil⟩ ?_ ?_
      · rintro i H5 hi ⟨s5, acc, hD5, fa⟩
        refine ⟨rfl, ?_⟩
        refine iteT (B := Same H5a H5 ∧ ∃ acc, H5 D = some (.lst acc) ∧ FrAll K H5 acc ((addM m).take (i + 1))) ?_
        refine ⟨_, rfl, _, rfl, _, _, rfl, rfl, (by show 2 ≤ sizeLine; decide), fun q hq => ?_⟩
        have s6 := same_new (o := .tup [.int ((m : Int) + (0 + (i : Nat))), .int 1]) hq
        have lf := fa.len
        rw [List.length_take] at lf
        have hi4 : i < 4 := hi
        refine ⟨acc, s6 _ _ hD5, small1000 (by omega), fun c o e => (upd_ne (ne_of_none e hD)).trans (s6 c o (s5 c o e)), acc ++ [.ref q], upd_same, ?_⟩
        have hg : (addM m)[i]? = some ((m : Int) + (0 + (i : Nat)), 1) := by
          unfold addM
          rw [List.getElem?_map, List.getElem?_range hi4]
          rfl
        rw [take_one hg]
        exact (FrAll.off (s6 _ _ hD5) (fa.mono s6)).snoc ((fr_two).off (s6 _ _ hD5))
      · rintro H5 ⟨s5, acc, hD5, fa⟩
        rw [show (addM m).take ((4 : Int)).toNat = addM m from rfl] at fa
        refine ⟨D, acc, rfl, .inl ⟨SqL.of hD5, fun q hq => ?_⟩⟩
        have s6 := same_new (o := .tup acc) hq
        exact ⟨q, s5.trans s6, ⟨q, acc, rfl, SqT.of upd_same, fa.mono s6⟩, rfl⟩
    rintro σ H6 ⟨x2, s6a, pa2, rfl⟩
    have py6 := Po.mono s6a py5
    clear px5 py5
    refine ⟨fun σ H7 => ∃ L, Tl K H6 H7 L [dP (List.replicate 7 (i1 m))] ∧ σ = [v0, some (.int (o : Nat)), some (.int (m : Nat)), some (.ref x2), some (.ref y), some (.ref L), v6], ?_, ?_⟩
    · intro w1 H4 s4 d4
      refine ⟨_, rfl, _, _, rfl, ⟨by decide, by decide, by decide, by decide⟩, fun D hD => ?_⟩
      refine lc_range (lo := 1) (n := ((5 : Int) - 1).toNat) (fun i H5 => Same H4 H5 ∧ ∃ acc, H5 D = some (.lst acc) ∧ FrAll K H5 acc ((mulM m).take i)) ⟨same_new hD, [], upd_same, .nil⟩ ?_ ?_
      · rintro i H5 hi ⟨s5, acc, hD5, fa⟩
        refine ⟨rfl, ?_⟩
        refine iteT (B := Same H4 H5 ∧ ∃ acc, H5 D = some (.lst acc) ∧ FrAll K H5 acc ((mulM m).take (i + 1))) ?_
        refine ⟨_, rfl, _, rfl, _, _, rfl, rfl, .inl ⟨by omega, by omega⟩, (by show 2 ≤ sizeLine; decide), fun q hq => ?_⟩
        have s6 := same_new (o := .tup [.int ((m : Int) * (1 + (i : Nat))), .int 1]) hq
        have lf := fa.len
        rw [List.length_take] at lf
        have hi4 : i < 4 := hi
        refine ⟨acc, s6 _ _ hD5, small1000 (by omega), fun c o e => (upd_ne (ne_of_none e hD)).trans (s6 c o (s5 c o e)), acc ++ [.ref q], upd_same, ?_⟩
        have hg : (mulM m)[i]? = some ((m : Int) * (1 + (i : Nat)), 1) := by
          unfold mulM
          rw [List.getElem?_map, List.getElem?_range hi4]
          rfl
        rw [take_one hg]
        exact (FrAll.off (s6 _ _ hD5) (fa.mono s6)).snoc ((fr_two).off (s6 _ _ hD5))
      · rintro H5 ⟨s5, acc, hD5, fa⟩
        rw [show (mulM m).take ((5 : Int) - 1).toNat = mulM m from rfl] at fa
        refine ⟨D, acc, rfl, .inl ⟨SqL.of hD5, fun q hq => ?_⟩⟩
        have s6 := same_new (o := .tup acc) hq
        have pq : Po K (upd H5 q (.tup acc)) (.ref q) (mulM m) := ⟨q, acc, rfl, SqT.of upd_same, fa.mono s6⟩
        refine ⟨(by show 3 ≤ sizeLine; decide), fun z hz => ?_⟩
        have s7 := same_new (o := .tup [w1, .ref x2, .ref q]) hz
        have s47 := s5.trans (s6.trans s7)
        have s37 := s4.trans s47
        refine row_call r3 (dp_lad (SqT.of upd_same) (dp_same s47 _ _ d4) (Po.mono s37 pa2) (Po.mono s7 pq)) fun H8 u s8 pu => ?_
        refine ⟨u, .all, _, _, 8, 1, 1, rfl, pu, r3.hy, fun H9 a s9 pa => ?_⟩
        rw [show 8 - 1 = 7 from rfl, r3.cl] at pa
        have s39 := (s37.trans s8).trans s9
        refine ⟨(by show 1 ≤ sizeLine; decide), fun L hL => ?_⟩
        exact ⟨L, Tl.new s39 hL (.cons pa.dp .nil), rfl⟩
    rintro σ H7 ⟨L, tl, rfl⟩
    have py7 := Po.mono tl.2.1 py6
    clear pa2 py6
    -- the third levels
    refine ⟨fun σ H8 => ∃ x3, Tl K H6 H8 L [dP (List.replicate 7 (i1 m))] ∧ Po K H8 (.ref x3) (i1 m :: List.replicate 3 ((m : Int) + 1, 1)) ∧ Po K H8 (.ref y) (List.replicate 4 (i1 m)) ∧ σ = [v0, some (.int (o : Nat)), some (.int (m : Nat)), some (.ref x3), some (.ref y), some (.ref L), v6], ?_, ?_⟩
    · refine ⟨_, rfl, (by show 2 ≤ sizeLine; decide), fun p1 hp1 => ⟨(by show 1 ≤ sizeLine; decide), fun p2 hp2 => ⟨_, rfl, _, _, rfl, rfl, (by show 2 ≤ sizeLine; decide), fun p3 hp3 => ⟨(by show 1 ≤ sizeLine; decide), fun p4 hp4 => ?_⟩⟩⟩⟩
      have t1 := same_new (o := .tup [.int (m : Nat), .int 1]) hp1
      have t2 := same_new (o := .tup [.ref p1]) hp2
      have t3 := same_new (o := .tup [.int ((m : Int) + 1), .int 1]) hp3
      have t4 := same_new (o := .tup [.ref p3]) hp4
      refine ⟨p4, _, [.ref p3], rfl, rfl, SqT.of upd_same, by simp, by decide, by decide, by simp, fun e he => ?_⟩
      have t5 := same_new (o := .tup (List.replicate ((3 : Int)).toNat [V.ref p3]).flatten) he
      have f1 : Fr K _ (.ref p1) (i1 m) := (fr_two (a := (m : Int)) (b := 1)).mono (t2.trans (t3.trans (t4.trans t5)))
      have t15 := t1.trans (t2.trans (t3.trans (t4.trans t5)))
      have sp2 : SqT K _ p2 [.ref p1] := Bs.Same.t (t3.trans (t4.trans t5)) (SqT.of upd_same)
      refine cat_any sp2 (SqT.of upd_same) (small1000' (by show 1 + 3 ≤ 1000; decide)) fun c H8 s8 sc => ?_
      have fr3 := frs_rep (K := K) (((fr_two (a := (m : Int) + 1) (b := 1)).mono t4).mono (t5.trans s8)) 3
      exact ⟨c, tl.mono (t15.trans s8), ⟨c, _, rfl, sc, .cons (f1.mono s8) fr3⟩, Po.mono (t15.trans s8) py7, rfl⟩
    clear tl py7
    rintro σ H8 ⟨x3, tl, px8, py8, rfl⟩
    refine ⟨fun σ H9 => Tl K H6 H9 L [dP (List.replicate 7 (i1 m)), dP (List.replicate 7 (i1 m))] ∧ σ = [v0, some (.int (o : Nat)), some (.int (m : Nat)), some (.ref x3), some (.ref y), some (.ref L), v6], ?_, ?_⟩
    · obtain ⟨xs, gx, _⟩ := tl.get
      refine ⟨_, rfl, .inl ⟨rfl, _, SqL.of gx⟩, fun w1 H4 s4 d4 => ?_⟩
      refine ⟨_, rfl, _, rfl, (by show 3 ≤ sizeLine; decide), fun z hz => ?_⟩
      have s7 := same_new (o := .tup [w1, .ref x3, .ref y]) hz
      have s37 := s4.trans s7
      refine row_call r4 (dp_lad (SqT.of upd_same) (dp_same s7 _ _ d4) (Po.mono s37 px8) (Po.mono s37 py8)) fun H10 u s8 pu => ?_
      refine ⟨u, .free, _, _, 8, 1, 1, rfl, pu, r4.hy, fun H9 a s9 pa => ?_⟩
      rw [show 8 - 1 = 7 from rfl, r4.cl] at pa
      have s39 := (s37.trans s8).trans s9
      obtain ⟨xs2, gx2, sz2, t2⟩ := (tl.mono s39).push (v := .ref a) (by simp [noLs, noLdP]) (noLdP _) pa.dp (by show 1 ≤ 1000; decide)
      exact ⟨L, xs2, _, rfl, rfl, gx2, sz2, t2, rfl⟩
    clear tl px8 py8
    rintro σ H9 ⟨tl, rfl⟩
    refine ⟨fun σ H10 => Tl K H6 H10 L [dP (List.replicate 7 (i1 m)), dP (List.replicate 7 (i1 m)), dP (clP o m)] ∧ σ = [v0, some (.int (o : Nat)), some (.int (m : Nat)), some (.ref x3), some (.ref y), some (.ref L), v6], ?_, ?_⟩
    · obtain ⟨xs, gx, _⟩ := tl.get
      refine ⟨_, rfl, .inl ⟨rfl, _, SqL.of gx⟩, fun w1 H4 s4 d4 => ?_⟩
      refine ⟨_, rfl, (by show 2 ≤ sizeLine; decide), fun p1 hp1 => fun w2 H11 s11 d11 => ⟨(by show 2 ≤ sizeLine; decide), fun p2 hp2 => ⟨_, rfl, (by show 2 ≤ sizeLine; decide), fun p3 hp3 => fun w3 H12 s12 d12 => ⟨(by show 2 ≤ sizeLine; decide), fun p4 hp4 => ⟨(by show 3 ≤ sizeLine; decide), fun z hz => ?_⟩⟩⟩⟩⟩
      have t1 := same_new (o := .tup [.int (o : Nat), .int 1]) hp1
      have t2 := same_new (o := .tup [.ref p1, w2]) hp2
      have t3 := same_new (o := .tup [.int (m : Nat), .int 1]) hp3
      have t4 := same_new (o := .tup [.ref p3, w3]) hp4
      have t5 := same_new (o := .tup [w1, .ref p2, .ref p4]) hz
      have u25 := t3.trans (s12.trans (t4.trans t5))
      have u15 := t2.trans u25
      have q1 : Po K _ (.ref p2) [i1 o, (0, 1)] := ⟨p2, _, rfl, Bs.Same.t u25 (SqT.of upd_same), .cons ((fr_two (a := (o : Int)) (b := 1)).mono (s11.trans u15)) (.cons (dp_fr (q := (0, 1)) (dp_same u15 _ _ d11)) .nil)⟩
      have q2 : Po K _ (.ref p4) [i1 m, (0, 1)] := ⟨p4, _, rfl, Bs.Same.t t5 (SqT.of upd_same), .cons ((fr_two (a := (m : Int)) (b := 1)).mono (s12.trans (t4.trans t5))) (.cons (dp_fr (q := (0, 1)) (dp_same (t4.trans t5) _ _ d12)) .nil)⟩
      have u05 := t1.trans (s11.trans u15)
      refine row_call r5 (dp_lad (SqT.of upd_same) (dp_same u05 _ _ d4) q1 q2) fun H10 u s8 pu => ?_
      refine ⟨u, .str, _, _, 8, 1, 1, rfl, pu, r5.hy, fun H9 a s9 pa => ?_⟩
      rw [show 8 - 1 = 7 from rfl, r5.cl] at pa
      have s39 := ((s4.trans u05).trans s8).trans s9
      obtain ⟨xs2, gx2, sz2, tt⟩ := (tl.mono s39).push (v := .ref a) (by simp [noLs, noLdP]) (noLdP _) pa.dp (by show 2 ≤ 1000; decide)
      exact ⟨L, xs2, _, rfl, rfl, gx2, sz2, tt, rfl⟩
    clear tl
    rintro σ H10 ⟨tl, rfl⟩
    refine ⟨_, rfl, _, rfl, (by show 2 ≤ sizeLine; decide), fun p1 hp1 => ⟨(by show 1 ≤ sizeLine; decide), fun p2 hp2 => ⟨p2, _, [.ref p1], rfl, rfl, SqT.of upd_same, by simp, by decide, by decide, by simp, fun e1 he1 => ?_⟩⟩⟩
    have a1 := same_new (o := .tup [.int (m : Nat), .int 1]) hp1
    have a2 := same_new (o := .tup [.ref p1]) hp2
    have a3 := same_new (o := .tup (List.replicate ((7 : Int)).toNat [V.ref p1]).flatten) he1
    have g1 : Po K _ (.ref e1) (List.replicate 7 (i1 m)) := rep_po ((fr_two (a := (m : Int)) (b := 1)).mono a2) he1 7
    have a13 := (a1.trans a2).trans a3
    generalize upd (upd (upd H10 p1 (.tup [.int (m : Nat), .int 1])) p2 (.tup [.ref p1])) e1 (.tup (List.replicate ((7 : Int)).toNat [V.ref p1]).flatten) = H11 at *
    refine ⟨_, rfl, (by show 2 ≤ sizeLine; decide), fun p3 hp3 => ⟨(by show 1 ≤ sizeLine; decide), fun p4 hp4 => ⟨p4, _, [.ref p3], rfl, rfl, SqT.of upd_same, by simp, by decide, by decide, by simp, fun e2 he2 => ?_⟩⟩⟩
    have b1 := same_new (o := .tup [.int (m : Nat), .int 1]) hp3
    have b2 := same_new (o := .tup [.ref p3]) hp4
    have b3 := same_new (o := .tup (List.replicate ((7 : Int)).toNat [V.ref p3]).flatten) he2
    have g2 : Po K _ (.ref e2) (List.replicate 7 (i1 m)) := rep_po ((fr_two (a := (m : Int)) (b := 1)).mono b2) he2 7
    have b13 := (b1.trans b2).trans b3
    generalize upd (upd (upd H11 p3 (.tup [.int (m : Nat), .int 1])) p4 (.tup [.ref p3])) e2 (.tup (List.replicate ((7 : Int)).toNat [V.ref p3]).flatten) = H12 at *
    refine ⟨_, rfl, (by show 2 ≤ sizeLine; decide), fun p5 hp5 => ⟨_, rfl, (by show 2 ≤ sizeLine; decide), fun p6 hp6 => ⟨(by show 2 ≤ sizeLine; decide), fun p7 hp7 => ⟨trivial, fun w1 H13 s13 d13 => ?_⟩⟩⟩⟩
    have t2' := same_new (o := .tup [.int (m : Nat), .int 1]) hp6
    have t3 := same_new (o := .tup [.ref p5, .ref p6]) hp7
    have t13 := ((same_new (o := .tup [.int (o : Nat), .int 1]) hp5).trans t2').trans t3
    have f1 : Fr K _ (.ref p5) (i1 o) := (fr_two (a := (o : Int)) (b := 1)).mono ((t2'.trans t3).trans s13)
    have f2 : Fr K _ (.ref p6) (i1 m) := (fr_two (a := (m : Int)) (b := 1)).mono (t3.trans s13)
    have d13 : Dp K H13 w1 (dP (List.replicate 5 (0, 1))) := d13
    obtain ⟨b, ys, rfl, sb, fb⟩ := dp_po d13
    refine cat_any (Bs.Same.t s13 (SqT.of upd_same)) sb (Nat.le_of_lt (small1000 (by rw [fb.len]; show 2 + 5 ≤ 1000; decide))) fun c H14 s14 sc => ?_
    have pc : Po K H14 (.ref c) (clP o m) := ⟨c, _, rfl, sc, FrAll.app (.cons (f1.mono s14) (.cons (f2.mono s14) .nil)) (fb.mono s14)⟩
    have s1214 := (t13.trans s13).trans s14
    refine ⟨(by show 3 ≤ sizeLine; decide), fun M hM => ?_⟩
    have sM := same_new (o := .lst [.ref e1, .ref e2, .ref c]) hM
    have e2s := s1214.trans sM
    have e1s := b13.trans e2s
    have e0s := a13.trans e1s
    refine ⟨_, .list [dP (List.replicate 7 (i1 m)), dP (List.replicate 7 (i1 m)), dP (clP o m)], (tl.mono e0s).dp, .lst (SqL.of upd_same) (.cons (Po.mono e1s g1).dp (.cons (Po.mono e2s g2).dp (.cons (Po.mono sM pc).dp .nil))), shaped_dPs [List.replicate 7 (i1 m), List.replicate 7 (i1 m), clP o m], shaped_dPs [List.replicate 7 (i1 m), List.replicate 7 (i1 m), clP o m], ?_⟩
    rw [show PyData.eqv (.list [dP (List.replicate 7 (i1 m)), dP (List.replicate 7 (i1 m)), dP (clP o m)]) (.list [dP (List.replicate 7 (i1 m)), dP (List.replicate 7 (i1 m)), dP (clP o m)]) = true from eqv_dPs [List.replicate 7 (i1 m), List.replicate 7 (i1 m), clP o m]]
    exact kk _
end
end Rs


set_option Elab.async false
set_option linter.all false
set_option maxRecDepth 100000
set_option maxHeartbeats 1000000
namespace Mk
open Pg
theorem rowsL : ∀ n ∈ [0, 1, 2, 3, 4, 5, 6], 1 ≤ (lawRows n).length ∧ (lawRows n).length ≤ 300 := by decide +kernel
structure DrG (d : Dw) : Prop where
  wo : wayOk d.1 = true
  mo : mksOk d.1 d.2.1 = true
  po : pok d.1 d.2.1 = true
  sz : sizeB (ptd d.1 d.2.1 d.1.length).1 = true
  ho : homesOk (ptd d.1 d.2.1 d.1.length).1 = true
  lo : lok (ptd d.1 d.2.1 d.1.length).1 = true
  ew : lwS (ptd d.1 d.2.1 d.1.length).1 = d.1
  em : lwM (ptd d.1 d.2.1 d.1.length).1 = d.2.1
theorem dr_of {n : Nat} (hn : n ≤ 7) {d : Dw} (h : d ∈ drawnTo n n) : DrG d := by
  have a := D_dr hn h
  unfold drB at a
  simp only [Bool.and_eq_true, decide_eq_true_eq] at a
  obtain ⟨a1, a2, a3, a4, a5, a6, a7, a8, a9⟩ := a
  refine ⟨a1, a2, a3, a4, ?_, a7, a8, a9⟩
  unfold homesOk
  rw [Bool.and_eq_true, decide_eq_true_eq]
  refine ⟨?_, a5⟩
  rw [a6]
  exact (Rs.way_ok a1).1
end Mk
namespace Rs
open PySem PySem.Spec PyProof.Rows L2 Bs Fq LamX RZ Cu Pg Dd Mk
abbrev sLaw39 : Stmt := top 84
abbrev NL39 : List Str := ["script", "state", "some", "k", "way", "marks_so", "parting", "told", "due"]
def spLaw (K : PySem.W.Frag) : Sp := fun vs H Q _ => ∃ (a : Addr) (ns : List Int), vs = [.ref a] ∧ SqL K H a (ns.map V.int) ∧ ns.length ≤ 63 ∧ ∀ H', Q (.bl true) H'
theorem eqv_ints : ∀ b : List Int, PyData.eqv (dI b) (dI b) = true := fun b => by rw [eqv_dI]; exact decide_eq_true rfl
theorem eqv_dW2 (w ms : List Int) : PyData.eqv (dW2 w ms) (dW2 w ms) = true := by
  show (PyData.eqv (dI w) (dI w) && (PyData.eqv (dI ms) (dI ms) && true)) = true
  rw [eqv_ints, eqv_ints]
  rfl
theorem shaped_dW2 (w ms : List Int) : SeqAt.shaped (dW2 w ms) = true := by
  unfold SeqAt.shaped
  rw [Bool.and_eq_true_iff]
  have h : ∀ b : List Int, PyData.canLay0 (dI b) = true := fun b => by simpa [dI, PyData.canLay0] using can_ints b
  refine ⟨by simp [dW2, PyData.canLay0, PyData.canLayAll0, h], decide_eq_true ?_⟩
  have h1 := depth_dI w
  have h2 := depth_dI ms
  simp only [dW2, PyData.depth, PyData.depthAll]
  omega
def dDue : List PyData := [dW2 [1, 1, -1, -1] [-1, -1, 1, 0], dW2 [1, 1, -1, -1] [-1, -1, 0, 0], dW2 [1, 0, -1, 0] [-1, 0, 0, -1], dW2 [] []]
theorem pt_dW {K : PySem.W.Frag} {H : Hp} {v : V} (p : Prt) (h : Dp K H v (dW p)) : Pt K H v p := dp_pt h
section
variable {P : Program} {w : World} {K : PySem.W.Frag} {mg : Str → Option Value} {base : Heap} {f : Addr} {fd : FuncData}
theorem scLaw39 : FnScope NL39 ["script"] (defScope sLaw39) := ⟨rfl, rfl, rfl, by decide +kernel, rfl, by decide +kernel, by decide +kernel⟩
theorem ok_law (F : Fun K "law" "law" sLaw39 f fd) (T : Blt mg) (BG : Cal P w K mg base 2 "_law_begin" (spBegin K)) (DR : Cal P w K mg base 2 "_law_draw" spDraw) (OF : Cal P w K mg base 3 "_law_of" (spOf K)) (LP : Cal P w K mg base 1 "_law_partings" (spLParts K))
    (OR : CalG P w K mg base 7 "_law_one_right" (spOR K)) (DW : Cal P w K mg base 3 "_law_drawn_way" (spDW K)) (PO : Cal P w K mg base 5 "parting_of" (spPO K)) (LM : Cal P w K mg base 2 "_law_marked" (spLM K)) (MW : Cal P w K mg base 6 "marked_way" (spMW K)) (PR : Cal P w K mg base 9 "_law_plain_right" spPR) :
    FnG P w K mg base 10 f fd ["script"] (spLaw K) := by
  refine FnG.ok F scLaw39 (fun vs H Q E h => ?_) (fun cdv A outer s H vs Q E hgd hr h => ?_)
  · obtain ⟨a, ns, rfl, _⟩ := h
    rfl
  · obtain ⟨a, ns, rfl, sq, ln, kk⟩ := h
    refine ⟨_, C8.pss_cut (ps_set (i := 1) scLaw39.nd rfl (Or.inl rfl) (pe_n BG hr (by decide) (by rfl) (pa_cons (pv 0) pa_nil)))
      (C8.pss_cut (ps_set (i := 2) scLaw39.nd rfl (Or.inl rfl) (pe_n LP hr (by decide) (by rfl) (pa_cons (pe_n DR hr (by decide) (by rfl) (pa_cons (pv 1) (pa_cons pe_int pa_nil))) pa_nil)))
      (C8.pss_cut (ps_for PassesOwn.never rfl (pi_range1 rfl T.range (pa_cons (pe_op op_add pe_int (pe_callB (call_min2 rfl) (by rfl) T.min (by decide +kernel) (pa_cons (pe_callB call_len_seq (by rfl) T.len (by decide +kernel) (pa_cons (pv 0) pa_nil)) (pa_cons pe_int pa_nil)))) pa_nil)) (pg_name (i := 3) scLaw39.nd rfl (Or.inl rfl))
      (pss_cons (ps_if (pt_not (pt_val (pe_g OR hgd hr (by decide) (by rfl) (pa_cons (pe_n OF hr (by decide) (by rfl) (pa_cons (pv 1) (pa_cons (pv 2) pa_nil))) pa_nil)))) (pss_one (ps_ret pe_bl)) pss_nil)
        (pss_cons (ps_asg (pe_n DW hr (by decide) (by rfl) (pa_cons (pv 1) (pa_cons (pe_n DR hr (by decide) (by rfl) (pa_cons (pv 1) (pa_cons pe_int pa_nil))) pa_nil))) (pg_tup rfl (pgs_cons (pg_name (i := 4) scLaw39.nd rfl (Or.inl rfl)) (pgs_cons (pg_name (i := 5) scLaw39.nd rfl (Or.inl rfl)) pgs_nil))))
        (pss_cons (ps_set (i := 6) scLaw39.nd rfl (Or.inl rfl) (pe_n PO hr (by decide) (by rfl) (pa_cons (pv 4) (pa_cons (pv 5) pa_nil))))
        (pss_one (ps_if (pt_cmpR (op_neD hr.units) (pe_n LM hr (by decide) (by rfl) (pa_cons (pv 6) pa_nil)) (pe_tup (pa_cons (pv 4) (pa_cons (pv 5) pa_nil))) (nomark _)) (pss_one (ps_ret pe_bl)) pss_nil))))))
      (C8.pss_cut (ps_set (i := 7) scLaw39.nd rfl (Or.inl rfl) (pe_lst (pa_cons (pe_n MW hr (by decide) (by rfl) (pa_cons (pd_tup (pd_cons (pd_tup (pd_cons pd_int (pd_cons pd_int pd_nil))) (pd_cons (pd_tup (pd_cons pd_int (pd_cons pd_int pd_nil))) pd_nil))) pa_nil)) (pa_cons (pe_n MW hr (by decide) (by rfl) (pa_cons (pd_tup (pd_cons (pd_tup (pd_cons pd_int (pd_cons pd_int pd_nil))) (pd_cons (pd_tup (pd_cons pd_int (pd_cons pd_int pd_nil))) pd_nil))) pa_nil)) (pa_cons (pe_n MW hr (by decide) (by rfl) (pa_cons (pd_tup (pd_cons (pd_tup (pd_cons pd_int (pd_cons pd_int (pd_cons pd_int pd_nil)))) (pd_cons (pd_tup (pd_cons pd_int pd_nil)) pd_nil))) pa_nil)) (pa_cons (pe_n MW hr (by decide) (by rfl) (pa_cons (pd_tup pd_nil) pa_nil)) pa_nil))))))
      (C8.pss_cut (ps_set (i := 8) scLaw39.nd rfl (Or.inl rfl) (pe_lst (pd_cons (pd_tup (pd_cons (pd_tup (pd_cons pd_int (pd_cons pd_int (pd_cons pd_neg (pd_cons pd_neg pd_nil))))) (pd_cons (pd_tup (pd_cons pd_neg (pd_cons pd_neg (pd_cons pd_int (pd_cons pd_int pd_nil))))) pd_nil))) (pd_cons (pd_tup (pd_cons (pd_tup (pd_cons pd_int (pd_cons pd_int (pd_cons pd_neg (pd_cons pd_neg pd_nil))))) (pd_cons (pd_tup (pd_cons pd_neg (pd_cons pd_neg (pd_cons pd_int (pd_cons pd_int pd_nil))))) pd_nil))) pd_nil))))
      (C8.pss_cut (ps_set (i := 8) scLaw39.nd rfl (Or.inl rfl) (pe_op op_cat (pv 8) (pe_lst (pd_cons (pd_tup (pd_cons (pd_tup (pd_cons pd_int (pd_cons pd_int (pd_cons pd_neg (pd_cons pd_int pd_nil))))) (pd_cons (pd_tup (pd_cons pd_neg (pd_cons pd_int (pd_cons pd_int (pd_cons pd_neg pd_nil))))) pd_nil))) (pd_cons (pd_tup (pd_cons (pd_tup pd_nil) (pd_cons (pd_tup pd_nil) pd_nil))) pd_nil)))))
      (C8.pss_cut (ps_if (pt_cmpR (op_neD hr.units) (pe_n MW hr (by decide) (by rfl) (pa_cons (pe_tup (pa_cons (pe_tupRg rfl (by rfl) T.tuple (prg_1 (by rfl) T.range pe_int)) pa_nil)) pa_nil)) (pd_tup (pd_cons (pd_tup (pd_cons pd_int (pd_cons pd_int (pd_cons pd_int (pd_cons pd_int (pd_cons pd_int (pd_cons pd_int (pd_cons pd_neg pd_nil)))))))) (pd_cons (pd_tup (pd_cons pd_neg (pd_cons pd_int (pd_cons pd_int (pd_cons pd_int (pd_cons pd_int (pd_cons pd_int (pd_cons pd_int pd_nil)))))))) pd_nil))) (nomark _)) (pss_one (ps_ret pe_bl)) pss_nil)
      (C8.pss_cut (ps_if (PW.pt (pw_or (pt_cmpR (op_neD hr.units) (pv 7) (pv 8) (nomark _)) (pw_or1 (pt_cmpR (op_neD hr.units) (pe_n PO hr (by decide) (by rfl) (pa_cons (pd_tup (pd_cons pd_int (pd_cons pd_int (pd_cons pd_neg (pd_cons pd_neg pd_nil))))) (pa_cons (pd_tup (pd_cons pd_neg (pd_cons pd_neg (pd_cons pd_int (pd_cons pd_int pd_nil))))) pa_nil))) (pd_tup (pd_cons (pd_tup (pd_cons pd_int (pd_cons pd_int pd_nil))) (pd_cons (pd_tup (pd_cons pd_int (pd_cons pd_int pd_nil))) pd_nil))) (nomark _))))) (pss_one (ps_ret pe_bl)) pss_nil)
      (pss_one (ps_ret (pe_n PR hr (by decide) (by rfl) (pa_cons (pv 1) pa_nil))))))))))), ?_⟩
    -- state
    refine ⟨fun σ H1 => ∃ (p c l : Addr) (n : Nat), Sta H1 p c l n 0 ∧ SqL K H1 a (ns.map V.int) ∧ (a ≠ l ∨ ∀ G, SqL K G a (ns.map V.int)) ∧ σ = [some (.ref a), some (.ref p), none, none, none, none, none, none, none], ?_, ?_⟩
    · refine ⟨_, rfl, a, ns, rfl, sq, ln, fun H1 p c l n s1 _ hl S => ⟨p, c, l, n, S, s1.seq sq, ?_, rfl⟩⟩
      rcases sq with (z | ⟨o, z⟩) | z
      · exact .inl fun e => by
          rw [e, hl] at z
          cases z
      · exact .inl fun e => by
          rw [e, hl] at z
          cases z
      · exact .inr fun G => .inr z
    rintro σ H1 ⟨p, c, l, n, S, sq1, nal, rfl⟩
    clear sq
    have lnl : (ns.map V.int).length = ns.length := List.length_map ..
    generalize ns.map V.int = xs at sq1 nal lnl
    -- some
    refine ⟨fun σ H4 => ∃ (m : Nat) (L : Addr) (ys : List V), m ≤ 6 ∧ Sta H4 p c l n 1 ∧ SqL K H4 a xs ∧ H4 L = some (.lst ys) ∧ l ≠ L ∧ Al (Pt K H4) ys (sortW (lawRows m)) ∧ σ = [some (.ref a), some (.ref p), some (.ref L), none, none, none, none, none, none], ?_, ?_⟩
    · refine ⟨_, rfl, p, c, l, n, 0, 7, rfl, S, by decide, by decide, by decide, fun H2 r r0 r1 S2 k2 => ?_⟩
      obtain ⟨m, rfl⟩ : ∃ m : Nat, r = (m : Int) := ⟨r.toNat, by omega⟩
      refine ⟨m, rfl, by omega, fun H4 L ys s4 nL gL al => ?_⟩
      obtain ⟨ls, b1, _⟩ := S2.ls
      have sq2 : SqL K H2 a xs := by
        rcases nal with z | z
        · exact Kp.lst k2 S sq1 z
        · exact z _
      exact ⟨m, L, ys, by omega, S2.mono s4, s4.seq sq2, gL, ne_fresh b1 nL, al, rfl⟩
    clear S sq1
    rintro σ H4 ⟨m, L, ys, m6', S, sq4, gL, nL, al, rfl⟩
    have m6 : m ∈ [0, 1, 2, 3, 4, 5, 6] := by simp; omega
    have ly := al.len
    rw [(sortW_perm _).length_eq] at ly
    obtain ⟨l1, l300⟩ := rowsL m m6
    -- the laps
    refine ⟨fun σ H5 => ∃ (t : Int) (v3 v4 v5 v6 : Option V), Sta H5 p c l n t ∧ t ≤ 1000 ∧ σ = [some (.ref a), some (.ref p), some (.ref L), v3, v4, v5, v6, none, none], ?_, ?_⟩
    · have hm : ∀ m : Nat, 0 ≤ (6 : Int) + (if (6 : Int) < (m : Int) then 6 else (m : Int)) ∧ (6 : Int) + (if (6 : Int) < (m : Int) then 6 else (m : Int)) ≤ 12 := by
        intro m
        split <;> omega
      have hm2 := hm xs.length
      refine ⟨_, rfl, a, _, rfl, Or.inl sq4, _, _, rfl, _, _, rfl, rfl, _, rfl, ?_⟩
      generalize (6 : Int) + (if (6 : Int) < (xs.length : Int) then 6 else (xs.length : Int)) = w6 at hm2 ⊢
      refine ⟨by omega, by omega, for_range (n := w6.toNat) (fun i σ H5 => ∃ (t : Int) (v3 v4 v5 v6 : Option V), Sta H5 p c l n t ∧ t ≤ 1 + 20 * (i : Int) ∧ SqL K H5 L ys ∧ Al (Pt K H5) ys (sortW (lawRows m)) ∧ σ = [some (.ref a), some (.ref p), some (.ref L), v3, v4, v5, v6, none, none]) ⟨1, none, none, none, none, S, by omega, SqL.of gL, al, rfl⟩ ?_ ?_⟩
      · rintro i σ H5 hi ⟨t, v3, v4, v5, v6, S5, tt, sL, al5, rfl⟩
        refine ⟨_, rfl, _, rfl, p, c, l, L, n, _, ys, rfl, S5, by omega, sL, by omega, by omega, Ne.symm nL, fun H6 x hx S6 k6 => ?_⟩
        obtain ⟨q, hq, pq⟩ := al5.mem x hx
        have mq : q ∈ lawRows m := (sortW_perm _).mem_iff.mp hq
        refine ⟨x, q, rfl, pq.kp k6 S5, good_of m6' mq, fun H7 s7 => ⟨_, rfl, ?_⟩⟩
        refine iteF ?_
        have S7 := S6.mono s7
        have sL7 := s7.seq (Kp.lst k6 S5 sL (Ne.symm nL))
        have al7 : Al (Pt K H7) ys (sortW (lawRows m)) := al5.imp fun _ _ z => (z.kp k6 S5).mono s7
        refine ⟨_, rfl, _, rfl, p, c, l, n, _, 8, rfl, S7, by omega, by decide, by decide, fun H8 r r0 r1 S8 k8 => ?_⟩
        obtain ⟨k, rfl⟩ : ∃ k : Nat, r = (k : Int) := ⟨r.toNat, by omega⟩
        refine ⟨p, c, l, n, _, k, rfl, S8, by omega, by omega, fun H9 u d t' dm S9 tt9 k9 w2 => ?_⟩
        have D := dr_of (by omega) dm
        obtain ⟨b, x', y', rfl, sb, ix, iy⟩ := w2
        have k89 := k8.trans k9
        have sL9 := Kp.lst k89 S7 sL7 (Ne.symm nL)
        have al9 : Al (Pt K H9) ys (sortW (lawRows m)) := al7.imp fun _ _ z => z.kp k89 S7
        refine ⟨b, _, rfl, sb, rfl, _, _, rfl, _, _, rfl, rfl, ?_⟩
        refine ⟨_, rfl, _, rfl, x', y', d.1, d.2.1, rfl, ix, iy, D.wo, D.mo, D.po, fun H10 LL s10 pl => ?_⟩
        refine ⟨_, rfl, .ref LL, _, rfl, pl, D.sz, D.ho, D.lo, fun H11 u s11 w3 => ?_⟩
        rw [D.ew, D.em] at w3
        refine ⟨_, rfl, _, rfl, (by show 2 ≤ sizeLine; decide), fun z hz => ?_⟩
        have s12 := same_new (o := .tup [x', y']) hz
        have s911 := s10.trans (s11.trans s12)
        refine ⟨dW2 d.1 d.2.1, dW2 d.1 d.2.1, dp_same s12 _ _ w3.dp, .tup (SqT.of upd_same) (.cons (ix.mono s911).dp (.cons (iy.mono s911).dp .nil)), shaped_dW2 _ _, shaped_dW2 _ _, _, rfl, ?_⟩
        rw [eqv_dW2]
        exact iteF ⟨t', _, _, _, _, S9.mono s911, by omega, s911.seq sL9, al9.imp fun _ _ z => z.mono s911, rfl⟩
      · rintro σ H5 ⟨t, v3, v4, v5, v6, S5, tt, sL, al5, rfl⟩
        exact ⟨t, _, _, _, _, S5, by omega, rfl⟩
    clear S sq4 gL al
    rintro σ H5 ⟨t, v3, v4, v5, v6, S, tt, rfl⟩
    -- told
    refine ⟨fun σ H6 => ∃ M, Same H5 H6 ∧ Dp K H6 (.ref M) (.list dDue) ∧ σ = [some (.ref a), some (.ref p), some (.ref L), v3, v4, v5, v6, some (.ref M), none], ?_, ?_⟩
    · intro w1 H6 s6 d1
      refine ⟨w1, [[0, 2], [1, 3]], rfl, dp_pt d1, by decide, by decide, by decide, by decide, fun H7 u1 s7 r1 => ?_⟩
      intro w2 H8 s8 d2
      refine ⟨w2, [[0, 3], [1, 2]], rfl, dp_pt d2, by decide, by decide, by decide, by decide, fun H9 u2 s9 r2 => ?_⟩
      intro w3 H10 s10 d3
      refine ⟨w3, [[0, 1, 2], [3]], rfl, dp_pt d3, by decide, by decide, by decide, by decide, fun H11 u3 s11 r3 => ?_⟩
      intro w4 H12 s12 d4
      refine ⟨w4, [], rfl, dp_pt d4, by decide, by decide, by decide, by decide, fun H13 u4 s13 r4 => ?_⟩
      refine ⟨(by show 4 ≤ sizeLine; decide), fun M hM => ?_⟩
      have sM := same_new (o := .lst [u1, u2, u3, u4]) hM
      have e4 := sM
      have e3 := (s12.trans s13).trans e4
      have e2 := (s10.trans s11).trans e3
      have e1 := (s8.trans s9).trans e2
      have q1 : Dp K _ u1 (dW2 [1, 1, -1, -1] [-1, -1, 1, 0]) := dp_same e1 _ _ r1.dp
      have q2 : Dp K _ u2 (dW2 [1, 1, -1, -1] [-1, -1, 0, 0]) := dp_same e2 _ _ r2.dp
      have q3 : Dp K _ u3 (dW2 [1, 0, -1, 0] [-1, 0, 0, -1]) := dp_same e3 _ _ r3.dp
      have q4 : Dp K _ u4 (dW2 [] []) := dp_same e4 _ _ r4.dp
      exact ⟨M, s6.trans (s7.trans e1), .lst (SqL.of upd_same) (.cons q1 (.cons q2 (.cons q3 (.cons q4 .nil)))), rfl⟩
    rintro σ H6 ⟨M, s6, dM, rfl⟩
    -- due
    refine ⟨fun σ H7 => ∃ N zs, Same H6 H7 ∧ H7 N = some (.lst zs) ∧ DpAll K H7 zs (dDue.take 2) ∧ σ = [some (.ref a), some (.ref p), some (.ref L), v3, v4, v5, v6, some (.ref M), some (.ref N)], ?_, ?_⟩
    · intro vs H7 s7 d
      have d : DpAll K H7 vs (dDue.take 2) := d
      refine ⟨Nat.le_of_lt (small_line (by rw [dps_len d]; decide)), fun N hN => ?_⟩
      have s8 := same_new (o := .lst vs) hN
      exact ⟨N, vs, s7.trans s8, upd_same, dps_same s8 _ _ d, rfl⟩
    rintro σ H7 ⟨N, zs, s7, gN, dN, rfl⟩
    refine ⟨fun σ H8 => ∃ N, Same H7 H8 ∧ Dp K H8 (.ref N) (.list dDue) ∧ σ = [some (.ref a), some (.ref p), some (.ref L), v3, v4, v5, v6, some (.ref M), some (.ref N)], ?_, ?_⟩
    · refine ⟨_, rfl, fun vs H8 s8 d => ?_⟩
      have d : DpAll K H8 vs (dDue.drop 2) := d
      refine ⟨Nat.le_of_lt (small_line (by rw [dps_len d]; decide)), fun N2 hN2 => ?_⟩
      have s9 := same_new (o := .lst vs) hN2
      have s89 := s8.trans s9
      refine ⟨N, N2, zs, vs, rfl, rfl, s89 _ _ gN, upd_same, small1000' (by rw [dps_len dN, dps_len d]; decide), fun N3 hN3 => ?_⟩
      have s10 := same_new (o := .lst (zs ++ vs)) hN3
      have s810 := s89.trans s10
      exact ⟨N3, s810, .lst (SqL.of upd_same) (dps_app (dps_same s810 _ _ dN) (dps_same (s9.trans s10) _ _ d)), rfl⟩
    clear gN dN
    rintro σ H8 ⟨N, s8, dN, rfl⟩
    -- the long one
    refine ⟨fun σ H9 => Same H8 H9 ∧ σ = [some (.ref a), some (.ref p), some (.ref L), v3, v4, v5, v6, some (.ref M), some (.ref N)], ?_, ?_⟩
    · refine ⟨7, rfl, ⟨by decide, by decide, by decide, by decide, by decide⟩, fun q hq => ⟨(by show 1 ≤ sizeLine; decide), fun z hz => ?_⟩⟩
      have s9 := same_new (o := .tup (rgV 0 7)) hq
      have s10 := same_new (o := .tup [.ref q]) hz
      have pz : Pt K (upd (upd H8 q (.tup (rgV 0 7))) z (.tup [.ref q])) (.ref z) [[0, 1, 2, 3, 4, 5, 6]] := ⟨z, _, rfl, SqT.of upd_same, .cons ⟨q, rfl, Bs.Same.t s10 (SqT.of upd_same)⟩ .nil⟩
      refine ⟨.ref z, [[0, 1, 2, 3, 4, 5, 6]], rfl, pz, by decide, by decide, by decide, by decide, fun H11 u s11 r1 => ?_⟩
      have r1 : Dp K H11 u (dW2 [1, 0, 0, 0, 0, 0, -1] [-1, 0, 0, 0, 0, 0, 0]) := r1.dp
      intro w1 H12 s12 d1
      have d1 : Dp K H12 w1 (dW2 [1, 0, 0, 0, 0, 0, -1] [-1, 0, 0, 0, 0, 0, 0]) := d1
      refine ⟨_, _, dp_same s12 _ _ r1, d1, shaped_dW2 _ _, shaped_dW2 _ _, _, rfl, ?_⟩
      rw [eqv_dW2]
      exact iteF ⟨(s9.trans s10).trans (s11.trans s12), rfl⟩
    rintro σ H9 ⟨s9, rfl⟩
    refine ⟨fun σ H10 => Same H9 H10 ∧ σ = [some (.ref a), some (.ref p), some (.ref L), v3, v4, v5, v6, some (.ref M), some (.ref N)], ?_, ?_⟩
    · refine ⟨_, rfl, _, rfl, _, _, dp_same (s7.trans (s8.trans s9)) _ _ dM, dp_same s9 _ _ dN, by decide +kernel, by decide +kernel, _, rfl, ?_⟩
      rw [show PyData.eqv (.list dDue) (.list dDue) = true by decide +kernel]
      refine ite2 (fun c => absurd c (by decide)) (fun _ => ?_)
      intro w1 H10 s10 d1
      intro w2 H11 s11 d2
      refine ⟨w1, w2, [1, 1, -1, -1], [-1, -1, 1, 0], rfl, (dp_it d1).mono s11, dp_it d2, by decide, by decide, by decide, fun H12 LL s12 pl => ?_⟩
      have pl : Dp K H12 (.ref LL) (dW [[0, 2], [1, 3]]) := pl.dp
      intro w3 H13 s13 d3
      have d3 : Dp K H13 w3 (dW [[0, 2], [1, 3]]) := d3
      refine ⟨_, _, dp_same s13 _ _ pl, d3, by decide +kernel, by decide +kernel, _, rfl, ?_⟩
      rw [show PyData.eqv (dW [[0, 2], [1, 3]]) (dW [[0, 2], [1, 3]]) = true by decide +kernel]
      exact iteF ⟨(s10.trans s11).trans (s12.trans s13), rfl⟩
    rintro σ H10 ⟨s10, rfl⟩
    exact ⟨_, rfl, p, c, l, n, t, rfl, S.mono (s6.trans (s7.trans (s8.trans (s9.trans s10)))), by omega, fun H' => kk H'⟩
end
end Rs


set_option Elab.async false
set_option linter.all false
set_option maxRecDepth 100000
set_option maxHeartbeats 1000000
namespace Rs
open PySem PySem.Spec PyProof.Rows L2 Bs Fq LamX RZ
structure ErrW (K : PySem.W.Frag) (mg : Str → Option Value) (x qual fld : Str) (st : Stmt) (C : Addr) : Prop where
  gC : mg x = some (.ref C)
  oex : OexC K C
  xf : XfC K C
  no : PySem.W.findIn K (.ref C) fld = some none
  ini : ∃ (fI : Addr) (fd : FuncData), PySem.W.findIn K (.ref C) "__init__" = some (some (.ref fI)) ∧ PySem.W.typeIn K (.ref fI) = some (.type "function") ∧ Fun K "__init__" qual st fI fd ∧ Binds K fd ["self", fld] []
abbrev sInitN : Stmt := inClass (top 6) 0
section
variable {P : Program} {w : World} {K : PySem.W.Frag} {mg : Str → Option Value} {base : Heap} {f : Addr} {fd : FuncData}
theorem scInitN : FnScope ["self", "given"] ["self", "given"] (defScope sInitN) := ⟨rfl, rfl, rfl, by decide +kernel, rfl, by decide +kernel, by decide +kernel⟩
theorem ok_initN {C : Addr} {q : Str} (F : Fun K "__init__" q sInitN f fd) (T : OexC K C) (no : PySem.W.findIn K (.ref C) "given" = some none) : FnOk P w K mg base CX0 1 f fd ["self", "given"] (spInit K C) := by
  refine F.ok scInitN (fun vs H Q E h => ?_) (fun cdv A outer s H vs Q E hr h => ?_)
  · obtain ⟨a, y, rfl, _⟩ := h
    rfl
  · obtain ⟨a, y, rfl, ha, k⟩ := h
    exact ⟨_, pss_one (ps_ost (pv 0) (pv 1)), _, rfl, _, rfl, a, C, rfl, T, no, .inl ⟨ha, fun dx n1 n2 => k dx n1 n2⟩⟩
theorem Err.okN {x q : Str} {C : Addr} (T : Err K mg x q sInitN C) : ErrOk P w K mg base x C := by
  obtain ⟨fI, fd, a, b, F, bi⟩ := T.ini
  exact ⟨T.gC, T.oex, fI, fd, a, b, ok_initN F T.oex T.no, bi⟩
end
abbrev sIL : Stmt := inClass (top 4) 0
section
variable {P : Program} {w : World} {K : PySem.W.Frag} {mg : Str → Option Value} {base : Heap} {f : Addr} {fd : FuncData}
theorem scIL : FnScope ["self", "given"] ["self", "given"] (defScope sIL) := ⟨rfl, rfl, rfl, by decide +kernel, rfl, by decide +kernel, by decide +kernel⟩
theorem ok_iL {C : Addr} {q : Str} (F : Fun K "__init__" q sIL f fd) (T : OexC K C) (no : PySem.W.findIn K (.ref C) "given" = some none) : FnOk P w K mg base CX0 1 f fd ["self", "given"] (spInitW K C "given") := by
  refine F.ok scIL (fun vs H Q E h => ?_) (fun cdv A outer s H vs Q E hr h => ?_)
  · obtain ⟨a, y, rfl, _⟩ := h
    rfl
  · obtain ⟨a, y, rfl, ha, k⟩ := h
    exact ⟨_, pss_one (ps_ost (pv 0) (pv 1)), _, rfl, _, rfl, a, C, rfl, T, no, .inl ⟨ha, fun dx n1 n2 => k dx n1 n2⟩⟩
theorem ErrW.okL {x q : Str} {C : Addr} (T : ErrW K mg x q "given" sIL C) : ErrOkW P w K mg base x "given" C := by
  obtain ⟨fI, fd, a, b, F, bi⟩ := T.ini
  exact ⟨T.gC, T.oex, fI, fd, a, b, ok_iL F T.oex T.no, bi⟩
end
end Rs


set_option Elab.async false
set_option linter.all false
set_option maxRecDepth 100000
set_option maxHeartbeats 1000000
/-! the end of a law with tables of lambdas, for a promise that wants no guards -/
namespace Rs
open PySem PySem.Spec PyProof.Rows L2 Bs LamX
/-- what is tracked at the law's call: the empty tables; the script, if t -/
def hof (ts : List Addr) (a : Addr) (t : Bool) (u : HO) : Hp := fun b => if b ∈ ts then some (.tbl #[]) else if b = a ∧ t = true then some u else none
section
variable {ts : List Addr} {a b : Addr} {t : Bool} {u x : HO}
theorem hof_some (h : hof ts a t u b = some x) : (b ∈ ts ∧ x = .tbl #[]) ∨ (b = a ∧ t = true ∧ x = u) := by
  unfold hof at h
  split at h
  · rename_i m
    cases h
    exact .inl ⟨m, rfl⟩
  · split at h
    · rename_i z
      cases h
      exact .inr ⟨z.1, z.2, rfl⟩
    · cases h
theorem hof_tab (m : b ∈ ts) : hof ts a t u b = some (.tbl #[]) := if_pos m
theorem hof_at (n : a ∉ ts) (e : t = true) : hof ts a t u a = some u := (if_neg n).trans (if_pos ⟨rfl, e⟩)
end
section
variable {P : Program} {w : World} {K : PySem.W.Frag} {mg mb : Str → Option Value} {k : Nat} {fa a : Addr} {cs : List (Addr × Addr)} {fd : FuncData} {x : Str} {sp : Sp} {s0 : Shared} {vs : List Value} {ns : List Int}
theorem callG (inK : K.In s0.heap) (gM : s0.heap.Ns mainGlobals mg) (gB : s0.heap.Ns builtinsNs mb) (gV : ∀ y : Str, y ≠ "__name__" → mb y = bootBuiltins y) (gL : s0.heap.NoLimit) (gG : s0.gens = #[])
    (tE : ∀ q ∈ cs, s0.heap.get? q.2 = some (PySem.W.tabObj #[])) (tK : ∀ q ∈ cs, K.lookup q.2 = none) (tH : ∀ q ∈ cs, PySem.W.codeHdIn K q.1 q.2 = true)
    (gb : ∃ (m : Addr) (o : Obj), mg "__builtins__" = some (.ref m) ∧ m ≠ builtinsNs ∧ s0.heap.get? m = some o ∧ o.cls = .type "module" ∧ o.dict = some builtinsNs ∧ o.data = .plain)
    (sc : s0.heap.get? a = some { cls := .type "list", data := .seq vs.toArray }) (si : IntsAre vs ns) (sl : ns.length ≤ sizeLine) (room : Room k callerA)
    (prom : ∀ base : Heap, K.In base → base.Ns mainGlobals mg → (∀ q ∈ cs, TabB base mg q.1 q.2) → FnG P w K mg base k fa fd [x] sp) (bnd : ∀ (s : Shared) (u : Value), BindsTo s fd ⟨[u], []⟩ [(x, u)])
    (wish : ∀ H : Hp, (∀ q ∈ cs, H q.2 = some (.tbl #[])) → SqL K H a (ns.map V.int) → sp [.ref a] H (fun v _ => v = .bl true) fun _ _ _ => False) :
    codeAny (model P w) callerA (.call (.ref fa) ⟨[.ref a], []⟩) (fun r s' => r = .ok (.ret (.bool true)) ∧ OldK s0.heap s'.heap ∧ s'.os = s0.os ∧ AllBare s'.gens) s0 := by
  have rv := vals_ints si
  have lv := si.length
  generalize hts : cs.map (·.2) = ts
  have inT : ∀ b ∈ ts, ∃ c, (c, b) ∈ cs := fun b hb => by
    rw [← hts] at hb
    obtain ⟨⟨c, b'⟩, h1, h2⟩ := List.mem_map.mp hb
    cases h2
    exact ⟨c, h1⟩
  have toT : ∀ q ∈ cs, q.2 ∈ ts := fun q hq => by
    rw [← hts]
    exact List.mem_map.mpr ⟨q, hq, rfl⟩
  have tab : ∀ b ∈ ts, s0.heap.get? b = some (PySem.W.tabObj #[]) := fun b hb => by
    obtain ⟨c, m⟩ := inT b hb
    exact tE _ m
  have aT : a ∉ ts := fun z => by
    have e := (tab a z).symm.trans sc
    cases e
  -- the script's own record
  generalize hso : ({ cls := .type "list", data := .seq vs.toArray } : Obj) = so at sc
  generalize hH : hof ts a (K.lookup a).isNone (.frz so (.lst (ns.map V.int))) = H
  have why : ∀ {b : Addr} {u : HO}, H b = some u → (b ∈ ts ∧ u = .tbl #[]) ∨ (b = a ∧ K.lookup a = none ∧ u = .frz so (.lst (ns.map V.int))) := fun {b u} e => by
    rw [← hH] at e
    rcases hof_some e with z | ⟨z1, z2, z3⟩
    · exact .inl z
    · exact .inr ⟨z1, Option.isNone_iff_eq_none.mp z2, z3⟩
  have hT : ∀ q ∈ cs, H q.2 = some (.tbl #[]) := fun q hq => by
    rw [← hH]
    exact hof_tab (toT q hq)
  have hS : SqL K H a (ns.map V.int) := by
    cases e : K.lookup a with
    | none =>
      refine .inl (.inr ⟨so, ?_⟩)
      rw [← hH]
      exact hof_at aT (by rw [e]; rfl)
    | some o =>
      have e2 := inK a o e
      rw [sc] at e2
      cases e2
      subst hso
      exact .inr ⟨_, vs.toArray, _, e, rfl, rfl, rfl, by rw [List.size_toArray, lv]; exact sl, by simpa using rv⟩
  have ok0 : HOk P w H s0.heap := fun b u e => by
    rcases why e with ⟨z, rfl⟩ | ⟨rfl, _, rfl⟩
    · exact tab b z
    · refine ⟨sc, ?_⟩
      subst hso
      exact ⟨by rw [List.length_map]; exact sl, vs, _, rv, sc⟩
  -- what is neither a list nor an empty table isn't tracked
  have off : ∀ {b : Addr} {o : Obj}, s0.heap.get? b = some o → (∀ (z : Array Value) (m : Nat), o.data ≠ .seq z m) → o.data ≠ .fields #[] → H b = none := fun {b o} e n1 n2 => by
    cases q : H b with
    | none => rfl
    | some u =>
      rcases why q with ⟨z, _⟩ | ⟨z, _, _⟩
      · rw [tab b z] at e
        cases e
        exact absurd rfl n2
      · rw [z, sc] at e
        cases e
        subst hso
        exact absurd rfl (n1 _ _)
  have low : ∀ {b : Addr} {o : Obj}, s0.heap.get? b = some o → H b = none → (hidT s0.heap H).get? b = some o := fun e n => hidT_get e n
  have offD : ∀ {b : Addr} {m : Str → Option Value}, s0.heap.Ns b m → (hidT s0.heap H).Ns b m := by
    rintro b m ⟨o, es, ep, e, d, r⟩
    exact ⟨o, es, ep, low e (off e (fun z m' q => by rw [d] at q; cases q) fun q => by rw [d] at q; cases q), d, r⟩
  have offK : K.In (hidT s0.heap H) := fun b o e => low (inK b o e) (by
    cases q : H b with
    | none => rfl
    | some u =>
      rcases why q with ⟨z, _⟩ | ⟨z, n, _⟩
      · obtain ⟨c, m⟩ := inT b z
        exact absurd (e.symm.trans (tK _ m)) (by simp)
      · rw [z, n] at e
        cases e)
  have M : L2.Mod K mg (hidT s0.heap H) := by
    obtain ⟨mc, c1, c2⟩ := gL
    exact ⟨offK, offD gM, ⟨mb, offD gB, gV⟩, mc, offD c1, c2⟩
  have TB : ∀ q ∈ cs, TabB (hidT s0.heap H) mg q.1 q.2 := fun q hq => by
    obtain ⟨m, o, m1, m2, m3, m4, m5, m6⟩ := gb
    have pl : ∀ {d : Data}, d = o.data → d = .plain := fun z => z.trans m6
    refine NdefX.tabB_of_K offK (tH q hq) ⟨m, o, m1, m2, fun z => ?_, fun z => ?_, low m3 (off m3 (fun z m' e => by rw [m6] at e; cases e) fun e => by rw [m6] at e; cases e), m4, m5, m6⟩ fun z => ?_
    · obtain ⟨o2, es, ep, e, d, _⟩ := gM
      rw [← z, m3] at e
      cases e
      rw [m6] at d
      cases d
    · have e := tE q hq
      rw [← z, m3] at e
      cases e
      cases m6
    · obtain ⟨o2, es, ep, e, d, _⟩ := gM
      rw [z, tE q hq] at e
      cases e
      cases d
  have E : Env0 P w K mg (hidT s0.heap H) callerA [] s0 H :=
    { frames := rfl, mod := M, bs := fun b o e => of_hidT e, bsz := Nat.le_of_eq (hidT_size _ _), funs := trivial, frf := (fun b hb => nomatch hb), hok := ok0, bare := .of_eq gG }
  refine codeAny_mono ((prom _ offK (offD gM) TB).run callerA [] s0 H ⟨[.ref a], []⟩ [.ref a] [.ref a] _ _ rfl room E (bnd s0 (.ref a)) (.cons rfl .nil) (wish H hT hS)) fun r s' h => ?_
  rcases r with e | fl
  · exact (show False from h).elim
  · cases fl with
    | next => exact (show False from h).elim
    | brk => exact (show False from h).elim
    | cont => exact (show False from h).elim
    | ret u =>
      obtain ⟨v, H2, os, bare, un, ok2, r2, rfl⟩ := h
      obtain rfl : u = Value.bool true := r2
      have more : ∀ b ∈ ts, ∃ m : Array Value, s'.heap.get? b = some (PySem.W.tabObj m) := fun b hb => by
        obtain ⟨c, hm⟩ := inT b hb
        obtain ⟨m, z⟩ := un.tbls b #[] (hT _ hm)
        exact ⟨_, ok2 b _ z⟩
      have same : ∀ b o, b ∉ ts → s0.heap.get? b = some o → s'.heap.get? b = some o := fun b o nb e => by
        cases q : H b with
        | none => exact un.keep b o e q (fun z => nomatch z) fun z => nomatch z
        | some u =>
          rcases why q with ⟨z, _⟩ | ⟨_, _, rfl⟩
          · exact absurd z nb
          · have g1 := (ok0 b _ q).1
            have g2 := (ok2 b _ (un.frzs b _ _ q)).1
            rw [e] at g1
            cases g1
            exact g2
      refine ⟨rfl, ⟨fun b o e => ?_, fun b o e => ?_⟩, os, bare⟩
      · by_cases hb : b ∈ ts
        · obtain ⟨c, hm⟩ := inT b hb
          obtain ⟨m, g⟩ := more b hb
          rw [tab b hb] at e
          cases e
          exact .inr (.inl ⟨((PySem.W.codeHd_of_K inK (tH _ hm)).tab (tab b hb)).isCodeTable, rfl, #[], m, rfl, by rw [Array.empty_append]; exact g⟩)
        · exact .inl (same b o hb e)
      · by_cases hb : b ∈ ts
        · obtain ⟨m, g⟩ := more b hb
          exact ⟨_, g⟩
        · exact ⟨o, same b o hb e⟩
end
end Rs


set_option Elab.async false
set_option linter.all false
set_option maxRecDepth 100000
set_option maxHeartbeats 1000000
namespace Rs
open PySem PySem.Spec PyProof.Rows L2 Bs LamX
section
variable {K : PySem.W.Frag} {h : Heap} {mg : Str → Option Value} {f C c P : Addr} {x q qual : Str} {st : Stmt} {ps : List Str} {oc kV doc pm cdv ct : Value} {od an : Option Addr} {sl : Array (Option Value)}
theorem defN_mk (X : K.In h) (G : h.Ns mainGlobals mg) (a : PySem.W.nsIn K mainGlobals x = some (some (.ref f)))
    (l : K.lookup f = some ⟨oc, od, .func (PySem.W.fnOf x x (defArgs st) (defBody st) (defScope st) .none kV doc pm an cdv ct), sl⟩) (c : PySem.W.codeIn K cdv x = true) (k : PySem.W.keepIn K (.ref f) = true)
    (b : ∀ (kV doc pm : Value) (an : Option Addr) (cdv ct : Value) (us : List Value), us.length = ps.length → bindArgs (PySem.W.fnOf x x (defArgs st) (defBody st) (defScope st) .none kV doc pm an cdv ct) ⟨us, []⟩ = pure (ps.zip us)) : DefN K mg x st ps :=
  ⟨f, _, fun_mk l c k, PySem.W.mg_of X G a, (fun_mk l c k).binds b⟩
end
section
variable {K : PySem.W.Frag} {mg : Str → Option Value} {CL CN : Addr}
structure Top0 (K : PySem.W.Frag) (mg : Str → Option Value) (CL CN : Addr) : Prop where
  l_begin : DefN K mg "_law_begin" sBegin ["script"]
  l_mixed : DefN K mg "_law_mixed" sMixed ["cell", "k"]
  l_draw : DefN K mg "_law_draw" sDraw ["state", "many"]
  l_of : DefN K mg "_law_of" sOf ["state", "some"]
  l_partings : DefN K mg "_law_partings" sLParts ["many"]
  l_home : DefN K mg "_law_home" sLHome ["parting", "number"]
  l_marked : DefN K mg "_law_marked" sLM ["parting"]
  d_is_whole : DefN K mg "is_whole" sWhole ["thing"]
  d_is_between : DefN K mg "is_between" sBetween ["thing", "low", "high"]
  d_is_block : DefN K mg "is_block" sIsBlk ["thing"]
  d_is_parting : DefN K mg "is_parting" sIsPart ["thing"]
  d_need_parting : DefN K mg "need_parting" sNeedPart ["parting"]
  d_step_of : DefN K mg "step_of" sStepOf ["block", "number"]
  d_mark_of : DefN K mg "mark_of" sMarkOf ["parting", "block", "number"]
  d_marked_way : DefN K mg "marked_way" sMW ["parting"]
  d_heights_by : DefN K mg "heights_by" sHts ["start", "way"]
  d_is_way : DefN K mg "is_way" sIsWay ["start", "thing"]
  d_is_mark : DefN K mg "is_mark" sIsMk ["step", "height", "thing"]
  d_are_marks : DefN K mg "are_marks" sAreMk ["way", "thing"]
  d_parted : DefN K mg "parted" sPD ["way", "marks"]
  d_parting_of : DefN K mg "parting_of" sPO ["way", "marks"]
  l_is_free : DefN K mg "_law_is_free" sLFree ["parting", "many"]
  l_is_kind : DefN K mg "_law_is_kind" sLKind ["kind", "parting"]
  l_one_right : DefN K mg "_law_one_right" sOR ["parting"]
  l_drawn_way : DefN K mg "_law_drawn_way" sDW ["state", "many"]
  d_has_end : DefN K mg "has_end" sHasEnd ["ladder"]
  d_need_between : DefN K mg "need_between" sNeedB ["thing", "low", "high"]
  d_need_top : DefN K mg "need_top" sNeedTop ["ladder", "top"]
  d_is_fraction : DefN K mg "is_fraction" sFraction ["thing"]
  d_is_positive : DefN K mg "is_positive" sPosi ["thing"]
  d_are_fractions : DefN K mg "are_fractions" sAreF ["thing", "most"]
  d_are_above : DefN K mg "are_above" sAbove ["some"]
  d_is_ladder : DefN K mg "is_ladder" sIsLad ["thing"]
  d_need_ladder : DefN K mg "need_ladder" sNeedLad ["thing"]
  d_reduced : DefN K mg "reduced" sReduced ["top", "bottom"]
  d_added : DefN K mg "added" sAdded ["one", "other"]
  d_timed : DefN K mg "timed" sTimed ["one", "other"]
  d_stepped : DefN K mg "stepped" sStepped ["sums", "levels", "steps"]
  d_row_to : DefN K mg "row_to" sRowTo ["ladder", "top"]
  d_row_of : DefN K mg "row_of" sRowOf ["ladder", "top"]
  d_is_row : DefN K mg "is_row" sIsRow ["thing"]
  d_need_row : DefN K mg "need_row" sNeedRow ["thing"]
  d_divided : DefN K mg "divided" sDivided ["one", "other"]
  d_unit_moments : DefN K mg "unit_moments" sUM ["row"]
  d_trimmed : DefN K mg "trimmed" sTrim ["some"]
  d_poly_timed : DefN K mg "poly_timed" sPTimed ["one", "other"]
  d_at_power : DefN K mg "at_power" sAt ["poly", "number"]
  d_power_part : DefN K mg "power_part" sPP ["moments", "number", "place"]
  d_beside : DefN K mg "beside" sBE ["kind", "moments", "number", "size"]
  d_moment_from : DefN K mg "moment_from" sMF ["kind", "moments", "cumulants", "number"]
  d_lessened : DefN K mg "lessened" sLessened ["one", "other"]
  d_cumulants_by : DefN K mg "cumulants_by" sCB ["row", "kind"]
  d_need_kind : DefN K mg "need_kind" sNeedKind ["kind"]
  d_cumulants_of : DefN K mg "cumulants_of" sCO ["row", "kind"]
  l_plain_right : DefN K mg "_law_plain_right" sPR ["state"]
  law : DefN K mg "law" sLaw39 ["script"]
  eL : ErrW K mg "BadLadder" "BadLadder.__init__" "given" sIL CL
  eN : Err K mg "BadNumber" "BadNumber.__init__" sInitN CN
  z : Nou K mg
  t : Blt mg
  mn : MostN mg
  no : NoneG mg
  m7 : Most7 mg
  bn : Bnds mg
  ms : Mosts mg
  og : OneG K mg
  m9 : Most9 mg
  kg : KindsG K mg
  n_sorted : mg "sorted" = none
  n_zip : mg "zip" = none
  n_sum : mg "sum" = none
  n_enumerate : mg "enumerate" = none
  n_all : mg "all" = none
  n_any : mg "any" = none
  n_str : mg "str" = none
theorem law_prom {P : Program} {w : World} (D : Top0 K mg CL CN) {fa : Addr} (hfa : mg "law" = some (.ref fa)) :
    ∃ fd : FuncData, (∀ (s : Shared) (u : Value), BindsTo s fd ⟨[u], []⟩ [("script", u)]) ∧
      ∀ base : Heap, FnG P w K mg base 10 fa fd ["script"] (spLaw K) := by
  obtain ⟨f, fd, F, m, bi⟩ := D.law.ex
  rw [hfa] at m
  cases m
  refine ⟨fd, ?_, fun base => ?_⟩
  · obtain ⟨oc, od, kV, doc, pm, an, cdv, ct, osl, rfl, _, _⟩ := F.ex
    exact fun s u => .of_eq rfl
  have T := D.t
  have eL : ErrOkW P w K mg base "BadLadder" "given" CL := D.eL.okL
  have eN : ErrOk P w K mg base "BadNumber" CN := D.eN.okN
  have l_begin := D.l_begin.cal (P := P) (w := w) (base := base) fun f fd F => ok_begin F T
  have l_mixed := D.l_mixed.cal (P := P) (w := w) (base := base) fun f fd F => ok_mixed F T
  have l_draw := D.l_draw.cal (P := P) (w := w) (base := base) fun f fd F => ok_draw F T l_mixed
  have l_of := D.l_of.cal (P := P) (w := w) (base := base) fun f fd F => ok_of F T l_draw
  have l_partings := D.l_partings.cal (P := P) (w := w) (base := base) fun f fd F => ok_lparts F T D.n_sorted
  have l_home := D.l_home.cal (P := P) (w := w) (base := base) fun f fd F => ok_lhome F D.n_enumerate
  have l_marked := D.l_marked.cal (P := P) (w := w) (base := base) fun f fd F => ok_lm F T D.n_sum l_home
  have d_is_whole := D.d_is_whole.cal (P := P) (w := w) (base := base) fun f fd F => ok_whole F T
  have d_is_between := D.d_is_between.cal (P := P) (w := w) (base := base) fun f fd F => ok_between F d_is_whole
  have d_is_block := D.d_is_block.cal (P := P) (w := w) (base := base) fun f fd F => ok_isBlk F T D.n_all D.n_zip D.mn d_is_between
  have d_is_parting := D.d_is_parting.cal (P := P) (w := w) (base := base) fun f fd F => ok_isPart F T D.n_all D.n_any D.n_zip D.n_sorted d_is_block
  have d_need_parting := D.d_need_parting.cal (P := P) (w := w) (base := base) fun f fd F => ok_needPart F d_is_parting
  have d_step_of := D.d_step_of.cal (P := P) (w := w) (base := base) fun f fd F => ok_stepOf F
  have d_mark_of := D.d_mark_of.cal (P := P) (w := w) (base := base) fun f fd F => ok_markOf F T D.no
  have d_marked_way := D.d_marked_way.cal (P := P) (w := w) (base := base) fun f fd F => ok_mw F T D.n_sorted d_need_parting d_step_of d_mark_of
  have d_heights_by := D.d_heights_by.cal (P := P) (w := w) (base := base) fun f fd F => ok_hts F T
  have d_is_way := D.d_is_way.cal (P := P) (w := w) (base := base) fun f fd F => ok_isWay F T D.bn D.n_all d_is_between d_heights_by
  have d_is_mark := D.d_is_mark.cal (P := P) (w := w) (base := base) fun f fd F => ok_isMk F D.no d_is_between
  have d_are_marks := D.d_are_marks.cal (P := P) (w := w) (base := base) fun f fd F => ok_areMk F T D.n_all D.n_zip d_heights_by d_is_mark
  have d_parted := D.d_parted.cal (P := P) (w := w) (base := base) fun f fd F => ok_pd F T D.n_enumerate D.no
  have d_parting_of := D.d_parting_of.cal (P := P) (w := w) (base := base) fun f fd F => ok_po F T D.n_sum D.m7 d_is_way d_are_marks d_parted
  have l_is_free := D.l_is_free.cal (P := P) (w := w) (base := base) fun f fd F => ok_lfree F T l_home
  have l_is_kind := D.l_is_kind.cal (P := P) (w := w) (base := base) fun f fd F => ok_lkind F T D.n_sum l_is_free
  have l_one_right := D.l_one_right.calG (P := P) (w := w) (base := base) fun f fd F => ok_or F T D.n_zip l_marked d_marked_way d_parting_of l_is_kind
  have l_drawn_way := D.l_drawn_way.cal (P := P) (w := w) (base := base) fun f fd F => ok_dw F T l_draw
  have d_has_end := D.d_has_end.cal (P := P) (w := w) (base := base) fun f fd F => ok_hasEnd F T D.z
  have d_need_between := D.d_need_between.calX (P := P) (w := w) (base := base) fun f fd F => ok_needB F eN d_is_between
  have d_need_top := D.d_need_top.calX (P := P) (w := w) (base := base) fun f fd F => ok_needTop F T D.ms d_has_end d_need_between
  have d_is_fraction := D.d_is_fraction.cal (P := P) (w := w) (base := base) fun f fd F => ok_fraction F T d_is_whole
  have d_is_positive := D.d_is_positive.cal (P := P) (w := w) (base := base) fun f fd F => ok_posi F d_is_fraction
  have d_are_fractions := D.d_are_fractions.cal (P := P) (w := w) (base := base) fun f fd F => ok_areF F T D.n_all d_is_fraction
  have d_are_above := D.d_are_above.cal (P := P) (w := w) (base := base) fun f fd F => ok_above F D.n_all
  have d_is_ladder := D.d_is_ladder.cal (P := P) (w := w) (base := base) fun f fd F => ok_isLad F T D.ms D.z d_is_positive d_are_fractions d_are_above
  have d_need_ladder := D.d_need_ladder.calX (P := P) (w := w) (base := base) fun f fd F => ok_needLad F eL d_is_ladder
  have d_reduced := D.d_reduced.cal (P := P) (w := w) (base := base) fun f fd F => ok_reduced F T
  have d_added := D.d_added.cal (P := P) (w := w) (base := base) fun f fd F => ok_added F d_reduced
  have d_timed := D.d_timed.cal (P := P) (w := w) (base := base) fun f fd F => ok_timed F d_reduced
  have d_stepped := D.d_stepped.cal (P := P) (w := w) (base := base) fun f fd F => ok_stepped F T D.z d_added d_timed
  have d_row_to := D.d_row_to.cal (P := P) (w := w) (base := base) fun f fd F => ok_rowTo F T D.og d_stepped d_timed
  have d_row_of := D.d_row_of.calX (P := P) (w := w) (base := base) fun f fd F => ok_rowOf F d_need_top d_need_ladder d_row_to
  have d_is_row := D.d_is_row.cal (P := P) (w := w) (base := base) fun f fd F => ok_isRow F T D.m9 d_are_fractions
  have d_need_row := D.d_need_row.cal (P := P) (w := w) (base := base) fun f fd F => ok_needRow0 F d_is_row
  have d_divided := D.d_divided.cal (P := P) (w := w) (base := base) fun f fd F => ok_divided F d_reduced
  have d_unit_moments := D.d_unit_moments.cal (P := P) (w := w) (base := base) fun f fd F => ok_um F d_divided
  have d_trimmed := D.d_trimmed.cal (P := P) (w := w) (base := base) fun f fd F => ok_trim F T D.z
  have d_poly_timed := D.d_poly_timed.cal (P := P) (w := w) (base := base) fun f fd F => ok_ptimedL F T D.n_enumerate D.z d_added d_timed d_trimmed
  have d_at_power := D.d_at_power.cal (P := P) (w := w) (base := base) fun f fd F => ok_at F T D.z
  have d_power_part := D.d_power_part.cal (P := P) (w := w) (base := base) fun f fd F => ok_pp F T D.og d_poly_timed d_at_power
  have d_beside := D.d_beside.cal (P := P) (w := w) (base := base) fun f fd F => ok_be F T d_power_part d_timed
  have d_moment_from := D.d_moment_from.cal (P := P) (w := w) (base := base) fun f fd F => ok_mfL F T D.z D.n_enumerate d_added d_timed d_beside
  have d_lessened := D.d_lessened.cal (P := P) (w := w) (base := base) fun f fd F => ok_lessened F d_reduced
  have d_cumulants_by := D.d_cumulants_by.cal (P := P) (w := w) (base := base) fun f fd F => ok_cb F T d_unit_moments d_moment_from d_lessened
  have d_need_kind := D.d_need_kind.cal (P := P) (w := w) (base := base) fun f fd F => ok_needKind F T D.n_str D.kg
  have d_cumulants_of := D.d_cumulants_of.cal (P := P) (w := w) (base := base) fun f fd F => ok_co F d_need_row d_cumulants_by d_need_kind
  have l_plain_right := D.l_plain_right.cal (P := P) (w := w) (base := base) fun f fd F => ok_pr F T l_draw d_row_of d_cumulants_of
  exact ok_law F T l_begin l_draw l_of l_partings l_one_right l_drawn_way d_parting_of l_marked d_marked_way l_plain_right
theorem walkG {l : PySem.W.OpenLaw} {q : Program} {loose : List Str} {XP : (Str → Option Value) → Heap → Prop} {YP : World → Heap → Prop} {d : DefRec} {KK : Params → PySem.W.Frag} (hn : l.most = some 63) (hd : d.params.defaults = [])
    (hY : ∀ (w : World) (h : Heap), YP w h → (KK w.params).In h)
    (F : ∀ (w : World) (mg : Str → Option Value) (fa : Addr) (h : Heap), (KK w.params).In h → h.Ns mainGlobals mg → mg d.name = some (.ref fa) → ∃ (CL CN : Addr), Top0 (KK w.params) mg CL CN ∧ mg "law" = some (.ref fa)) :
    PySem.W.WalkO q loose XP YP l.row.toRowW d [] (fun f vs => PySem.call f vs) := by
  refine Att.attach_callB hn hd fun w s9 s0 mg mb fa o pm cd doc a vs ns GG Y h1 h2 h3 hm hs hi hl hb hg => ?_
  have inK := hY w _ Y
  obtain ⟨CL, CN, D, m⟩ := F w mg fa _ inK GG.T.g hm
  obtain ⟨fd, bnd, pr⟩ := law_prom (P := l.prog) (w := w) D m
  refine callG (cs := []) inK GG.T.g GG.T.b GG.T.builtins GG.T.nolimit hg (fun r hr => by cases hr) (fun r hr => by cases hr) (fun r hr => by cases hr) GG.T.bmain hs hi (Nat.le_trans hl (by decide)) ⟨rfl, by decide, by decide⟩ (fun base _ _ _ => pr base) bnd fun H ht hq => ?_
  exact ⟨a, ns, rfl, hq, hl, fun _ => rfl⟩
end
end Rs


set_option Elab.async false
set_option linter.all false
set_option maxRecDepth 100000
set_option maxHeartbeats 1000000
namespace Rs
open PySem PySem.Spec PyProof.Rows L2 Bs LamX
section
variable {K : PySem.W.Frag} {h : Heap} {mg : Str → Option Value}
theorem nou_mk {a : Addr} {t1 t2 : Tok} {n : Nat} {sl : Array (Option Value)} (X : K.In h) (G : h.Ns mainGlobals mg) (e : PySem.W.nsIn K mainGlobals "NOUGHT" = some (some (.ref a)))
    (l : K.lookup a = some ⟨.type "tuple", none, .seq #[.int 0 t1, .int 1 t2] n, sl⟩) : Nou K mg :=
  ⟨a, PySem.W.mg_of X G e, fun H => .inr ⟨_, _, _, l, rfl, rfl, (by show 2 ≤ sizeLine; decide), .cons ⟨_, rfl⟩ (.cons ⟨_, rfl⟩ .nil)⟩⟩
theorem blt_mk (X : K.In h) (G : h.Ns mainGlobals mg) (h1 : PySem.W.nsIn K mainGlobals "isinstance" = some none) (h2 : PySem.W.nsIn K mainGlobals "len" = some none) (h3 : PySem.W.nsIn K mainGlobals "int" = some none) (h4 : PySem.W.nsIn K mainGlobals "bool" = some none) (h5 : PySem.W.nsIn K mainGlobals "tuple" = some none) (h6 : PySem.W.nsIn K mainGlobals "range" = some none) (h7 : PySem.W.nsIn K mainGlobals "list" = some none) (h8 : PySem.W.nsIn K mainGlobals "abs" = some none) (h9 : PySem.W.nsIn K mainGlobals "min" = some none) (h10 : PySem.W.nsIn K mainGlobals "repr" = some none) (h11 : PySem.W.nsIn K mainGlobals "gcd" = some (some (.builtin "math.gcd"))) (h12 : PySem.W.nsIn K mainGlobals "comb" = some (some (.builtin "math.comb"))) : Blt mg :=
  ⟨PySem.W.mg_none_of X G h1, PySem.W.mg_none_of X G h2, PySem.W.mg_none_of X G h3, PySem.W.mg_none_of X G h4, PySem.W.mg_none_of X G h5, PySem.W.mg_none_of X G h6, PySem.W.mg_none_of X G h7, PySem.W.mg_none_of X G h8, PySem.W.mg_none_of X G h9, PySem.W.mg_none_of X G h10, PySem.W.mg_of X G h11, PySem.W.mg_of X G h12⟩
/-- a class of errors with its __init__ -/
structure ErrTxt (K : PySem.W.Frag) (x qual fld : Str) (st : Stmt) (C : Addr) : Prop where
  a : PySem.W.nsIn K mainGlobals x = some (some (.ref C))
  oex : OexC K C
  xf : XfC K C
  no : PySem.W.findIn K (.ref C) fld = some none
  ini : ∃ (fI : Addr) (fd : FuncData), PySem.W.findIn K (.ref C) "__init__" = some (some (.ref fI)) ∧ PySem.W.typeIn K (.ref fI) = some (.type "function") ∧ Fun K "__init__" qual st fI fd ∧ Binds K fd ["self", fld] []
theorem err_mk {x qual fld : Str} {st : Stmt} {C fI N : Addr} {nm q : Str} {bs bm : List Value} {sn : List Str} {sub : List Value} {ab : Bool} {col : Option Bool} {dd : Option Addr} {k0 k1 k2 k3 k5 : Option Value}
    {oc kV doc pm cdv ct : Value} {od an : Option Addr} {sl : Array (Option Value)}
    (a : PySem.W.nsIn K mainGlobals x = some (some (.ref C))) (c : K.lookup C = some (excClassObj nm q C N bs bm true sn sub ab col dd k0 k1 k2 k3 k5 "ValueError.__new__")) (r : PySem.HandSPX.refsVE bm = true)
    (sa : PySem.W.findIn K (.ref C) "__setattr__" = some (some (.builtin "object.__setattr__"))) (ga : PySem.W.findIn K (.ref C) "__getattribute__" = some (some (.builtin "BaseException.__getattribute__")))
    (gg : PySem.W.findIn K (.ref C) "__getattr__" = some none) (no : PySem.W.findIn K (.ref C) fld = some none) (ex : PySem.W.subIn K (.ref C) (.type "BaseException") = some true) (ty : PySem.W.typeIn K (.ref C) = some (.type "type"))
    (kC : PySem.W.keepIn K (.ref C) = true) (hd : PySem.W.hasDictIn K C = true) (i : PySem.W.findIn K (.ref C) "__init__" = some (some (.ref fI))) (t : PySem.W.typeIn K (.ref fI) = some (.type "function"))
    (l : K.lookup fI = some ⟨oc, od, .func (PySem.W.fnOf "__init__" qual (defArgs st) (defBody st) (defScope st) .none kV doc pm an cdv ct), sl⟩) (hc : PySem.W.codeIn K cdv qual = true) (k : PySem.W.keepIn K (.ref fI) = true)
    (b : ∀ (kV doc pm : Value) (an : Option Addr) (cdv ct : Value) (us : List Value), us.length = (["self", fld] : List Str).length → bindArgs (PySem.W.fnOf "__init__" qual (defArgs st) (defBody st) (defScope st) .none kV doc pm an cdv ct) ⟨us, []⟩ = pure ((["self", fld] : List Str).zip us)) :
    ErrTxt K x qual fld st C :=
  ⟨a, ⟨⟨nm, q, N, bs, bm, sn, sub, ab, col, dd, k0, k1, k2, k3, k5, c, r⟩, sa, ex, ty, kC⟩, ⟨ga, gg, ex, hd⟩, no, fI, _, i, t, fun_mk l hc k, (fun_mk l hc k).binds b⟩
theorem ErrTxt.err {x qual : Str} {st : Stmt} {C : Addr} (E : ErrTxt K x qual "given" st C) (X : K.In h) (G : h.Ns mainGlobals mg) : Err K mg x qual st C := ⟨PySem.W.mg_of X G E.a, E.oex, E.xf, E.no, E.ini⟩
theorem ErrTxt.errW {x qual fld : Str} {st : Stmt} {C : Addr} (E : ErrTxt K x qual fld st C) (X : K.In h) (G : h.Ns mainGlobals mg) : ErrW K mg x qual fld st C := ⟨PySem.W.mg_of X G E.a, E.oex, E.xf, E.no, E.ini⟩
theorem mostn_mk {t1 : Tok} (X : K.In h) (G : h.Ns mainGlobals mg) (e1 : PySem.W.nsIn K mainGlobals "MOST_NUMBERS" = some (some (.int 7 t1))) : MostN mg := ⟨⟨t1, PySem.W.mg_of X G e1⟩⟩
theorem noneg_mk {t1 : Tok} (X : K.In h) (G : h.Ns mainGlobals mg) (e1 : PySem.W.nsIn K mainGlobals "NONE" = some (some (.int (-1) t1))) : NoneG mg := ⟨⟨t1, PySem.W.mg_of X G e1⟩⟩
theorem most7_mk {t1 : Tok} (X : K.In h) (G : h.Ns mainGlobals mg) (e1 : PySem.W.nsIn K mainGlobals "MOST_NUMBERS" = some (some (.int 7 t1))) : Most7 mg := ⟨⟨t1, PySem.W.mg_of X G e1⟩⟩
theorem bnds_mk {t1 : Tok} (X : K.In h) (G : h.Ns mainGlobals mg) (e1 : PySem.W.nsIn K mainGlobals "MOST_STEPS" = some (some (.int 8 t1))) : Bnds mg := ⟨⟨t1, PySem.W.mg_of X G e1⟩⟩
theorem mosts_mk {t1 t2 t3 : Tok} (X : K.In h) (G : h.Ns mainGlobals mg) (e1 : PySem.W.nsIn K mainGlobals "MOST_OPEN" = some (some (.int 4 t1))) (e2 : PySem.W.nsIn K mainGlobals "MOST_ENDED" = some (some (.int 5 t2))) (e3 : PySem.W.nsIn K mainGlobals "LAST_MOMENT" = some (some (.int 8 t3))) : Mosts mg := ⟨⟨t1, PySem.W.mg_of X G e1⟩, ⟨t2, PySem.W.mg_of X G e2⟩, ⟨t3, PySem.W.mg_of X G e3⟩⟩
theorem one_mk {a : Addr} {t1 t2 : Tok} {n : Nat} {sl : Array (Option Value)} (X : K.In h) (G : h.Ns mainGlobals mg) (e : PySem.W.nsIn K mainGlobals "ONE" = some (some (.ref a)))
    (l : K.lookup a = some ⟨.type "tuple", none, .seq #[.int 1 t1, .int 1 t2] n, sl⟩) : OneG K mg :=
  ⟨a, PySem.W.mg_of X G e, fun H => .inr ⟨_, _, _, l, rfl, rfl, (by show 2 ≤ sizeLine; decide), .cons ⟨_, rfl⟩ (.cons ⟨_, rfl⟩ .nil)⟩⟩
theorem most9_mk {t1 : Tok} (X : K.In h) (G : h.Ns mainGlobals mg) (e1 : PySem.W.nsIn K mainGlobals "MOST_MOMENTS" = some (some (.int 9 t1))) : Most9 mg := ⟨⟨t1, PySem.W.mg_of X G e1⟩⟩
theorem kinds_mk {a : Addr} {t1 t2 t3 : Tok} {n : Nat} {sl : Array (Option Value)} (X : K.In h) (G : h.Ns mainGlobals mg) (e : PySem.W.nsIn K mainGlobals "KINDS" = some (some (.ref a)))
    (l : K.lookup a = some ⟨.type "tuple", none, .seq #[.str "all" t1, .str "free" t2, .str "stretch" t3] n, sl⟩) : KindsG K mg :=
  ⟨a, PySem.W.mg_of X G e, fun H => .inr ⟨_, _, _, l, rfl, rfl, (by show 3 ≤ sizeLine; decide), .cons ⟨_, rfl⟩ (.cons ⟨_, rfl⟩ (.cons ⟨_, rfl⟩ .nil))⟩⟩
end
/-- all of it -/
theorem all_mk {K : PySem.W.Frag} {h : Heap} {mg : Str → Option Value} {fa : Addr} {CL CN : Addr}
    (X : K.In h) (G : h.Ns mainGlobals mg) (hfa : mg "law" = some (.ref fa))
    (l_begin : DefN K mg "_law_begin" sBegin ["script"])
    (l_mixed : DefN K mg "_law_mixed" sMixed ["cell", "k"])
    (l_draw : DefN K mg "_law_draw" sDraw ["state", "many"])
    (l_of : DefN K mg "_law_of" sOf ["state", "some"])
    (l_partings : DefN K mg "_law_partings" sLParts ["many"])
    (l_home : DefN K mg "_law_home" sLHome ["parting", "number"])
    (l_marked : DefN K mg "_law_marked" sLM ["parting"])
    (d_is_whole : DefN K mg "is_whole" sWhole ["thing"])
    (d_is_between : DefN K mg "is_between" sBetween ["thing", "low", "high"])
    (d_is_block : DefN K mg "is_block" sIsBlk ["thing"])
    (d_is_parting : DefN K mg "is_parting" sIsPart ["thing"])
    (d_need_parting : DefN K mg "need_parting" sNeedPart ["parting"])
    (d_step_of : DefN K mg "step_of" sStepOf ["block", "number"])
    (d_mark_of : DefN K mg "mark_of" sMarkOf ["parting", "block", "number"])
    (d_marked_way : DefN K mg "marked_way" sMW ["parting"])
    (d_heights_by : DefN K mg "heights_by" sHts ["start", "way"])
    (d_is_way : DefN K mg "is_way" sIsWay ["start", "thing"])
    (d_is_mark : DefN K mg "is_mark" sIsMk ["step", "height", "thing"])
    (d_are_marks : DefN K mg "are_marks" sAreMk ["way", "thing"])
    (d_parted : DefN K mg "parted" sPD ["way", "marks"])
    (d_parting_of : DefN K mg "parting_of" sPO ["way", "marks"])
    (l_is_free : DefN K mg "_law_is_free" sLFree ["parting", "many"])
    (l_is_kind : DefN K mg "_law_is_kind" sLKind ["kind", "parting"])
    (l_one_right : DefN K mg "_law_one_right" sOR ["parting"])
    (l_drawn_way : DefN K mg "_law_drawn_way" sDW ["state", "many"])
    (d_has_end : DefN K mg "has_end" sHasEnd ["ladder"])
    (d_need_between : DefN K mg "need_between" sNeedB ["thing", "low", "high"])
    (d_need_top : DefN K mg "need_top" sNeedTop ["ladder", "top"])
    (d_is_fraction : DefN K mg "is_fraction" sFraction ["thing"])
    (d_is_positive : DefN K mg "is_positive" sPosi ["thing"])
    (d_are_fractions : DefN K mg "are_fractions" sAreF ["thing", "most"])
    (d_are_above : DefN K mg "are_above" sAbove ["some"])
    (d_is_ladder : DefN K mg "is_ladder" sIsLad ["thing"])
    (d_need_ladder : DefN K mg "need_ladder" sNeedLad ["thing"])
    (d_reduced : DefN K mg "reduced" sReduced ["top", "bottom"])
    (d_added : DefN K mg "added" sAdded ["one", "other"])
    (d_timed : DefN K mg "timed" sTimed ["one", "other"])
    (d_stepped : DefN K mg "stepped" sStepped ["sums", "levels", "steps"])
    (d_row_to : DefN K mg "row_to" sRowTo ["ladder", "top"])
    (d_row_of : DefN K mg "row_of" sRowOf ["ladder", "top"])
    (d_is_row : DefN K mg "is_row" sIsRow ["thing"])
    (d_need_row : DefN K mg "need_row" sNeedRow ["thing"])
    (d_divided : DefN K mg "divided" sDivided ["one", "other"])
    (d_unit_moments : DefN K mg "unit_moments" sUM ["row"])
    (d_trimmed : DefN K mg "trimmed" sTrim ["some"])
    (d_poly_timed : DefN K mg "poly_timed" sPTimed ["one", "other"])
    (d_at_power : DefN K mg "at_power" sAt ["poly", "number"])
    (d_power_part : DefN K mg "power_part" sPP ["moments", "number", "place"])
    (d_beside : DefN K mg "beside" sBE ["kind", "moments", "number", "size"])
    (d_moment_from : DefN K mg "moment_from" sMF ["kind", "moments", "cumulants", "number"])
    (d_lessened : DefN K mg "lessened" sLessened ["one", "other"])
    (d_cumulants_by : DefN K mg "cumulants_by" sCB ["row", "kind"])
    (d_need_kind : DefN K mg "need_kind" sNeedKind ["kind"])
    (d_cumulants_of : DefN K mg "cumulants_of" sCO ["row", "kind"])
    (l_plain_right : DefN K mg "_law_plain_right" sPR ["state"])
    (law : DefN K mg "law" sLaw39 ["script"])
    (eL : ErrTxt K "BadLadder" "BadLadder.__init__" "given" sIL CL)
    (eN : ErrTxt K "BadNumber" "BadNumber.__init__" "given" sInitN CN)
    (z : Nou K mg) (t : Blt mg) (mn : MostN mg) (no : NoneG mg) (m7 : Most7 mg) (bn : Bnds mg) (ms : Mosts mg) (og : OneG K mg) (m9 : Most9 mg) (kg : KindsG K mg) (n_sorted : mg "sorted" = none) (n_zip : mg "zip" = none) (n_sum : mg "sum" = none) (n_enumerate : mg "enumerate" = none) (n_all : mg "all" = none) (n_any : mg "any" = none) (n_str : mg "str" = none) :
    ∃ (CL CN : Addr), Top0 K mg CL CN ∧ mg "law" = some (.ref fa) :=
  ⟨CL, CN, ⟨l_begin, l_mixed, l_draw, l_of, l_partings, l_home, l_marked, d_is_whole, d_is_between, d_is_block, d_is_parting, d_need_parting, d_step_of, d_mark_of, d_marked_way, d_heights_by, d_is_way, d_is_mark, d_are_marks, d_parted, d_parting_of, l_is_free, l_is_kind, l_one_right, l_drawn_way, d_has_end, d_need_between, d_need_top, d_is_fraction, d_is_positive, d_are_fractions, d_are_above, d_is_ladder, d_need_ladder, d_reduced, d_added, d_timed, d_stepped, d_row_to, d_row_of, d_is_row, d_need_row, d_divided, d_unit_moments, d_trimmed, d_poly_timed, d_at_power, d_power_part, d_beside, d_moment_from, d_lessened, d_cumulants_by, d_need_kind, d_cumulants_of, l_plain_right, law, eL.errW X G, eN.err X G, z, t, mn, no, m7, bn, ms, og, m9, kg, n_sorted, n_zip, n_sum, n_enumerate, n_all, n_any, n_str⟩, hfa⟩
end Rs


set_option Elab.async false
set_option linter.all false
open PySem PySem.W PyProof.Rows
set_option maxRecDepth 100000 in
set_option maxHeartbeats 0 in
theorem PySem.Challenge.cw_rungshare_k39_partings_as_marked_ways_holds : PySem.Challenge.rw_rungshare_k39_partings_as_marked_ways.Holds := by
  w_on; o_law; k_head; (case hw => w_witness2)
  k_fill
  refine Rs.walkG (l := PySem.Challenge.rw_rungshare_k39_partings_as_marked_ways) rfl rfl (fun w h Y => PySem.W.kIn_of Y) ?F
  case F =>
    intro w mg fa h KX G hmg'
    refine' Rs.all_mk KX G hmg' ?l_begin ?l_mixed ?l_draw ?l_of ?l_partings ?l_home ?l_marked ?d_is_whole ?d_is_between ?d_is_block ?d_is_parting ?d_need_parting ?d_step_of ?d_mark_of ?d_marked_way ?d_heights_by ?d_is_way ?d_is_mark ?d_are_marks ?d_parted ?d_parting_of ?l_is_free ?l_is_kind ?l_one_right ?l_drawn_way ?d_has_end ?d_need_between ?d_need_top ?d_is_fraction ?d_is_positive ?d_are_fractions ?d_are_above ?d_is_ladder ?d_need_ladder ?d_reduced ?d_added ?d_timed ?d_stepped ?d_row_to ?d_row_of ?d_is_row ?d_need_row ?d_divided ?d_unit_moments ?d_trimmed ?d_poly_timed ?d_at_power ?d_power_part ?d_beside ?d_moment_from ?d_lessened ?d_cumulants_by ?d_need_kind ?d_cumulants_of ?l_plain_right ?law ?eL ?eN ?gz ?gt ?gmn ?gno ?gm7 ?gbn ?gms ?gog ?gm9 ?gkg ?gn_sorted ?gn_zip ?gn_sum ?gn_enumerate ?gn_all ?gn_any ?gn_str
    (case l_begin => refine' Rs.defN_mk KX G ?a ?l ?c ?k (fun _ _ _ _ _ _ us hl => match us, hl with | [_], _ => rfl); (case a => k_is); (case l => k_is); (case c => k_is); (case k => k_is))
    (case l_mixed => refine' Rs.defN_mk KX G ?a ?l ?c ?k (fun _ _ _ _ _ _ us hl => match us, hl with | [_, _], _ => rfl); (case a => k_is); (case l => k_is); (case c => k_is); (case k => k_is))
    (case l_draw => refine' Rs.defN_mk KX G ?a ?l ?c ?k (fun _ _ _ _ _ _ us hl => match us, hl with | [_, _], _ => rfl); (case a => k_is); (case l => k_is); (case c => k_is); (case k => k_is))
    (case l_of => refine' Rs.defN_mk KX G ?a ?l ?c ?k (fun _ _ _ _ _ _ us hl => match us, hl with | [_, _], _ => rfl); (case a => k_is); (case l => k_is); (case c => k_is); (case k => k_is))
    (case l_partings => refine' Rs.defN_mk KX G ?a ?l ?c ?k (fun _ _ _ _ _ _ us hl => match us, hl with | [_], _ => rfl); (case a => k_is); (case l => k_is); (case c => k_is); (case k => k_is))
    (case l_home => refine' Rs.defN_mk KX G ?a ?l ?c ?k (fun _ _ _ _ _ _ us hl => match us, hl with | [_, _], _ => rfl); (case a => k_is); (case l => k_is); (case c => k_is); (case k => k_is))
    (case l_marked => refine' Rs.defN_mk KX G ?a ?l ?c ?k (fun _ _ _ _ _ _ us hl => match us, hl with | [_], _ => rfl); (case a => k_is); (case l => k_is); (case c => k_is); (case k => k_is))
    (case d_is_whole => refine' Rs.defN_mk KX G ?a ?l ?c ?k (fun _ _ _ _ _ _ us hl => match us, hl with | [_], _ => rfl); (case a => k_is); (case l => k_is); (case c => k_is); (case k => k_is))
    (case d_is_between => refine' Rs.defN_mk KX G ?a ?l ?c ?k (fun _ _ _ _ _ _ us hl => match us, hl with | [_, _, _], _ => rfl); (case a => k_is); (case l => k_is); (case c => k_is); (case k => k_is))
    (case d_is_block => refine' Rs.defN_mk KX G ?a ?l ?c ?k (fun _ _ _ _ _ _ us hl => match us, hl with | [_], _ => rfl); (case a => k_is); (case l => k_is); (case c => k_is); (case k => k_is))
    (case d_is_parting => refine' Rs.defN_mk KX G ?a ?l ?c ?k (fun _ _ _ _ _ _ us hl => match us, hl with | [_], _ => rfl); (case a => k_is); (case l => k_is); (case c => k_is); (case k => k_is))
    (case d_need_parting => refine' Rs.defN_mk KX G ?a ?l ?c ?k (fun _ _ _ _ _ _ us hl => match us, hl with | [_], _ => rfl); (case a => k_is); (case l => k_is); (case c => k_is); (case k => k_is))
    (case d_step_of => refine' Rs.defN_mk KX G ?a ?l ?c ?k (fun _ _ _ _ _ _ us hl => match us, hl with | [_, _], _ => rfl); (case a => k_is); (case l => k_is); (case c => k_is); (case k => k_is))
    (case d_mark_of => refine' Rs.defN_mk KX G ?a ?l ?c ?k (fun _ _ _ _ _ _ us hl => match us, hl with | [_, _, _], _ => rfl); (case a => k_is); (case l => k_is); (case c => k_is); (case k => k_is))
    (case d_marked_way => refine' Rs.defN_mk KX G ?a ?l ?c ?k (fun _ _ _ _ _ _ us hl => match us, hl with | [_], _ => rfl); (case a => k_is); (case l => k_is); (case c => k_is); (case k => k_is))
    (case d_heights_by => refine' Rs.defN_mk KX G ?a ?l ?c ?k (fun _ _ _ _ _ _ us hl => match us, hl with | [_, _], _ => rfl); (case a => k_is); (case l => k_is); (case c => k_is); (case k => k_is))
    (case d_is_way => refine' Rs.defN_mk KX G ?a ?l ?c ?k (fun _ _ _ _ _ _ us hl => match us, hl with | [_, _], _ => rfl); (case a => k_is); (case l => k_is); (case c => k_is); (case k => k_is))
    (case d_is_mark => refine' Rs.defN_mk KX G ?a ?l ?c ?k (fun _ _ _ _ _ _ us hl => match us, hl with | [_, _, _], _ => rfl); (case a => k_is); (case l => k_is); (case c => k_is); (case k => k_is))
    (case d_are_marks => refine' Rs.defN_mk KX G ?a ?l ?c ?k (fun _ _ _ _ _ _ us hl => match us, hl with | [_, _], _ => rfl); (case a => k_is); (case l => k_is); (case c => k_is); (case k => k_is))
    (case d_parted => refine' Rs.defN_mk KX G ?a ?l ?c ?k (fun _ _ _ _ _ _ us hl => match us, hl with | [_, _], _ => rfl); (case a => k_is); (case l => k_is); (case c => k_is); (case k => k_is))
    (case d_parting_of => refine' Rs.defN_mk KX G ?a ?l ?c ?k (fun _ _ _ _ _ _ us hl => match us, hl with | [_, _], _ => rfl); (case a => k_is); (case l => k_is); (case c => k_is); (case k => k_is))
    (case l_is_free => refine' Rs.defN_mk KX G ?a ?l ?c ?k (fun _ _ _ _ _ _ us hl => match us, hl with | [_, _], _ => rfl); (case a => k_is); (case l => k_is); (case c => k_is); (case k => k_is))
    (case l_is_kind => refine' Rs.defN_mk KX G ?a ?l ?c ?k (fun _ _ _ _ _ _ us hl => match us, hl with | [_, _], _ => rfl); (case a => k_is); (case l => k_is); (case c => k_is); (case k => k_is))
    (case l_one_right => refine' Rs.defN_mk KX G ?a ?l ?c ?k (fun _ _ _ _ _ _ us hl => match us, hl with | [_], _ => rfl); (case a => k_is); (case l => k_is); (case c => k_is); (case k => k_is))
    (case l_drawn_way => refine' Rs.defN_mk KX G ?a ?l ?c ?k (fun _ _ _ _ _ _ us hl => match us, hl with | [_, _], _ => rfl); (case a => k_is); (case l => k_is); (case c => k_is); (case k => k_is))
    (case d_has_end => refine' Rs.defN_mk KX G ?a ?l ?c ?k (fun _ _ _ _ _ _ us hl => match us, hl with | [_], _ => rfl); (case a => k_is); (case l => k_is); (case c => k_is); (case k => k_is))
    (case d_need_between => refine' Rs.defN_mk KX G ?a ?l ?c ?k (fun _ _ _ _ _ _ us hl => match us, hl with | [_, _, _], _ => rfl); (case a => k_is); (case l => k_is); (case c => k_is); (case k => k_is))
    (case d_need_top => refine' Rs.defN_mk KX G ?a ?l ?c ?k (fun _ _ _ _ _ _ us hl => match us, hl with | [_, _], _ => rfl); (case a => k_is); (case l => k_is); (case c => k_is); (case k => k_is))
    (case d_is_fraction => refine' Rs.defN_mk KX G ?a ?l ?c ?k (fun _ _ _ _ _ _ us hl => match us, hl with | [_], _ => rfl); (case a => k_is); (case l => k_is); (case c => k_is); (case k => k_is))
    (case d_is_positive => refine' Rs.defN_mk KX G ?a ?l ?c ?k (fun _ _ _ _ _ _ us hl => match us, hl with | [_], _ => rfl); (case a => k_is); (case l => k_is); (case c => k_is); (case k => k_is))
    (case d_are_fractions => refine' Rs.defN_mk KX G ?a ?l ?c ?k (fun _ _ _ _ _ _ us hl => match us, hl with | [_, _], _ => rfl); (case a => k_is); (case l => k_is); (case c => k_is); (case k => k_is))
    (case d_are_above => refine' Rs.defN_mk KX G ?a ?l ?c ?k (fun _ _ _ _ _ _ us hl => match us, hl with | [_], _ => rfl); (case a => k_is); (case l => k_is); (case c => k_is); (case k => k_is))
    (case d_is_ladder => refine' Rs.defN_mk KX G ?a ?l ?c ?k (fun _ _ _ _ _ _ us hl => match us, hl with | [_], _ => rfl); (case a => k_is); (case l => k_is); (case c => k_is); (case k => k_is))
    (case d_need_ladder => refine' Rs.defN_mk KX G ?a ?l ?c ?k (fun _ _ _ _ _ _ us hl => match us, hl with | [_], _ => rfl); (case a => k_is); (case l => k_is); (case c => k_is); (case k => k_is))
    (case d_reduced => refine' Rs.defN_mk KX G ?a ?l ?c ?k (fun _ _ _ _ _ _ us hl => match us, hl with | [_, _], _ => rfl); (case a => k_is); (case l => k_is); (case c => k_is); (case k => k_is))
    (case d_added => refine' Rs.defN_mk KX G ?a ?l ?c ?k (fun _ _ _ _ _ _ us hl => match us, hl with | [_, _], _ => rfl); (case a => k_is); (case l => k_is); (case c => k_is); (case k => k_is))
    (case d_timed => refine' Rs.defN_mk KX G ?a ?l ?c ?k (fun _ _ _ _ _ _ us hl => match us, hl with | [_, _], _ => rfl); (case a => k_is); (case l => k_is); (case c => k_is); (case k => k_is))
    (case d_stepped => refine' Rs.defN_mk KX G ?a ?l ?c ?k (fun _ _ _ _ _ _ us hl => match us, hl with | [_, _, _], _ => rfl); (case a => k_is); (case l => k_is); (case c => k_is); (case k => k_is))
    (case d_row_to => refine' Rs.defN_mk KX G ?a ?l ?c ?k (fun _ _ _ _ _ _ us hl => match us, hl with | [_, _], _ => rfl); (case a => k_is); (case l => k_is); (case c => k_is); (case k => k_is))
    (case d_row_of => refine' Rs.defN_mk KX G ?a ?l ?c ?k (fun _ _ _ _ _ _ us hl => match us, hl with | [_, _], _ => rfl); (case a => k_is); (case l => k_is); (case c => k_is); (case k => k_is))
    (case d_is_row => refine' Rs.defN_mk KX G ?a ?l ?c ?k (fun _ _ _ _ _ _ us hl => match us, hl with | [_], _ => rfl); (case a => k_is); (case l => k_is); (case c => k_is); (case k => k_is))
    (case d_need_row => refine' Rs.defN_mk KX G ?a ?l ?c ?k (fun _ _ _ _ _ _ us hl => match us, hl with | [_], _ => rfl); (case a => k_is); (case l => k_is); (case c => k_is); (case k => k_is))
    (case d_divided => refine' Rs.defN_mk KX G ?a ?l ?c ?k (fun _ _ _ _ _ _ us hl => match us, hl with | [_, _], _ => rfl); (case a => k_is); (case l => k_is); (case c => k_is); (case k => k_is))
    (case d_unit_moments => refine' Rs.defN_mk KX G ?a ?l ?c ?k (fun _ _ _ _ _ _ us hl => match us, hl with | [_], _ => rfl); (case a => k_is); (case l => k_is); (case c => k_is); (case k => k_is))
    (case d_trimmed => refine' Rs.defN_mk KX G ?a ?l ?c ?k (fun _ _ _ _ _ _ us hl => match us, hl with | [_], _ => rfl); (case a => k_is); (case l => k_is); (case c => k_is); (case k => k_is))
    (case d_poly_timed => refine' Rs.defN_mk KX G ?a ?l ?c ?k (fun _ _ _ _ _ _ us hl => match us, hl with | [_, _], _ => rfl); (case a => k_is); (case l => k_is); (case c => k_is); (case k => k_is))
    (case d_at_power => refine' Rs.defN_mk KX G ?a ?l ?c ?k (fun _ _ _ _ _ _ us hl => match us, hl with | [_, _], _ => rfl); (case a => k_is); (case l => k_is); (case c => k_is); (case k => k_is))
    (case d_power_part => refine' Rs.defN_mk KX G ?a ?l ?c ?k (fun _ _ _ _ _ _ us hl => match us, hl with | [_, _, _], _ => rfl); (case a => k_is); (case l => k_is); (case c => k_is); (case k => k_is))
    (case d_beside => refine' Rs.defN_mk KX G ?a ?l ?c ?k (fun _ _ _ _ _ _ us hl => match us, hl with | [_, _, _, _], _ => rfl); (case a => k_is); (case l => k_is); (case c => k_is); (case k => k_is))
    (case d_moment_from => refine' Rs.defN_mk KX G ?a ?l ?c ?k (fun _ _ _ _ _ _ us hl => match us, hl with | [_, _, _, _], _ => rfl); (case a => k_is); (case l => k_is); (case c => k_is); (case k => k_is))
    (case d_lessened => refine' Rs.defN_mk KX G ?a ?l ?c ?k (fun _ _ _ _ _ _ us hl => match us, hl with | [_, _], _ => rfl); (case a => k_is); (case l => k_is); (case c => k_is); (case k => k_is))
    (case d_cumulants_by => refine' Rs.defN_mk KX G ?a ?l ?c ?k (fun _ _ _ _ _ _ us hl => match us, hl with | [_, _], _ => rfl); (case a => k_is); (case l => k_is); (case c => k_is); (case k => k_is))
    (case d_need_kind => refine' Rs.defN_mk KX G ?a ?l ?c ?k (fun _ _ _ _ _ _ us hl => match us, hl with | [_], _ => rfl); (case a => k_is); (case l => k_is); (case c => k_is); (case k => k_is))
    (case d_cumulants_of => refine' Rs.defN_mk KX G ?a ?l ?c ?k (fun _ _ _ _ _ _ us hl => match us, hl with | [_, _], _ => rfl); (case a => k_is); (case l => k_is); (case c => k_is); (case k => k_is))
    (case l_plain_right => refine' Rs.defN_mk KX G ?a ?l ?c ?k (fun _ _ _ _ _ _ us hl => match us, hl with | [_], _ => rfl); (case a => k_is); (case l => k_is); (case c => k_is); (case k => k_is))
    (case law => refine' Rs.defN_mk KX G ?a ?l ?c ?k (fun _ _ _ _ _ _ us hl => match us, hl with | [_], _ => rfl); (case a => k_is); (case l => k_is); (case c => k_is); (case k => k_is))
    (case eL => refine' Rs.err_mk ?aeL ?ceL ?reL ?saeL ?gaeL ?ggeL ?noeL ?exeL ?tyeL ?kCeL ?hdeL ?ieL ?teL ?leL ?hceL ?keL (fun _ _ _ _ _ _ us hl => match us, hl with | [_, _], _ => rfl); (case aeL => k_is); (case ceL => k_is); (case reL => decide +kernel); (case saeL => k_is); (case gaeL => k_is); (case ggeL => k_is); (case noeL => k_is); (case exeL => k_is); (case tyeL => k_is); (case kCeL => k_is); (case hdeL => k_is); (case ieL => k_is); (case teL => k_is); (case leL => k_is); (case hceL => k_is); (case keL => k_is))
    (case eN => refine' Rs.err_mk ?aeN ?ceN ?reN ?saeN ?gaeN ?ggeN ?noeN ?exeN ?tyeN ?kCeN ?hdeN ?ieN ?teN ?leN ?hceN ?keN (fun _ _ _ _ _ _ us hl => match us, hl with | [_, _], _ => rfl); (case aeN => k_is); (case ceN => k_is); (case reN => decide +kernel); (case saeN => k_is); (case gaeN => k_is); (case ggeN => k_is); (case noeN => k_is); (case exeN => k_is); (case tyeN => k_is); (case kCeN => k_is); (case hdeN => k_is); (case ieN => k_is); (case teN => k_is); (case leN => k_is); (case hceN => k_is); (case keN => k_is))
    (case gz => refine' Rs.nou_mk KX G ?a ?l; (case a => k_is); (case l => k_is))
    (case gt => refine' Rs.blt_mk KX G ?h1 ?h2 ?h3 ?h4 ?h5 ?h6 ?h7 ?h8 ?h9 ?h10 ?h11 ?h12; (case h1 => k_is); (case h2 => k_is); (case h3 => k_is); (case h4 => k_is); (case h5 => k_is); (case h6 => k_is); (case h7 => k_is); (case h8 => k_is); (case h9 => k_is); (case h10 => k_is); (case h11 => k_is); (case h12 => k_is))
    (case gmn => refine' Rs.mostn_mk KX G ?hm7; (case hm7 => k_is))
    (case gno => refine' Rs.noneg_mk KX G ?hno; (case hno => k_is))
    (case gm7 => refine' Rs.most7_mk KX G ?hm77; (case hm77 => k_is))
    (case gbn => refine' Rs.bnds_mk KX G ?hms; (case hms => k_is))
    (case gms => refine' Rs.mosts_mk KX G ?hm4 ?hm5 ?hm8; (case hm4 => k_is); (case hm5 => k_is); (case hm8 => k_is))
    (case gog => refine' Rs.one_mk KX G ?hoa ?hol; (case hoa => k_is); (case hol => k_is))
    (case gm9 => refine' Rs.most9_mk KX G ?hm9; (case hm9 => k_is))
    (case gkg => refine' Rs.kinds_mk KX G ?hka ?hkl; (case hka => k_is); (case hkl => k_is))
    (case gn_sorted => refine' PySem.W.mg_none_of KX G ?hnn_sorted; k_is)
    (case gn_zip => refine' PySem.W.mg_none_of KX G ?hnn_zip; k_is)
    (case gn_sum => refine' PySem.W.mg_none_of KX G ?hnn_sum; k_is)
    (case gn_enumerate => refine' PySem.W.mg_none_of KX G ?hnn_enumerate; k_is)
    (case gn_all => refine' PySem.W.mg_none_of KX G ?hnn_all; k_is)
    (case gn_any => refine' PySem.W.mg_none_of KX G ?hnn_any; k_is)
    (case gn_str => refine' PySem.W.mg_none_of KX G ?hnn_str; k_is)


