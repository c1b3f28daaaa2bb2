import PyProof.Rows.All
import Wide.All
import OpenK.AllK
import Wide.FinOn
import HandS.ForMost
import HandS.ForExc
import HandS.Gcd
import HandS.Wide
import HandS.IsInst
import HandS.ExcInit
import HandS.Lambda
import HandS.OwnEq
import PySem.Challenge.RW_rungshare_k36_whole_partings
import HandS.ExcField
import HandS.Codes
import KE.GoesMore
import HandS.Iter
import HandS.Rev
import HandS.Style
import HandS.Zip
import HandS.TupAny
import HandS.SortInts
import HandS.Walk
import KE.SortData
import HandS.Conv
import HandS.WideBits
import KE.KMathGC
import HandS.EndTab
import HandS.NestedK
set_option linter.all false
set_option maxRecDepth 100000
/-! partings: what the program makes of them and what the law does -/
namespace Pg
abbrev Blk := List Int
abbrev Prt := List (List Int)
def hdI (b : Blk) : Int := b.headD 0
def ltI (b : Blk) : Int := b.getLastD 0
def prs (b : Blk) : List (Int × Int) := b.zip b.tail
def isBlk (b : Blk) : Bool := !b.isEmpty && ((b.all fun n => decide (0 ≤ n) && decide (n ≤ 6)) && (prs b).all fun q => decide (q.1 < q.2))
def within (b : Blk) (lo hi : Int) : Nat := (b.filter fun n => decide (lo ≤ n) && decide (n < hi)).length
def cutB (lo hi : Int) (b : Blk) : Bool := decide (0 < within b lo hi) && decide (within b lo hi < b.length)
def parted (p : Prt) (lo hi : Int) : Bool := p.any (cutB lo hi)
def gaps (p : Prt) : List (Int × Int) := p.flatMap fun b => (prs b).map fun q => (q.1 + 1, q.2)
def crosses (p : Prt) : Bool := (gaps p).any fun g => parted p g.1 g.2
def strB (b : Blk) : Bool := decide (ltI b - hdI b + 1 = b.length)
def stretched (p : Prt) : Bool := p.all strB
inductive Kd
  | all | free | str
deriving DecidableEq
def hasK (k : Kd) (p : Prt) : Bool := match k with
  | .free => !crosses p
  | .all => true
  | .str => stretched p
def more (p : Prt) (n : Int) (k : Nat) : Prt := p.take k ++ [p.getD k [] ++ [n]] ++ p.drop (k + 1)
def withN (p : Prt) (n : Int) : List Prt := (p ++ [[n]]) :: (List.range p.length).map (more p n)
def partsOf (k : Kd) : Nat → List Prt
  | 0 => [[]]
  | m + 1 => ((partsOf k m).flatMap fun p => withN p m).filter (hasK k)
def total (p : Prt) : Nat := (p.map List.length).sum
def beside (p bs : Prt) (n : Int) : List Nat := (List.range bs.length).filter fun k => !parted p (hdI (bs.getD k []) + 1) (n + 1)
def turnS (p bs : Prt) (n : Int) : Prt := match beside p bs n with
  | k :: _ => bs.set k (bs.getD k [] ++ [n])
  | [] => bs ++ [[n]]
def turnTo (p : Prt) : Nat → Prt
  | 0 => []
  | m + 1 => turnS p (turnTo p m) m
def turnP (p : Prt) : Prt := turnTo p (total p)
def sgn (x : Int) (m : Nat) : Int := if m % 2 = 1 then x else -x
def cat (m : Nat) : Int := match m with
  | 1 => 1 | 2 => 1 | 3 => 2 | 4 => 5 | 5 => 14 | 6 => 42 | 7 => 132 | _ => 0
def fact : Nat → Int
  | 0 => 1
  | n + 1 => (n + 1 : Nat) * fact n
def signB (k : Kd) (p : Prt) : Int := match k with
  | .free => (turnP p).foldl (fun w b => w * sgn (cat b.length) b.length) 1
  | .all => if p.length = 0 then 1 else sgn (fact (p.length - 1)) p.length
  | .str => if p.length = 0 then 1 else sgn 1 p.length
/-! the law's -/
def lawRows : Nat → List Prt
  | 0 => [[]]
  | m + 1 => (lawRows m).flatMap fun p => withN p m
def homes (p : Prt) (n : Int) : List Nat := (List.range p.length).filter fun k => (p.getD k []).contains n
def home (p : Prt) (n : Int) : Nat := (homes p n).headD 0
def freeB (h : List Nat) : Bool := (List.range h.length).all fun near => (List.range h.length).all fun spot => (List.range h.length).all fun late =>
  !(decide (near < spot) && (decide (spot < late) && (decide (h.getD near 0 = h.getD late 0) && (decide (h.getD late 0 ≠ h.getD spot 0) && (h.drop (late + 1)).contains (h.getD spot 0)))))
def lawFree (p : Prt) : Bool := freeB ((List.range (total p)).map fun n : Nat => home p n)
def lawKind (k : Kd) (p : Prt) : Bool := match k with
  | .free => lawFree p
  | .all => true
  | .str => p.all fun b => !decide (ltI b - hdI b ≥ b.length)
def lawCut (b : Blk) (late : Int) (own : Blk) : Bool := decide (0 < (own.filter fun n => decide (hdI b < n) && decide (n ≤ late)).length) && decide ((own.filter fun n => decide (hdI b < n) && decide (n ≤ late)).length < own.length)
def lawBeside (p bs : Prt) (n : Int) : List Nat := (List.range bs.length).filter fun k => !(p.any (lawCut (bs.getD k []) n))
def lawTurnS (p bs : Prt) (n : Int) : Prt := match lawBeside p bs n with
  | k :: _ => bs.set k (bs.getD k [] ++ [n])
  | [] => bs ++ [[n]]
def lawTurnTo (p : Prt) : Nat → Prt
  | 0 => []
  | m + 1 => lawTurnS p (lawTurnTo p m) m
def lawTurn (p : Prt) : Prt := lawTurnTo p (total p)
def sg (b : Blk) : Int := [1, -1, 2, -5, 14, -42, 132].getD (b.length - 1) 0
def lawSign (k : Kd) (p : Prt) : Int := match k with
  | .free => (lawTurn p).foldl (fun w b => w * sg b) 1
  | .all => (List.range (p.length - 1)).foldl (fun w i => w * (0 - ((1 + i : Nat) : Int))) 1
  | .str => (List.range (p.length - 1)).foldl (fun w _ => w * (-1)) 1
/-! checks -/
def kds : List Kd := [.all, .free, .str]
def validB (p : Prt) : Bool := (p.all isBlk) && (((p.zip p.tail).all fun q => decide (hdI q.1 < hdI q.2)) && p.flatten.isPerm ((List.range (total p)).map fun n : Nat => (n : Int)))
def sizeB (p : Prt) : Bool := decide (p.length ≤ 8) && p.all fun b => decide (b.length ≤ 8) && decide (0 < b.length)
def oneB (p : Prt) : Bool := validB p && (sizeB p && (sizeB (turnP p) && (decide (total p ≤ 7) && ((kds.all fun k => hasK k p == lawKind k p && (!lawKind k p || signB k p == lawSign k p)) && (turnP p == lawTurn p && (lawKind .free (turnP p) && (!lawKind .free p || (turnP p).length + p.length == total p + (if total p = 0 then 0 else 1))))))))
theorem all_one : ∀ n ∈ [0, 1, 2, 3, 4, 5], (lawRows n).all oneB = true := by decide +kernel
theorem all_perm : ∀ n ∈ [0, 1, 2, 3, 4, 5], ∀ k ∈ kds, (((lawRows n).filter (lawKind k)).isPerm (partsOf k n)) = true := by decide +kernel
/-- how many there are, and of what size -/
def lens (k : Kd) (n : Nat) : List Nat := (List.range (n + 1)).map fun m => (partsOf k m).length
def szTo (k : Kd) (n : Nat) : Bool := (List.range (n + 1)).all fun m => decide ((partsOf k m).length ≤ 500) && (partsOf k m).all sizeB
theorem len_free : (partsOf .free 6).length = 132 ∧ (partsOf .free 7).length = 429 := by decide +kernel
theorem len_str : (partsOf .str 6).length = 32 ∧ (partsOf .str 7).length = 64 := by decide +kernel
theorem sz_free : szTo .free 7 = true := by decide +kernel
theorem sz_str : szTo .str 7 = true := by decide +kernel
theorem sz_all : szTo .all 5 = true := by decide +kernel
end Pg


set_option Elab.async false
set_option linter.all false
set_option maxRecDepth 100000
set_option maxHeartbeats 2000000
/-! small things that every law wants -/
namespace Bs
open PySem PySem.Spec PyProof.Rows L2
theorem same_new {H : Hp} {p : Addr} {o : HO} (h : H p = none) : Same H (upd H p o) := fun b u e => (upd_ne (ne_of_none e h)).trans e
theorem Same.t {K : PySem.W.Frag} {H H' : Hp} {a : Addr} {xs : List V} (e : Same H H') (h : SqT K H a xs) : SqT K H' a xs := by
  rcases h with (h | ⟨o, h⟩) | h
  · exact .inl (.inl (e _ _ h))
  · exact .inl (.inr ⟨o, e _ _ h⟩)
  · exact .inr h
section
variable {X : Cx}
/-- x *= e, both ints, together below a million bits -/
def ipM : TIp := fun x y H Q => ∃ i j, x = .int i ∧ y = .int j ∧ CMulW i j ∧ Q (.int (i * j)) H
theorem ip_mul : PIp X .Mult ipM := by
  rintro pins s σ H x y v u Q I r1 r2 ⟨i, j, rfl, rfl, c, q⟩
  obtain ⟨t, rfl⟩ := r1
  obtain ⟨t', rfl⟩ := r2
  exact imul_int ⟨.int _, H, I.tok _, ⟨_, rfl⟩, q⟩ c.ok
/-- repr of data in lists and tuples -/
def rRepr (K : PySem.W.Frag) : List V → Hp → VK → Prop := fun xs H Q => ∃ (a : Addr) (d : PyData), xs = [.ref a] ∧ Dp K H (.ref a) d ∧ d.showable = true ∧ d.hasDict = false ∧ d.depth ≤ 60 ∧ d.shown.length ≤ sizeLine ∧ Q (.str d.shown) H
theorem call_repr (hg : X.A.guards = some []) (hu : X.A.units + 64 < cLine) : CallR X (.builtin "repr") (rRepr X.K) := by
  rintro pins s σ H xs us Q I r ⟨a, d, rfl, hd, h1, h2, h3, h4, q⟩
  obtain ⟨u, rfl, ru⟩ := vals1 r
  obtain ⟨as, rd⟩ := Dp.reads I d (.ref a) u hd ru
  obtain rfl : u = Value.ref a := ru
  refine repr_of_reads' rd h1 (PyData.noDict_hsm h2) hg (by omega) (fun _ _ e => e) (fun h' u tk hk => ?_) h4
  exact ⟨.str d.shown, H, I.kept (h' := h') hk, ⟨u, rfl⟩, q⟩
end
/-! ### defs that may raise, and defs that ask for no guards -/
structure CalX (P : Program) (w : World) (K : PySem.W.Frag) (mg : Str → Option Value) (base : Heap) (k : Nat) (x : Str) (sp : Sp) : Prop where
  ex : ∃ (f : Addr) (fd : FuncData) (ps : List Str), FnOk P w K mg base (L2.CX P w) k f fd ps sp ∧ mg x = some (.ref f) ∧ PySem.W.keepIn K (.ref f) = true ∧ Binds K fd ps []
structure Cal (P : Program) (w : World) (K : PySem.W.Frag) (mg : Str → Option Value) (base : Heap) (k : Nat) (x : Str) (sp : Sp) : Prop where
  ex : ∃ (f : Addr) (fd : FuncData) (ps : List Str), FnOk P w K mg base CX0 k f fd ps sp ∧ mg x = some (.ref f) ∧ PySem.W.keepIn K (.ref f) = true ∧ Binds K fd ps []
/-- a promise that is kept where no guard stands around -/
structure FnG (P : Program) (w : World) (K : PySem.W.Frag) (mg : Str → Option Value) (base : Heap) (k : Nat) (f : Addr) (fd : FuncData) (ps : List Str) (sp : Sp) : Prop where
  len : ∀ vs H Q E, sp vs H Q E → vs.length = ps.length
  run : ∀ (A : Around) (outer : List Env) (s : Shared) (H : Hp) (args : Args) (us : List Value) (vs : List V) (Q : VK) (E : XK), A.guards = some [] → Room k A → Env0 P w K mg base A outer s H →
    BindsTo s fd args (ps.zip us) → Vals vs us → sp vs H Q E → codeAny (model P w) A (.call (.ref f) args) (CR CX0 outer P w H s Q E) s
structure CalG (P : Program) (w : World) (K : PySem.W.Frag) (mg : Str → Option Value) (base : Heap) (k : Nat) (x : Str) (sp : Sp) : Prop where
  ex : ∃ (f : Addr) (fd : FuncData) (ps : List Str), FnG P w K mg base k f fd ps sp ∧ mg x = some (.ref f) ∧ PySem.W.keepIn K (.ref f) = true ∧ Binds K fd ps []
section
variable {P : Program} {w : World} {K : PySem.W.Frag} {mg : Str → Option Value} {base : Heap} {k : Nat} {f : Addr} {fd : FuncData} {sp : Sp} {x qual : Str} {st : Stmt} {N ps : List Str}
theorem FnG.ok (F : Fun K x qual st f fd) (S : FnScope N ps (defScope st)) (len : ∀ vs H Q E, sp vs H Q E → vs.length = ps.length)
    (hbody : ∀ (cdv : Value) (A : Around) (outer : List Env) (s : Shared) (H : Hp) (vs : List V) (Q : VK) (E : XK), A.guards = some [] → Room k (A.deeper (envOfC qual (defScope st) s.heap.objs.size f cdv)) → sp vs H Q E →
      ∃ t, PSs (cxOf CX0 P w K mg base N qual (defScope st) f cdv A outer s H E).nox (defBody st) t ∧ t { nx := fun _ H' => Q .non H', rt := Q } (start N vs) H) : FnG P w K mg base (k + 1) f fd ps sp := by
  obtain ⟨oc, od, kV, doc, pm, an, cdv, ct, osl, rfl, lk, hcd⟩ := F.ex
  refine ⟨len, fun A outer s H args us vs Q E hg hr e0 hb r h => ?_⟩
  refine LamX.run_ofS lk hcd S hr e0 hb r (len _ _ _ _ h) (fun hr' => ?_)
  obtain ⟨t, a, b⟩ := hbody cdv A outer s H vs Q E hg hr' h
  exact ⟨t, a.nox, b⟩
end
section
variable {X : Cx} {k j : Nat} {x : Str} {sp : Sp} {p pos : Pos} {e : Expr} {es : List Expr} {t : TA} {E : XK}
theorem pe_x (c : CalX X.prog X.w X.K X.mg X.base k x sp) (hr : Room j X.A) (hk : k ≤ j) (hg : Gl X x) (hx : Passes (L2.CX X.prog X.w) X E) (ha : PA X (e :: es) t)
    (hdb : (x == ("__debug__" : Str)) = false := by decide) (he : starEach (e :: es) X.env = (false, eval e X.env) :: starEach es X.env := by rfl) (hpl : (backTo pos (starEach es X.env)).any (·.1) = false := by rfl) :
    PE X (.Call (.Name x p) (e :: es) [] pos) (tCall sp [] E t) := by
  obtain ⟨f, fd, ps, F, hm, kp, b⟩ := c.ex
  exact pe_call F (hr.mono hk) hg hm kp b .nil hx ha hdb he hpl
theorem pe_n (c : Cal X.prog X.w X.K X.mg X.base k x sp) (hr : Room j X.A) (hk : k ≤ j) (hg : Gl X x) (ha : PA X (e :: es) t)
    (hdb : (x == ("__debug__" : Str)) = false := by decide) (he : starEach (e :: es) X.env = (false, eval e X.env) :: starEach es X.env := by rfl) (hpl : (backTo pos (starEach es X.env)).any (·.1) = false := by rfl) :
    PE X (.Call (.Name x p) (e :: es) [] pos) (tCall sp [] E0 t) := by
  obtain ⟨f, fd, ps, F, hm, kp, b⟩ := c.ex
  exact pe_call F (hr.mono hk) hg hm kp b .nil pass0 ha hdb he hpl
theorem run_g {pins : List (Addr × Obj)} {σ : L2.St} {H : Hp} {s : Shared} {Q : VK} {f : Addr} {fd : FuncData} {ps : List Str} {us : List Value} {vs : List V} (F : FnG X.prog X.w X.K X.mg X.base k f fd ps sp) (hg : X.A.guards = some []) (hr : Room k X.A)
    (hb : Binds X.K fd ps []) (I : L2.Inv X pins σ H s) (r : Vals vs us) (h : sp vs H Q E) : wpAny (model X.prog X.w) X.A (call (.ref f) us) (EP X pins σ Q) X.xe s := by
  have hl : (us ++ []).length = ps.length := by rw [List.append_nil, ← r.length]; exact F.len _ _ _ _ h
  have b0 := hb s us I.kIn hl
  rw [List.append_nil] at b0
  refine wpAny_call (codeAny_mono (F.run X.A X.stack s H ⟨us, []⟩ us vs Q E hg hr I.env0 b0 r h) (fun r s' hq => ?_))
  rcases r with e | fl
  · exact (show False from hq).elim
  · cases fl with
    | ret u => exact I.after hq
    | next => exact hq.elim
    | brk => exact hq.elim
    | cont => exact hq.elim
theorem pe_g (c : CalG X.prog X.w X.K X.mg X.base k x sp) (hgd : X.A.guards = some []) (hr : Room j X.A) (hk : k ≤ j) (hg : Gl X x) (ha : PA X (e :: es) t)
    (hdb : (x == ("__debug__" : Str)) = false := by decide) (he : starEach (e :: es) X.env = (false, eval e X.env) :: starEach es X.env := by rfl) (hpl : (backTo pos (starEach es X.env)).any (·.1) = false := by rfl) :
    PE X (.Call (.Name x p) (e :: es) [] pos) (tCall sp [] E0 t) := by
  obtain ⟨f, fd, ps, F, hm, kp, b⟩ := c.ex
  constructor
  intro pins s σ H Q I h
  refine wpAny_Call_Name_kw (ld_glob I hg hm ?_ hdb)
  refine PySem.W.callWith_K (h₀ := X.base) I.ok.mod.kin kp (thn (ha.run pos pins s σ H _ I h) (fun us s1 ⟨vs, H1, I1, r, q⟩ => ⟨I1.kIn, ?_⟩)) he hpl
  have q' : sp (vs ++ []) H1 Q E0 := q
  rw [List.append_nil] at q'
  exact run_g F hgd (hr.mono hk) b I1 r q'
theorem pe_g0 (c : CalG X.prog X.w X.K X.mg X.base k x sp) (hgd : X.A.guards = some []) (hr : Room j X.A) (hk : k ≤ j) (hg : Gl X x) (hdb : (x == ("__debug__" : Str)) = false := by decide) :
    PE X (.Call (.Name x p) [] [] pos) (tCall sp [] E0 tNil) := by
  obtain ⟨f, fd, ps, F, hm, kp, b⟩ := c.ex
  constructor
  intro pins s σ H Q I h
  refine wpAny_Call_Name_kw (ld_glob I hg hm ?_ hdb)
  exact PySem.W.callWith_K0 I.kIn kp (run_g (us := []) F hgd (hr.mono hk) b I .nil h)
end
end Bs


/-! fractions as pairs of integers: the mathematics alone -/
namespace Fq
abbrev F := Int × Int
def gI (a b : Int) : Int := ((Nat.gcd a.natAbs b.natAbs : Nat) : Int)
/-- least terms, the bottom above nought -/
def red (a b : Int) : F := (a / gI a b, b / gI a b)
/-- least terms, the bottom not nought -/
def redP (a b : Int) : F := if b < 0 then red (-a) (-b) else red a b
theorem gI_neg (a b : Int) : gI (-a) (-b) = gI a b := by simp [gI]
theorem gI_pos {a b : Int} (h : b ≠ 0) : 0 < gI a b := by
  have : 0 < Nat.gcd a.natAbs b.natAbs := Nat.gcd_pos_of_pos_right _ (by omega)
  unfold gI; omega
theorem gI_le {a b : Int} (h : b ≠ 0) : (gI a b).natAbs ≤ b.natAbs := by
  have : Nat.gcd a.natAbs b.natAbs ≤ b.natAbs := Nat.gcd_le_right _ (by omega)
  unfold gI; omega
theorem redP_pos {a b : Int} (h : 0 < b) : redP a b = red a b := if_neg (by omega)
theorem redP_neg {a b : Int} (h : b < 0) : redP a b = red (-a) (-b) := if_pos h
/-- what the program reckons: by the divisor with b's sign -/
theorem redP_eq {a b g : Int} (hb : b ≠ 0) (hg : g = if b < 0 then -gI a b else gI a b) : (a.fdiv g, b.fdiv g) = redP a b := by
  have hp := gI_pos (a := a) hb
  by_cases c : b < 0
  · rw [if_pos c] at hg
    subst hg
    rw [redP_neg c, red, gI_neg]
    have e : ∀ x : Int, x.fdiv (-gI a b) = (-x) / gI a b := fun x => by
      have := Int.neg_fdiv_neg (-x) (gI a b)
      rw [Int.neg_neg] at this
      rw [this, Int.fdiv_eq_ediv_of_nonneg _ (by omega)]
    rw [e, e]
  · rw [if_neg c] at hg
    subst hg
    rw [redP, if_neg c, red, Int.fdiv_eq_ediv_of_nonneg _ (by omega), Int.fdiv_eq_ediv_of_nonneg _ (by omega)]
/-- a fraction in least terms -/
def Ok (q : F) : Prop := 0 < q.2 ∧ Nat.gcd q.1.natAbs q.2.natAbs = 1
theorem gI_dvd_l (a b : Int) : gI a b ∣ a := by
  unfold gI
  exact Int.ofNat_dvd_left.mpr (Nat.gcd_dvd_left _ _)
theorem gI_dvd_r (a b : Int) : gI a b ∣ b := by
  unfold gI
  exact Int.ofNat_dvd_left.mpr (Nat.gcd_dvd_right _ _)
theorem red_ok {a b : Int} (h : 0 < b) : Ok (red a b) := by
  have hg := gI_pos (a := a) (b := b) (by omega)
  obtain ⟨x, hx⟩ := gI_dvd_l a b
  obtain ⟨y, hy⟩ := gI_dvd_r a b
  have e1 : a / gI a b = x := Int.ediv_eq_of_eq_mul_right (by omega) hx
  have e2 : b / gI a b = y := Int.ediv_eq_of_eq_mul_right (by omega) hy
  refine ⟨?_, ?_⟩
  · show 0 < b / gI a b
    rw [e2]
    apply Int.pos_of_mul_pos_right (a := gI a b) (b := y) ?_ hg |> id
    rw [← hy]; exact h
  · show Nat.gcd (a / gI a b).natAbs (b / gI a b).natAbs = 1
    rw [e1, e2]
    have q1 : a.natAbs = (gI a b).natAbs * x.natAbs := by
      have := congrArg Int.natAbs hx
      rwa [Int.natAbs_mul] at this
    have q2 : b.natAbs = (gI a b).natAbs * y.natAbs := by
      have := congrArg Int.natAbs hy
      rwa [Int.natAbs_mul] at this
    have q3 : (gI a b).natAbs = Nat.gcd a.natAbs b.natAbs := by unfold gI; omega
    have q4 : Nat.gcd a.natAbs b.natAbs = (gI a b).natAbs * Nat.gcd x.natAbs y.natAbs := by
      rw [q1, q2, Nat.gcd_mul_left]
    have hp : 0 < (gI a b).natAbs := by omega
    have : (gI a b).natAbs * 1 = (gI a b).natAbs * Nat.gcd x.natAbs y.natAbs := by rw [← q4, q3]; omega
    exact (Nat.eq_of_mul_eq_mul_left hp this).symm
theorem red_of {q : F} (h : Ok q) : red q.1 q.2 = q := by
  have : gI q.1 q.2 = 1 := by unfold gI; rw [h.2]; rfl
  unfold red
  rw [this, Int.ediv_one, Int.ediv_one]
/-- sums, differences, products, quotients -/
def add (q r : F) : F := red (q.1 * r.2 + r.1 * q.2) (q.2 * r.2)
def sub (q r : F) : F := red (q.1 * r.2 - r.1 * q.2) (q.2 * r.2)
def mul (q r : F) : F := red (q.1 * r.1) (q.2 * r.2)
def div (q r : F) : F := redP (q.1 * r.2) (q.2 * r.1)
def lt (q r : F) : Bool := decide (q.1 * r.2 < r.1 * q.2)
def pw (q : F) (n : Nat) : F := (q.1 ^ n, q.2 ^ n)
theorem pw_ok {q : F} (h : Ok q) (n : Nat) : Ok (pw q n) := by
  refine ⟨Int.pow_pos h.1, ?_⟩
  show Nat.gcd (q.1 ^ n).natAbs (q.2 ^ n).natAbs = 1
  rw [Int.natAbs_pow, Int.natAbs_pow]
  exact Nat.Coprime.pow n n h.2
theorem pw_succ (q : F) (n : Nat) (h : Ok q) : mul (pw q n) q = pw q (n + 1) := by
  have := red_of (pw_ok h (n + 1))
  show red (q.1 ^ n * q.1) (q.2 ^ n * q.2) = _
  rw [← Int.pow_succ, ← Int.pow_succ]
  exact this
end Fq


set_option Elab.async false
set_option linter.all false
set_option maxRecDepth 100000
set_option maxHeartbeats 2000000
namespace Rs
open PySem L2 Bs Fq
def top (i : Nat) : Stmt := PySem.Challenge.pw_rungshare_k36_whole_partings.main.body.getD i (.Pass ⟨0, 0, 0, 0⟩)
abbrev fr (q : F) : HO := .tup [.int q.1, .int q.2]
/-- a value that is a fraction's tuple -/
def Fr (K : PySem.W.Frag) (H : Hp) (v : V) (q : F) : Prop := ∃ a, v = .ref a ∧ SqT K H a [.int q.1, .int q.2]
theorem Fr.of {K : PySem.W.Frag} {H : Hp} {p : Addr} {q : F} (h : H p = some (fr q)) : Fr K H (.ref p) q := ⟨p, rfl, SqT.of h⟩
theorem Fr.mono {K : PySem.W.Frag} {H H' : Hp} {v : V} {q : F} (h : Fr K H v q) (e : Same H H') : Fr K H' v q := by
  obtain ⟨a, rfl, s⟩ := h
  exact ⟨a, rfl, Same.t e s⟩
def Lt2 (n : Nat) (x : Int) : Prop := x.natAbs < 2 ^ n
theorem Lt2.mono {m n : Nat} {x : Int} (h : Lt2 m x) (k : m ≤ n) : Lt2 n x := Nat.lt_of_lt_of_le h (Nat.pow_le_pow_right (by decide) k)
theorem Lt2.c {m n : Nat} {x y : Int} (h : Lt2 m x) (k : Lt2 n y) (h0 : 0 < m := by decide) (h1 : 0 < n := by decide) (h2 : m + n ≤ 1000000 := by decide) : CMulW x y := wide_mul h k h0 h1 h2
/-- what the program reckons with -/
structure Dm (q : F) : Prop where
  big : Lt2 2000 q.1
  pos : 0 < q.2
  low : q.2 < 32768
theorem Dm.l2 {q : F} (h : Dm q) : Lt2 15 q.2 := by
  have := h.pos; have := h.low
  show q.2.natAbs < 32768
  omega
theorem mulPos {a b : Int} (h1 : 0 < a) (h2 : a < 32768) (h3 : 0 < b) (h4 : b < 32768) : 0 < a * b ∧ (a * b).natAbs < 1073741824 := by
  refine ⟨Int.mul_pos h1 h3, ?_⟩
  rw [Int.natAbs_mul]
  have : a.natAbs * b.natAbs ≤ 32767 * 32767 := Nat.mul_le_mul (by omega) (by omega)
  omega
structure DefN (K : PySem.W.Frag) (mg : Str → Option Value) (x : Str) (st : Stmt) (ps : List Str) : Prop where
  ex : ∃ (f : Addr) (fd : FuncData), Fun K x x st f fd ∧ mg x = some (.ref f) ∧ Binds K fd ps []
/-- the built-ins keep their names -/
structure Blt (mg : Str → Option Value) : Prop where
  isinstance : mg "isinstance" = none
  len : mg "len" = none
  int : mg "int" = none
  bool : mg "bool" = none
  tuple : mg "tuple" = none
  range : mg "range" = none
  list : mg "list" = none
  abs : mg "abs" = none
  min : mg "min" = none
  repr : mg "repr" = none
  comb : mg "comb" = some (.builtin "math.comb")
  fac : mg "factorial" = some (.builtin "math.factorial")
section
variable {P : Program} {w : World} {K : PySem.W.Frag} {mg : Str → Option Value} {base : Heap} {k : Nat} {x : Str} {st : Stmt} {ps : List Str} {sp : Sp}
theorem DefN.cal (D : DefN K mg x st ps) (h : ∀ f fd, Fun K x x st f fd → FnOk P w K mg base CX0 k f fd ps sp) : Cal P w K mg base k x sp := by
  obtain ⟨f, fd, F, m, b⟩ := D.ex
  exact ⟨f, fd, ps, h f fd F, m, F.kp, b⟩
theorem DefN.calX (D : DefN K mg x st ps) (h : ∀ f fd, Fun K x x st f fd → FnOk P w K mg base (L2.CX P w) k f fd ps sp) : CalX P w K mg base k x sp := by
  obtain ⟨f, fd, F, m, b⟩ := D.ex
  exact ⟨f, fd, ps, h f fd F, m, F.kp, b⟩
theorem DefN.calG (D : DefN K mg x st ps) (h : ∀ f fd, Fun K x x st f fd → FnG P w K mg base k f fd ps sp) : CalG P w K mg base k x sp := by
  obtain ⟨f, fd, F, m, b⟩ := D.ex
  exact ⟨f, fd, ps, h f fd F, m, F.kp, b⟩
end
/-! ### bare -/
/-- reduced(top, bottom) -/
def spReduced : Sp := fun vs H Q _ => ∃ (a b : Int), vs = [.int a, .int b] ∧ b ≠ 0 ∧ b.natAbs < 1073741824 ∧ ∀ p, H p = none → Q (.ref p) (upd H p (fr (redP a b)))
/-- two fractions in, one out -/
def spOp (K : PySem.W.Frag) (op : F → F → F) (dom : F → F → Prop) : Sp := fun vs H Q _ => ∃ (x y : V) (q r : F), vs = [x, y] ∧ Fr K H x q ∧ Fr K H y r ∧ dom q r ∧ ∀ p, H p = none → Q (.ref p) (upd H p (fr (op q r)))
def dom2 (q r : F) : Prop := Dm q ∧ Dm r
def domD (q r : F) : Prop := Dm q ∧ Dm r ∧ r.1 ≠ 0 ∧ r.1.natAbs < 32768
def spLt (K : PySem.W.Frag) : Sp := fun vs H Q _ => ∃ (x y : V) (q r : F), vs = [x, y] ∧ Fr K H x q ∧ Fr K H y r ∧ dom2 q r ∧ Q (.bl (lt q r)) H
def spRaised (K : PySem.W.Frag) : Sp := fun vs H Q _ => ∃ (x : V) (q : F) (n : Int), vs = [x, .int n] ∧ Fr K H x q ∧ Lt2 6 q.1 ∧ Lt2 6 q.2 ∧ 0 ≤ n ∧ n ≤ 20 ∧ ∀ p, H p = none → Q (.ref p) (upd H p (fr (pw q n.toNat)))
section
variable {P : Program} {w : World} {K : PySem.W.Frag} {mg : Str → Option Value} {base : Heap} {f : Addr} {fd : FuncData}
theorem pow_lt2 {x : Int} {n : Nat} (h : Lt2 6 x) (hn : n ≤ 20) : Lt2 121 (x ^ n) := by
  have h' : x.natAbs < 64 := h
  show (x ^ n).natAbs < 2 ^ 121
  rw [Int.natAbs_pow]
  have a := Nat.pow_le_pow_left (show x.natAbs ≤ 64 by omega) n
  have b := Nat.pow_le_pow_right (show 0 < 64 by decide) hn
  have c : (64 : Nat) ^ 20 < 2 ^ 121 := by decide
  omega
end
end Rs


set_option Elab.async false
set_option linter.all false
set_option maxRecDepth 100000
set_option maxHeartbeats 400000
namespace Rs
open PySem L2 Bs Fq
/-! ### data and kinds -/
def dF (q : F) : PyData := .tuple [.int q.1, .int q.2]
theorem Fr.dp {K : PySem.W.Frag} {H : Hp} {v : V} {q : F} (h : Fr K H v q) : Dp K H v (dF q) := by
  obtain ⟨a, rfl, s⟩ := h
  exact .tup s (.cons (.int _) (.cons (.int _) .nil))
def tyD : PyData → String
  | .none => "NoneType" | .bool _ => "bool" | .int _ => "int" | .str _ => "str" | .list _ => "list" | .tuple _ => "tuple" | .dict _ => "dict"
theorem _root_.L2.Dp.ty {K : PySem.W.Frag} {H : Hp} {v : V} {d : PyData} (h : Dp K H v d) : TyX K H v (.type (tyD d)) := by
  cases h with
  | non => exact .base .non
  | bl b => exact .base (.bl b)
  | int i => exact .base (.int i)
  | str x => exact .base (.str x)
  | lst s _ =>
    rcases s with (s | ⟨o, s⟩) | ⟨o, its, n, e, c, _⟩
    · exact .base (.lst s)
    · exact .base (.frz s)
    · exact .kList e c
  | tup s _ =>
    rcases s with (s | ⟨o, s⟩) | ⟨o, its, n, e, c, _⟩
    · exact .base (.tup s)
    · exact .fTuple s
    · exact .kTuple e c
def wholeD : PyData → Bool
  | .int _ => true
  | _ => false
def fracD : PyData → Bool
  | .tuple [.int a, .int b] => decide (1 ≤ b) && decide (gI a b = 1)
  | _ => false
def betwD (lo hi : Int) : PyData → Bool
  | .int i => decide (lo ≤ i) && decide (i ≤ hi)
  | _ => false
theorem fracD_dF {q : F} (h : Ok q) : fracD (dF q) = true := by
  have : gI q.1 q.2 = 1 := by unfold gI; rw [h.2]; rfl
  simp only [fracD, dF, Bool.and_eq_true, decide_eq_true_eq]
  exact ⟨by have := h.1; omega, this⟩
theorem fracD_true {d : PyData} (h : fracD d = true) : ∃ q, d = dF q ∧ Ok q := by
  unfold fracD at h
  split at h
  · rename_i a b
    simp only [Bool.and_eq_true, decide_eq_true_eq] at h
    refine ⟨(a, b), rfl, by show 0 < b; omega, ?_⟩
    have := h.2
    unfold gI at this
    show Nat.gcd a.natAbs b.natAbs = 1
    omega
  · cases h
def isInt : PyData → Bool
  | .int _ => true
  | .bool _ => true
  | _ => false
theorem kitI (K : PySem.W.Frag) (d : PyData) : PySem.W.kitOne K (.type (tyD d)) (.type "int") = some (isInt d) := by
  cases d with
  | none => exact kit_ty (a := "NoneType") (b := "int") (r := false) (by decide +kernel)
  | bool _ => exact kit_ty (a := "bool") (b := "int") (r := true) (by decide +kernel)
  | int _ => exact kit_ty (a := "int") (b := "int") (r := true) (by decide +kernel)
  | str _ => exact kit_ty (a := "str") (b := "int") (r := false) (by decide +kernel)
  | list _ => exact kit_ty (a := "list") (b := "int") (r := false) (by decide +kernel)
  | tuple _ => exact kit_ty (a := "tuple") (b := "int") (r := false) (by decide +kernel)
  | dict _ => exact kit_ty (a := "dict") (b := "int") (r := false) (by decide +kernel)
def isBool : PyData → Bool
  | .bool _ => true
  | _ => false
theorem kitB' (K : PySem.W.Frag) (d : PyData) : PySem.W.kitOne K (.type (tyD d)) (.type "bool") = some (isBool d) := by
  cases d with
  | none => exact kit_ty (a := "NoneType") (b := "bool") (r := false) (by decide +kernel)
  | bool _ => exact kit_ty (a := "bool") (b := "bool") (r := true) (by decide +kernel)
  | int _ => exact kit_ty (a := "int") (b := "bool") (r := false) (by decide +kernel)
  | str _ => exact kit_ty (a := "str") (b := "bool") (r := false) (by decide +kernel)
  | list _ => exact kit_ty (a := "list") (b := "bool") (r := false) (by decide +kernel)
  | tuple _ => exact kit_ty (a := "tuple") (b := "bool") (r := false) (by decide +kernel)
  | dict _ => exact kit_ty (a := "dict") (b := "bool") (r := false) (by decide +kernel)
def isTup : PyData → Bool
  | .tuple _ => true
  | _ => false
theorem kitT (K : PySem.W.Frag) (d : PyData) : PySem.W.kitOne K (.type (tyD d)) (.type "tuple") = some (isTup d) := by
  cases d with
  | none => exact kit_ty (a := "NoneType") (b := "tuple") (r := false) (by decide +kernel)
  | bool _ => exact kit_ty (a := "bool") (b := "tuple") (r := false) (by decide +kernel)
  | int _ => exact kit_ty (a := "int") (b := "tuple") (r := false) (by decide +kernel)
  | str _ => exact kit_ty (a := "str") (b := "tuple") (r := false) (by decide +kernel)
  | list _ => exact kit_ty (a := "list") (b := "tuple") (r := false) (by decide +kernel)
  | tuple _ => exact kit_ty (a := "tuple") (b := "tuple") (r := true) (by decide +kernel)
  | dict _ => exact kit_ty (a := "dict") (b := "tuple") (r := false) (by decide +kernel)
abbrev sWhole : Stmt := top 7
abbrev sBetween : Stmt := top 8
abbrev sNeedB : Stmt := top 9
def spWhole (K : PySem.W.Frag) : Sp := fun vs H Q _ => ∃ (v : V) (d : PyData), vs = [v] ∧ Dp K H v d ∧ Q (.bl (wholeD d)) H
def spBetween (K : PySem.W.Frag) : Sp := fun vs H Q _ => ∃ (v : V) (d : PyData) (lo hi : Int), vs = [v, .int lo, .int hi] ∧ Dp K H v d ∧ Q (.bl (betwD lo hi d)) H
def spFraction (K : PySem.W.Frag) : Sp := fun vs H Q _ => ∃ (v : V) (d : PyData), vs = [v] ∧ Dp K H v d ∧ Q (.bl (fracD d)) H
section
variable {P : Program} {w : World} {K : PySem.W.Frag} {mg : Str → Option Value} {base : Heap} {f : Addr} {fd : FuncData}
theorem sc15 : FnScope ["thing"] ["thing"] (defScope sWhole) := ⟨rfl, rfl, rfl, by decide +kernel, rfl, by decide +kernel, by decide +kernel⟩
theorem ok_whole (F : Fun K "is_whole" "is_whole" sWhole f fd) (T : Blt mg) : FnOk P w K mg base CX0 1 f fd ["thing"] (spWhole K) := by
  refine F.ok sc15 (fun vs H Q E h => ?_) (fun cdv A outer s H vs Q E hr h => ?_)
  · obtain ⟨v, d, rfl, _⟩ := h
    rfl
  · obtain ⟨v, d, rfl, hd, k⟩ := h
    refine ⟨_, pss_one (ps_ret (pe_and (pe_callB call_isi (by rfl) T.isinstance (by decide +kernel) (pa_cons (pv 0) (pa_cons (pe_bltn (v := .ty "int") (by rfl) T.int (by decide +kernel) rfl) pa_nil)))
      (pe_one (pe_not (pe_callB call_isi (by rfl) T.isinstance (by decide +kernel) (pa_cons (pv 0) (pa_cons (pe_bltn (v := .ty "bool") (by rfl) T.bool (by decide +kernel) rfl) pa_nil))))))), ?_⟩
    refine ⟨v, rfl, v, _, _, _, _, rfl, .ty _, hd.ty, kitI K d, _, rfl, ?_⟩
    have second : ∀ b : Bool, wholeD d = (!isBool d) → tNotV (tCB (rIsi K) (tCons (tVar 0) (tCons (tC (.ty "bool")) tNil))) (start ["thing"] [v]) H Q := fun b e => by
      refine ⟨v, rfl, v, _, _, _, _, rfl, .ty _, hd.ty, kitB' K d, _, rfl, ?_⟩
      rw [← e]
      exact k
    cases d with
    | int i => exact iteT (second true rfl)
    | bool b => exact iteT (second true rfl)
    | none => exact iteF k
    | str x => exact iteF k
    | list xs => exact iteF k
    | tuple xs => exact iteF k
    | dict xs => exact iteF k

theorem sc16 : FnScope ["thing", "low", "high"] ["thing", "low", "high"] (defScope sBetween) := ⟨rfl, rfl, rfl, by decide +kernel, rfl, by decide +kernel, by decide +kernel⟩
theorem ok_between (F : Fun K "is_between" "is_between" sBetween f fd) (W : Cal P w K mg base 1 "is_whole" (spWhole K)) : FnOk P w K mg base CX0 2 f fd ["thing", "low", "high"] (spBetween K) := by
  refine F.ok sc16 (fun vs H Q E h => ?_) (fun cdv A outer s H vs Q E hr h => ?_)
  · obtain ⟨v, d, lo, hi, rfl, _⟩ := h
    rfl
  · obtain ⟨v, d, lo, hi, rfl, hd, k⟩ := h
    refine ⟨_, pss_one (ps_ret (pe_and (pe_n W hr (by decide) (by rfl) (pa_cons (pv 0) pa_nil)) (pe_and (pe_cmpR op_le (pv 1) (pv 0) (nomark _)) (pe_one (pe_cmpR op_le (pv 0) (pv 2) (nomark _)))))), ?_⟩
    refine ⟨v, rfl, v, d, rfl, hd, _, rfl, ?_⟩
    cases d with
    | int i =>
      cases hd
      refine iteT ⟨_, rfl, _, rfl, _, _, rfl, rfl, _, rfl, ?_⟩
      have e : betwD lo hi (.int i) = (decide (lo ≤ i) && decide (i ≤ hi)) := rfl
      refine ite2 (fun c => ⟨_, rfl, _, rfl, _, _, rfl, rfl, ?_⟩) (fun c => ?_)
      · rw [e, c, Bool.true_and] at k
        exact k
      · rw [e, Bool.eq_false_iff.mpr c, Bool.false_and] at k
        exact k
    | bool b => exact iteF k
    | none => exact iteF k
    | str x => exact iteF k
    | list xs => exact iteF k
    | tuple xs => exact iteF k
    | dict xs => exact iteF k
theorem fracD_not {d : PyData} (h : isTup d = false) : fracD d = false := by
  cases d <;> first | rfl | cases h
theorem fracD_len : ∀ {ds : List PyData}, ds.length ≠ 2 → fracD (.tuple ds) = false
  | [], _ => rfl
  | [d], _ => by cases d <;> rfl
  | [_, _], h => absurd rfl h
  | a :: b :: _ :: _, _ => by cases a <;> cases b <;> rfl
theorem fracD_first {d e : PyData} (h : wholeD d = false) : fracD (.tuple [d, e]) = false := by
  cases d <;> first | rfl | cases h
theorem fracD_second {d e : PyData} (h : wholeD e = false) : fracD (.tuple [d, e]) = false := by
  cases d <;> cases e <;> first | rfl | cases h
theorem wholeD_true {d : PyData} (h : wholeD d = true) : ∃ i, d = .int i := by
  cases d with
  | int i => exact ⟨i, rfl⟩
  | _ => cases h
theorem dpAll_len {K : PySem.W.Frag} {H : Hp} : ∀ {ds : List PyData} {xs : List V}, DpAll K H xs ds → xs.length = ds.length
  | [], _, .nil => rfl
  | _ :: _, _, .cons _ r => congrArg Nat.succ (dpAll_len r)
theorem two_of {K : PySem.W.Frag} {H : Hp} {xs : List V} {ds : List PyData} (h : DpAll K H xs ds) (l : xs.length = 2) : ∃ v1 v2 d1 d2, xs = [v1, v2] ∧ ds = [d1, d2] ∧ Dp K H v1 d1 ∧ Dp K H v2 d2 := by
  cases h with
  | nil => cases l
  | cons h1 h2 =>
    cases h2 with
    | nil => cases l
    | cons h3 h4 =>
      cases h4 with
      | nil => exact ⟨_, _, _, _, rfl, rfl, h1, h3⟩
      | cons h5 h6 => simp at l
end
end Rs


set_option Elab.async false
set_option linter.all false
set_option maxRecDepth 100000
set_option maxHeartbeats 400000
namespace Rs
open PySem L2 Bs Fq
/-! ### errors -/
/-- the class x, its __init__: self.given = given -/
structure Err (K : PySem.W.Frag) (mg : Str → Option Value) (x : Str) (qual : Str) (st : Stmt) (C : Addr) : Prop where
  gC : mg x = some (.ref C)
  oex : OexC K C
  xf : XfC K C
  no : PySem.W.findIn K (.ref C) "given" = some none
  ini : ∃ (fI : Addr) (fd : FuncData), PySem.W.findIn K (.ref C) "__init__" = some (some (.ref fI)) ∧ PySem.W.typeIn K (.ref fI) = some (.type "function") ∧ Fun K "__init__" qual st fI fd ∧ Binds K fd ["self", "given"] []
abbrev sInitN : Stmt := inClass (top 4) 0
def spInit (K : PySem.W.Frag) (C : Addr) : Sp := fun vs H Q _ => ∃ (a : Addr) (y : V), vs = [.ref a, y] ∧ H a = some (exo a C none) ∧
  ∀ dx, H dx = none → dx ≠ a → Q .non (upd (upd H dx (exd dx [("given", y)])) a (exo a C (some dx)))
theorem heap_end {H : Hp} {a d : Addr} {o1 o2 o3 o4 : HO} (h : H a = none) (n : d ≠ a) : upd (del (upd (upd (upd H a o1) d o2) a o3) a) d o4 = upd H d o4 := by
  funext b
  by_cases e1 : b = d
  · subst e1
    rw [upd_same, upd_same]
  · rw [upd_ne e1, upd_ne e1]
    by_cases e2 : b = a
    · subst e2
      rw [del_same, h]
    · rw [del_ne e2, upd_ne e2, upd_ne e1, upd_ne e2]
section
variable {P : Program} {w : World} {K : PySem.W.Frag} {mg : Str → Option Value} {base : Heap} {f : Addr} {fd : FuncData}
theorem scInitN : FnScope ["self", "given"] ["self", "given"] (defScope sInitN) := ⟨rfl, rfl, rfl, by decide +kernel, rfl, by decide +kernel, by decide +kernel⟩
theorem ok_initN {C : Addr} {q : Str} (F : Fun K "__init__" q sInitN f fd) (T : OexC K C) (no : PySem.W.findIn K (.ref C) "given" = some none) : FnOk P w K mg base CX0 1 f fd ["self", "given"] (spInit K C) := by
  refine F.ok scInitN (fun vs H Q E h => ?_) (fun cdv A outer s H vs Q E hr h => ?_)
  · obtain ⟨a, y, rfl, _⟩ := h
    rfl
  · obtain ⟨a, y, rfl, ha, k⟩ := h
    exact ⟨_, pss_one (ps_ost (pv 0) (pv 1)), _, rfl, _, rfl, a, C, rfl, T, no, .inl ⟨ha, fun dx n1 n2 => k dx n1 n2⟩⟩
/-- such an error may be made by its name -/
structure ErrOk (P : Program) (w : World) (K : PySem.W.Frag) (mg : Str → Option Value) (base : Heap) (x : Str) (C : Addr) : Prop where
  gC : mg x = some (.ref C)
  oex : OexC K C
  ini : ∃ (fI : Addr) (fd : FuncData), PySem.W.findIn K (.ref C) "__init__" = some (some (.ref fI)) ∧ PySem.W.typeIn K (.ref fI) = some (.type "function") ∧ FnOk P w K mg base CX0 1 fI fd ["self", "given"] (spInit K C) ∧ Binds K fd ["self", "given"] []
theorem Err.okN {x q : Str} {C : Addr} (T : Err K mg x q sInitN C) : ErrOk P w K mg base x C := by
  obtain ⟨fI, fd, a, b, F, bi⟩ := T.ini
  exact ⟨T.gC, T.oex, fI, fd, a, b, ok_initN F T.oex T.no, bi⟩
end
/-- the way out with an error of the class at C that carries v -/
def Out (E : XK) (C : Addr) (v : V) (H : Hp) : Prop := ∀ d : Addr, H d = none → E (.ref C) (some d) (upd H d (.xd [("given", v)]))
theorem pe_weak {X : Cx} {e : Expr} {te : TE} (he : PE X e te) : PE X e (fun σ H Q => ∃ Q0 : VK, te σ H Q0 ∧ ∀ v H1, Q0 v H1 → Q v H1) :=
  ⟨fun pins s σ H Q I ⟨Q0, h, m⟩ => PySem.wpAny_mono (he.run pins s σ H Q0 I h) (fun u s' ⟨v, H1, I1, r, q⟩ => ⟨v, H1, I1, r, m _ _ q⟩) (fun _ _ z => z)⟩
/-- raise x(e) -/
def tRz (C : Addr) (W : WX) (te : TE) : TS := fun _ σ H => te σ H fun v H1 => ∀ d : Addr, H1 d = none → W (.ref C) (some d) σ (upd H1 d (.xd [("given", v)]))
theorem ps_rz {X : Cx} {x : Str} {C : Addr} {j : Nat} {e : Expr} {te : TE} {W : WX} {p pos pos2 : Pos} (hc : X.calm = true) (T : ErrOk X.prog X.w X.K X.mg X.base x C) (hr : Room j X.A) (hj : 2 ≤ j) (tk : Takes X W) (he : PE X e te) (hg : Gl X x)
    (hdb : (x == ("__debug__" : Str)) = false := by decide) (hs : starEach (e :: []) X.env = (false, eval e X.env) :: starEach [] X.env := by rfl) (hpl : (backTo pos (starEach [] X.env)).any (·.1) = false := by rfl) :
    PS X (.Raise (some (.Call (.Name x p) [e] [] pos)) none pos2) (tRz C W te) := by
  obtain ⟨fI, fd, iC, tI, F1, b⟩ := T.ini
  have h := ps_raise (pos := pos2) hc tk (pmk_oex (x := x) (p := p) (pos := pos) T.oex iC tI F1 (hr.mono hj) b .nil pass0 hg T.gC (pa_cons (pe_weak he) pa_nil hs) hdb hs hpl)
  constructor
  intro pins s σ H D I q
  refine h.run pins s σ H D I ?_
  refine ⟨_, q, fun v H1 z => ?_⟩
  refine ⟨(by show 1 ≤ 1000; decide), fun a ha => ⟨a, v, rfl, upd_same, fun dx n1 n2 => ⟨rfl, dx, [("given", v)], upd_same, ?_, ?_, ?_⟩⟩⟩
  · rw [upd_ne n2]
    exact upd_same
  · rw [upd_ne n2] at n1
    exact n1
  · rw [upd_ne n2] at n1
    show W _ _ _ (upd (del _ a) dx _)
    rw [heap_end ha n2]
    exact z dx n1
end Rs


set_option Elab.async false
set_option linter.all false
set_option maxRecDepth 100000
set_option maxHeartbeats 400000
namespace Rs
open PySem L2 Bs Fq
theorem dp_fr {K : PySem.W.Frag} {H : Hp} {v : V} {q : F} (h : Dp K H v (dF q)) : Fr K H v q := by
  cases h with
  | tup s a =>
    cases a with
    | cons h1 h2 =>
      cases h2 with
      | cons h3 h4 =>
        cases h4
        cases h1
        cases h3
        exact ⟨_, rfl, s⟩
def spNeedF (K : PySem.W.Frag) (C : Addr) : Sp := fun vs H Q E => ∃ (v : V) (d : PyData), vs = [v] ∧ Dp K H v d ∧ (fracD d = true → Q v H) ∧ (fracD d = false → Out E C v H)
def spNeedB (K : PySem.W.Frag) (C : Addr) : Sp := fun vs H Q E => ∃ (v : V) (d : PyData) (lo hi : Int), vs = [v, .int lo, .int hi] ∧ Dp K H v d ∧ (betwD lo hi d = true → Q v H) ∧ (betwD lo hi d = false → Out E C v H)
def spRatio (K : PySem.W.Frag) (C : Addr) : Sp := fun vs H Q E => ∃ (x y : V) (dx dy : PyData), vs = [x, y] ∧ Dp K H x dx ∧ Dp K H y dy ∧ (wholeD dx = false → Out E C x H) ∧
  (∀ a, dx = .int a → (∀ b, dy = .int b → b ≠ 0 → b.natAbs < 1073741824 ∧ ∀ p, H p = none → Q (.ref p) (upd H p (fr (redP a b)))) ∧ ((∀ b, dy = .int b → b = 0) → Out E C y H))
/-- two fractions wanted; R: what is made of them -/
def spTwo (K : PySem.W.Frag) (C : Addr) (R : V → V → F → F → Hp → VK → XK → Prop) : Sp := fun vs H Q E => ∃ (x y : V) (dx dy : PyData), vs = [x, y] ∧ Dp K H x dx ∧ Dp K H y dy ∧ (fracD dx = false → Out E C x H) ∧
  (fracD dx = true → fracD dy = false → Out E C y H) ∧ (∀ q r, dx = dF q → Ok q → dy = dF r → Ok r → R x y q r H Q E)
def rOp (op : F → F → F) (dom : F → F → Prop) : V → V → F → F → Hp → VK → XK → Prop := fun _ _ q r H Q _ => dom q r ∧ ∀ p, H p = none → Q (.ref p) (upd H p (fr (op q r)))
def rLt : V → V → F → F → Hp → VK → XK → Prop := fun _ _ q r H Q _ => dom2 q r ∧ Q (.bl (lt q r)) H
def rOver (C : Addr) : V → V → F → F → Hp → VK → XK → Prop := fun _ y q r H Q E => (r.1 = 0 → Out E C y H) ∧ (r.1 ≠ 0 → domD q r ∧ ∀ p, H p = none → Q (.ref p) (upd H p (fr (div q r))))
def spPower (K : PySem.W.Frag) (CF CN : Addr) : Sp := fun vs H Q E => ∃ (x y : V) (dx dy : PyData), vs = [x, y] ∧ Dp K H x dx ∧ Dp K H y dy ∧ (fracD dx = false → Out E CF x H) ∧
  (fracD dx = true → betwD 0 20 dy = false → Out E CN y H) ∧ (∀ q n, dx = dF q → Ok q → dy = .int n → 0 ≤ n → n ≤ 20 → Lt2 6 q.1 ∧ Lt2 6 q.2 ∧ ∀ p, H p = none → Q (.ref p) (upd H p (fr (pw q n.toNat))))
/-- the module's NOUGHT -/
structure Nou (K : PySem.W.Frag) (mg : Str → Option Value) : Prop where
  ex : ∃ a : Addr, mg "NOUGHT" = some (.ref a) ∧ ∀ H : Hp, SqT K H a [.int 0, .int 1]
section
variable {P : Program} {w : World} {K : PySem.W.Frag} {mg : Str → Option Value} {base : Heap} {f : Addr} {fd : FuncData} {CF CN : Addr}
theorem sc19 : FnScope ["thing", "low", "high"] ["thing", "low", "high"] (defScope sNeedB) := ⟨rfl, rfl, rfl, by decide +kernel, rfl, by decide +kernel, by decide +kernel⟩
theorem ok_needB (F : Fun K "need_between" "need_between" sNeedB f fd) (T : ErrOk P w K mg base "BadNumber" CN) (W : Cal P w K mg base 2 "is_between" (spBetween K)) : FnOk P w K mg base (L2.CX P w) 3 f fd ["thing", "low", "high"] (spNeedB K CN) := by
  refine F.okX sc19 (fun vs H Q E h => ?_) (fun cdv A outer s H vs Q E hr h => ?_)
  · obtain ⟨v, d, lo, hi, rfl, _⟩ := h
    rfl
  · obtain ⟨v, d, lo, hi, rfl, hd, k1, k2⟩ := h
    refine ⟨_, pss_cons (ps_if (pt_not (pt_val (pe_n W hr (by decide) (by rfl) (pa_cons (pv 0) (pa_cons (pv 1) (pa_cons (pv 2) pa_nil)))))) (pss_one (ps_rz rfl T hr (by decide) (takes_of rfl rfl rfl rfl) (pv 0) (by rfl))) pss_nil) (pss_one (ps_ret (pv 0))), ?_⟩
    refine ⟨_, rfl, _, rfl, _, rfl, v, d, lo, hi, rfl, hd, _, rfl, ?_⟩
    cases e : betwD lo hi d with
    | true => exact iteF ⟨_, rfl, k1 e⟩
    | false => exact iteT ⟨_, rfl, k2 e⟩
/-- the reading of f(need_fraction(one), need_fraction(other)) -/
theorem two_needs {x y : V} {dx dy : PyData} {H : Hp} {E : XK} {Q2 : F → F → Prop} {sp : Sp} {D : Ends} (h1 : Dp K H x dx) (h2 : Dp K H y dy) (k1 : fracD dx = false → Out E CF x H) (k2 : fracD dx = true → fracD dy = false → Out E CF y H)
    (k3 : ∀ q r, dx = dF q → Ok q → dy = dF r → Ok r → Q2 q r) (fin : ∀ q r, Fr K H x q → Fr K H y r → Q2 q r → sp [x, y] H D.rt E0) :
    tRet (tCall sp [] E0 (tCons (tCall (spNeedF K CF) [] E (tCons (tVar 0) tNil)) (tCons (tCall (spNeedF K CF) [] E (tCons (tVar 1) tNil)) tNil))) D (start ["one", "other"] [x, y]) H := by
  refine ⟨x, rfl, x, dx, rfl, h1, fun e1 => ⟨y, rfl, y, dy, rfl, h2, fun e2 => ?_, fun e2 => k2 e1 e2⟩, k1⟩
  obtain ⟨q, rfl, o1⟩ := fracD_true e1
  obtain ⟨r, rfl, o2⟩ := fracD_true e2
  exact fin q r (dp_fr h1) (dp_fr h2) (k3 q r rfl o1 rfl o2)
end
end Rs


set_option Elab.async false
set_option linter.all false
set_option maxRecDepth 100000
set_option maxHeartbeats 400000
namespace Rs
open PySem L2 Bs Fq
abbrev sMixed : Stmt := top 31
def spMixed : Sp := fun vs H Q _ => ∃ (c k : Int), vs = [.int c, .int k] ∧ 0 ≤ k ∧ k ≤ 100000 ∧ ∀ r : Int, 0 ≤ r → r < 2147483629 → Q (.int r) H
/-- _law_ratio(top, bottom), bottom above nought -/
def spLRatio : Sp := fun vs H Q _ => ∃ (a b : Int), vs = [.int a, .int b] ∧ 0 < b ∧ Lt2 8000 b ∧ ∀ p, H p = none → Q (.ref p) (upd H p (fr (red a b)))
/-- the law's own numbers: any size that a reckoning may have -/
structure Dl (q : F) : Prop where
  big : Lt2 4000 q.1
  pos : 0 < q.2
  low : Lt2 4000 q.2
def domL (q r : F) : Prop := Dl q ∧ Dl r
def domLD (q r : F) : Prop := Dl q ∧ Dl r ∧ 0 < r.1
def spLt' (K : PySem.W.Frag) : Sp := fun vs H Q _ => ∃ (x y : V) (q r : F), vs = [x, y] ∧ Fr K H x q ∧ Fr K H y r ∧ domL q r ∧ Q (.bl (lt q r)) H
/-- the law's quotient, the divisor above nought -/
def divL (q r : F) : F := red (q.1 * r.2) (q.2 * r.1)
section
variable {P : Program} {w : World} {K : PySem.W.Frag} {mg : Str → Option Value} {base : Heap} {f : Addr} {fd : FuncData}
theorem scMixed : FnScope ["cell", "k"] ["cell", "k"] (defScope sMixed) := ⟨rfl, rfl, rfl, by decide +kernel, rfl, by decide +kernel, by decide +kernel⟩
theorem ok_mixed (F : Fun K "_law_mixed" "_law_mixed" sMixed f fd) (T : Blt mg) : FnOk P w K mg base CX0 1 f fd ["cell", "k"] spMixed := by
  refine F.ok scMixed (fun vs H Q E h => ?_) (fun cdv A outer s H vs Q E hr h => ?_)
  · obtain ⟨c, k, rfl, _⟩ := h
    rfl
  · obtain ⟨c, k, rfl, k0, k1, g⟩ := h
    refine ⟨_, pss_cons (ps_set (i := 0) scMixed.nd rfl (Or.inl rfl) (pe_op op_mod (pe_callTy call_int1 (by rfl) T.int (by decide +kernel) (pa_cons (pv 0) pa_nil)) pe_int))
      (pss_one (ps_ret (pe_op op_mod (pe_op op_mul (pe_op op_mod (pe_op op_add (pe_op op_add (pe_op op_mul (pv 0) (pe_op op_add pe_int (pe_op op_mul (pe_op op_mul pe_int (pv 1)) (pv 1)))) (pe_op op_mul pe_int (pv 1))) pe_int) pe_int) pe_int) pe_int))), ?_⟩
    refine ⟨_, rfl, .inl ⟨c, rfl, _, _, rfl, rfl, (by show (0 : Int) < 2147483647; decide), ?_⟩⟩
    have m0 := Int.emod_nonneg c (b := 2147483647) (by decide)
    have m1 := Int.emod_lt_of_pos c (b := 2147483647) (by decide)
    refine ⟨_, rfl, _, rfl, _, _, rfl, rfl, .inl ⟨by decide, by decide⟩, _, rfl, _, _, rfl, rfl, .inr ⟨by omega, by omega⟩, _, _, rfl, rfl, _, _, rfl, rfl, .inl ⟨by omega, by omega⟩, _, rfl, _, _, rfl, rfl, .inl ⟨by decide, by decide⟩, _, _, rfl, rfl, _, _, rfl, rfl,
      _, _, rfl, rfl, (by show (0 : Int) < 2147483647; decide), _, _, rfl, rfl, .inr ⟨by decide, by decide⟩, _, _, rfl, rfl, (by show (0 : Int) < 2147483629; decide), ?_⟩
    exact g _ (Int.emod_nonneg _ (by decide)) (Int.emod_lt_of_pos _ (by decide))
end
end Rs


set_option Elab.async false
set_option linter.all false
set_option maxRecDepth 100000
set_option maxHeartbeats 400000
namespace Rs
open PySem L2 Bs Fq
section
variable {P : Program} {w : World} {K : PySem.W.Frag} {mg : Str → Option Value} {base : Heap} {f : Addr} {fd : FuncData}
/-- _law_power(one, many): one in least terms -/
def spLPower (K : PySem.W.Frag) : Sp := fun vs H Q _ => ∃ (x : V) (q : F) (n : Int), vs = [x, .int n] ∧ Fr K H x q ∧ Ok q ∧ Lt2 6 q.1 ∧ Lt2 6 q.2 ∧ 0 ≤ n ∧ n ≤ 20 ∧ ∀ H' p, Same H H' → H' p = some (fr (pw q n.toNat)) → Q (.ref p) H'
/-- _law_divided(one, far): the quotient, far not nought -/
def spLDivided (K : PySem.W.Frag) : Sp := fun vs H Q _ => ∃ (x y : V) (q r : F), vs = [x, y] ∧ Fr K H x q ∧ Fr K H y r ∧ domL q r ∧ r.1 ≠ 0 ∧ ∀ H' p, Same H H' → H' p = some (fr (div q r)) → Q (.ref p) H'
theorem lt2_neg {n : Nat} {x : Int} (h : Lt2 n x) : Lt2 n (-x) := by
  unfold Lt2 at h ⊢
  rw [Int.natAbs_neg]
  exact h
end
end Rs


set_option Elab.async false
set_option linter.all false
set_option maxRecDepth 100000
set_option maxHeartbeats 400000
namespace Rs
open PySem L2 Bs Fq
abbrev sBegin : Stmt := top 32
abbrev sDraw : Stmt := top 33
abbrev sOf : Stmt := top 34
/-! ### the state -/
def dS (c l : Addr) (t : Int) : List (Key × V) := [(Sum.inr "cells", .ref c), (Sum.inr "lefts", .ref l), (Sum.inr "at", .int t), (Sum.inr "room", .int 0)]
theorem val_cells (c l : Addr) (t : Int) : valV (dS c l t) (Sum.inr "cells") = some (.ref c) := by rfl
theorem val_lefts (c l : Addr) (t : Int) : valV (dS c l t) (Sum.inr "lefts") = some (.ref l) := by rfl
theorem val_at (c l : Addr) (t : Int) : valV (dS c l t) (Sum.inr "at") = some (.int t) := by rfl
theorem put_at (c l : Addr) (t u : Int) : putK (dS c l t) (Sum.inr "at") (.int u) = dS c l u := by rfl
structure Sta (H : Hp) (p c l : Addr) (n : Nat) (t : Int) : Prop where
  d : H p = some (.dK (dS c l t))
  cs : ∃ cs : List Int, H c = some (.lst (cs.map V.int)) ∧ cs.length = n
  ls : ∃ ls : List Int, H l = some (.lst (ls.map V.int)) ∧ ls.length = n ∧ ∀ z ∈ ls, 0 ≤ z
  ne : c ≠ l
  n1 : 1 ≤ n
  n2 : n ≤ 63
  t0 : 0 ≤ t
section
variable {H H' : Hp} {p c l : Addr} {n : Nat} {t : Int}
theorem Sta.gCells (S : Sta H p c l n t) : DGet H p (.str "cells") (some (.ref c)) := by
  have := DGet.k (k := (Sum.inr "cells" : Key)) S.d
  rwa [val_cells] at this
theorem Sta.gLefts (S : Sta H p c l n t) : DGet H p (.str "lefts") (some (.ref l)) := by
  have := DGet.k (k := (Sum.inr "lefts" : Key)) S.d
  rwa [val_lefts] at this
theorem Sta.gAt (S : Sta H p c l n t) : DGet H p (.str "at") (some (.int t)) := by
  have := DGet.k (k := (Sum.inr "at" : Key)) S.d
  rwa [val_at] at this
theorem Sta.pc (S : Sta H p c l n t) : p ≠ c := by
  obtain ⟨cs, h, _⟩ := S.cs
  exact ne_of S.d h (by intro z; cases z)
theorem Sta.pl (S : Sta H p c l n t) : p ≠ l := by
  obtain ⟨ls, h, _⟩ := S.ls
  exact ne_of S.d h (by intro z; cases z)
theorem Sta.mono (S : Sta H p c l n t) (e : Same H H') : Sta H' p c l n t := by
  obtain ⟨cs, a1, a2⟩ := S.cs
  obtain ⟨ls, b1, b2⟩ := S.ls
  exact ⟨e _ _ S.d, ⟨cs, e _ _ a1, a2⟩, ⟨ls, e _ _ b1, b2⟩, S.ne, S.n1, S.n2, S.t0⟩
/-- the state alone was changed -/
def Kp (p l : Addr) (H H' : Hp) : Prop := ∀ b o, H b = some o → b ≠ p → b ≠ l → H' b = some o
theorem Kp.trans {H1 H2 H3 : Hp} (a : Kp p l H1 H2) (b : Kp p l H2 H3) : Kp p l H1 H3 := fun x o e n1 n2 => b x o (a x o e n1 n2) n1 n2
theorem Kp.of (e : Same H H') : Kp p l H H' := fun x o h _ _ => e x o h
theorem Kp.fr {K : PySem.W.Frag} {v : V} {q : F} (k : Kp p l H H') (S : Sta H p c l n t) (h : Fr K H v q) : Fr K H' v q := by
  obtain ⟨a, rfl, s⟩ := h
  obtain ⟨ls, b1, _⟩ := S.ls
  refine ⟨a, rfl, ?_⟩
  rcases s with (s | ⟨o, s⟩) | s
  · exact .inl (.inl (k a _ s (ne_of s S.d (by intro z; cases z)) (ne_of s b1 (by intro z; cases z))))
  · exact .inl (.inr ⟨o, k a _ s (ne_of s S.d (by intro z; cases z)) (ne_of s b1 (by intro z; cases z))⟩)
  · exact .inr s
end
/-- _law_draw(state, many) -/
def spDraw : Sp := fun vs H Q _ => ∃ (p c l : Addr) (n : Nat) (t m : Int), vs = [.ref p, .int m] ∧ Sta H p c l n t ∧ t ≤ 10000 ∧ 1 ≤ m ∧ m < 1000000 ∧
  ∀ (H' : Hp) (r : Int), 0 ≤ r → r < m → Sta H' p c l n (t + 1) → Kp p l H H' → Q (.int r) H'
section
variable {P : Program} {w : World} {K : PySem.W.Frag} {mg : Str → Option Value} {base : Heap} {f : Addr} {fd : FuncData}
theorem scDraw : FnScope ["state", "many", "at", "place", "left", "number"] ["state", "many"] (defScope sDraw) := ⟨rfl, rfl, rfl, by decide +kernel, rfl, by decide +kernel, by decide +kernel⟩
theorem int_at {cs : List Int} {i : Nat} (h : i < cs.length) : ∃ z, cs[i]? = some z ∧ (cs.map V.int)[i]? = some (V.int z) := by
  refine ⟨cs[i], List.getElem?_eq_getElem h, ?_⟩
  rw [List.getElem?_map, List.getElem?_eq_getElem h]
  rfl
theorem ok_draw (F : Fun K "_law_draw" "_law_draw" sDraw f fd) (T : Blt mg) (C : Cal P w K mg base 1 "_law_mixed" spMixed) : FnOk P w K mg base CX0 2 f fd ["state", "many"] spDraw := by
  refine F.ok scDraw (fun vs H Q E h => ?_) (fun cdv A outer s H vs Q E hr h => ?_)
  · obtain ⟨p, c, l, n, t, m, rfl, _⟩ := h
    rfl
  · obtain ⟨p, c, l, n, t, m, rfl, S, ht, m1, m2, k⟩ := h
    have hu := hu_of hr
    refine ⟨_, pss_cons (ps_set (i := 2) scDraw.nd rfl (Or.inl rfl) (pe_dget hu (pv 0) pe_str (fun _ _ => rfl)))
      (pss_cons (ps_dput hu (pv 0) pe_str (pe_op op_add (pv 2) pe_int) rfl)
      (pss_cons (ps_set (i := 3) scDraw.nd rfl (Or.inl rfl) (pe_op op_mod (pe_callTy call_int1 (by rfl) T.int (by decide +kernel) (pa_cons (pv 2) pa_nil)) (pe_callB call_len_seq (by rfl) T.len PySem.boot_len (pa_cons (pe_dget hu (pv 0) pe_str (fun _ _ => rfl)) pa_nil))))
      (pss_cons (ps_set (i := 4) scDraw.nd rfl (Or.inl rfl) (pe_ix ix_list (pe_dget hu (pv 0) pe_str (fun _ _ => rfl)) (pv 3) (fun _ _ => rfl)))
      (pss_cons (ps_if (pt_cmpR op_gt (pv 4) pe_int (nomark _))
        (pss_cons (ps_asg (pe_op op_fdivN (pv 4) (pv 1)) (pg_sub (pe_dget hu (pv 0) pe_str (fun _ _ => rfl)) (pv 3) set_list))
          (pss_one (ps_ret (pe_op op_mod (pe_callTy call_int1 (by rfl) T.int (by decide +kernel) (pa_cons (pv 4) pa_nil)) (pv 1))))) pss_nil)
      (pss_cons (ps_set (i := 5) scDraw.nd rfl (Or.inl rfl) (pe_n C hr (by decide) (by rfl) (pa_cons (pe_n C hr (by decide) (by rfl) (pa_cons (pe_ix ix_list (pe_dget hu (pv 0) pe_str (fun _ _ => rfl)) (pv 3) (fun _ _ => rfl)) (pa_cons (pv 2) pa_nil))) (pa_cons (pe_op op_add pe_int (pv 2)) pa_nil))))
      (pss_one (ps_ret (pe_op op_mod (pe_op op_fdiv (pe_callTy call_int1 (by rfl) T.int (by decide +kernel) (pa_cons (pe_op op_add (pe_op op_mul (pv 5) pe_int) (pe_n C hr (by decide) (by rfl) (pa_cons (pv 5) (pa_cons (pe_op op_add pe_int (pv 2)) pa_nil)))) pa_nil)) pe_int) (pv 1))))))))), ?_⟩
    refine ⟨_, rfl, p, _, rfl, S.gAt, ?_⟩
    have S1 : Sta (upd H p (.dK (dS c l (t + 1)))) p c l n (t + 1) := by
      obtain ⟨cs, a1, a2⟩ := S.cs
      obtain ⟨ls, b1, b2, b3⟩ := S.ls
      exact ⟨upd_same, ⟨cs, by rw [upd_ne S.pc.symm]; exact a1, a2⟩, ⟨ls, by rw [upd_ne S.pl.symm]; exact b1, b2, b3⟩, S.ne, S.n1, S.n2, by have := S.t0; omega⟩
    have k1 : Kp p l H (upd H p (.dK (dS c l (t + 1)))) := fun b o e n1 _ => (upd_ne n1).trans e
    refine ⟨_, rfl, _, _, rfl, rfl, _, rfl, p, _, rfl, DPut.k (k := Sum.inr "at") S.d (by show 4 < sizeLine; decide), ?_⟩
    rw [put_at]
    generalize upd H p (.dK (dS c l (t + 1))) = H1 at S1 k1 ⊢
    obtain ⟨cs, a1, a2⟩ := S1.cs
    obtain ⟨ls, b1, b2, b3⟩ := S1.ls
    have n1 := S.n1
    have t0 := S.t0
    have r0 := Int.emod_nonneg t (b := (n : Int)) (by omega)
    have r1 := Int.emod_lt_of_pos t (b := (n : Int)) (by omega)
    obtain ⟨i, hi⟩ : ∃ i : Nat, t % (n : Int) = (i : Int) := ⟨(t % (n : Int)).toNat, by omega⟩
    have hin : i < n := by omega
    obtain ⟨zc, c1, c2⟩ := int_at (cs := cs) (i := i) (by omega)
    obtain ⟨zl, l1, l2⟩ := int_at (cs := ls) (i := i) (by omega)
    have zl0 : 0 ≤ zl := b3 zl (List.mem_of_getElem? l1)
    refine ⟨_, rfl, .inl ⟨t, rfl, _, rfl, p, _, rfl, S1.gCells, c, _, rfl, .inl (SqL.of a1), _, _, rfl, rfl, ?_, ?_⟩⟩
    · show (0 : Int) < ((cs.map V.int).length : Nat)
      rw [List.length_map, a2]
      omega
    · rw [List.length_map, a2]
      have l3 : atI (ls.map V.int) (t % (n : Int)) = some (V.int zl) := by
        rw [hi]
        exact atI_nat l2
      have c3 : atI (cs.map V.int) (t % (n : Int)) = some (V.int zc) := by
        rw [hi]
        exact atI_nat c2
      have hix : ixN (ls.map V.int).length (t % (n : Int)) = some i := by
        rw [hi, List.length_map, b2]
        unfold ixN
        rw [if_pos (by omega), if_pos (by omega)]
        simp
      refine ⟨_, rfl, p, _, rfl, S1.gLefts, _, rfl, l, _, _, _, rfl, rfl, SqL.of b1, l3, ?_⟩
      refine ⟨_, rfl, _, _, rfl, rfl, _, rfl, ?_⟩
      refine ite2 (fun q => ?_) (fun q => ?_)
      · refine ⟨_, rfl, _, rfl, _, _, rfl, rfl, ⟨by omega, by omega⟩, ?_⟩
        refine ⟨_, rfl, p, _, rfl, S1.gLefts, _, rfl, l, _, _, i, rfl, rfl, b1, hix, ?_⟩
        refine ⟨_, rfl, .inl ⟨zl, rfl, _, rfl, _, _, rfl, rfl, (by show (0 : Int) < m; omega), ?_⟩⟩
        refine k _ _ (Int.emod_nonneg _ (by omega)) (Int.emod_lt_of_pos _ (by omega)) ⟨?_, ⟨cs, ?_, a2⟩, ⟨ls.set i (zl.fdiv m), ?_, ?_, ?_⟩, S1.ne, S1.n1, S1.n2, S1.t0⟩ (k1.trans (fun b o e _ n2 => (upd_ne n2).trans e))
        · rw [upd_ne S1.pl]
          exact S1.d
        · rw [upd_ne S1.ne]
          exact a1
        · rw [upd_same, List.map_set]
        · rw [List.length_set, b2]
        · intro z hz
          rcases List.mem_or_eq_of_mem_set hz with h | h
          · exact b3 z h
          · rw [h, Int.fdiv_eq_ediv_of_nonneg _ (by omega)]
            exact Int.ediv_nonneg zl0 (by omega)
      · refine ⟨_, rfl, p, _, rfl, S1.gCells, _, rfl, c, _, _, _, rfl, rfl, SqL.of a1, c3, _, rfl, zc, t, rfl, t0, by omega, fun x x0 x1 => ?_⟩
        refine ⟨_, rfl, _, _, rfl, rfl, x, 40 + t, rfl, by omega, by omega, fun y y0 y1 => ?_⟩
        refine ⟨_, rfl, _, _, rfl, rfl, .inl ⟨by omega, by omega⟩, _, rfl, _, rfl, _, _, rfl, rfl, y, 7 + t, rfl, by omega, by omega, fun z z0 z1 => ?_⟩
        refine ⟨_, _, rfl, rfl, .inl ⟨_, rfl, _, _, rfl, rfl, ⟨by decide, by decide⟩, _, rfl, _, _, rfl, rfl, (by show (0 : Int) < m; omega), ?_⟩⟩
        exact k _ _ (Int.emod_nonneg _ (by omega)) (Int.emod_lt_of_pos _ (by omega)) S1 k1
end
end Rs


set_option Elab.async false
set_option linter.all false
set_option maxRecDepth 100000
set_option maxHeartbeats 400000
namespace Rs
open PySem L2 Bs Fq
/-- _law_begin(script) -/
def spBegin (K : PySem.W.Frag) : Sp := fun vs H Q _ => ∃ (a : Addr) (ns : List Int), vs = [.ref a] ∧ SqL K H a (ns.map V.int) ∧ ns.length ≤ 63 ∧
  ∀ (H' : Hp) (p c l : Addr) (n : Nat), Same H H' → H p = none → H l = none → Sta H' p c l n 0 → Q (.ref p) H'
/-- _law_of(state, some) -/
def spOf (K : PySem.W.Frag) : Sp := fun vs H Q _ => ∃ (p c l b : Addr) (n : Nat) (t : Int) (xs : List V), vs = [.ref p, .ref b] ∧ Sta H p c l n t ∧ t ≤ 10000 ∧ SqL K H b xs ∧ 1 ≤ xs.length ∧ xs.length ≤ 1000 ∧ b ≠ l ∧
  ∀ (H' : Hp) (v : V), v ∈ xs → Sta H' p c l n (t + 1) → Kp p l H H' → Q v H'
/-- _law_small(state) -/
def spSmall : Sp := fun vs H Q _ => ∃ (p c l : Addr) (n : Nat) (t : Int), vs = [.ref p] ∧ Sta H p c l n t ∧ t ≤ 9000 ∧
  ∀ (H' : Hp) (b : Addr) (x y : Int), -6 ≤ x → x ≤ 6 → 1 ≤ y → y ≤ 3 → H' b = some (fr (red x y)) → Sta H' p c l n (t + 2) → Kp p l H H' → Q (.ref b) H'
section
variable {P : Program} {w : World} {K : PySem.W.Frag} {mg : Str → Option Value} {base : Heap} {f : Addr} {fd : FuncData}
theorem scBegin : FnScope ["script", "cells", "cell"] ["script"] (defScope sBegin) := ⟨rfl, rfl, rfl, by decide +kernel, rfl, by decide +kernel, by decide +kernel⟩
theorem dp_ints {K : PySem.W.Frag} {H : Hp} : ∀ ns : List Int, DpAll K H (ns.map V.int) (ns.map PyData.int)
  | [] => .nil
  | n :: ns => .cons (.int n) (dp_ints ns)
def left (z : Int) : Int := if z ≥ 10 ^ 18 then z else 0
theorem left_nonneg (z : Int) : 0 ≤ left z := by
  unfold left
  split
  · have : (0 : Int) ≤ 10 ^ 18 := by decide
    omega
  · omega
theorem can_ints : ∀ ns : List Int, PyData.canLayAll0 (ns.map PyData.int) = true
  | [] => by simp [PyData.canLayAll0]
  | n :: ns => by
    have := can_ints ns
    simp [PyData.canLayAll0, PyData.canLay0, this]
theorem dep_ints : ∀ ns : List Int, PyData.depthAll (ns.map PyData.int) ≤ 1
  | [] => by simp [PyData.depthAll]
  | n :: ns => by
    have := dep_ints ns
    simp only [List.map_cons, PyData.depthAll, PyData.depth]
    omega
theorem shaped_ints (ns : List Int) : SeqAt.shaped (.list (ns.map PyData.int)) = true := by
  unfold SeqAt.shaped
  rw [Bool.and_eq_true_iff]
  refine ⟨?_, decide_eq_true ?_⟩
  · simpa [PyData.canLay0] using can_ints ns
  · have := dep_ints ns
    simp only [PyData.depth]
    omega
theorem some_int {cs : List Int} {i : Nat} {x : V} (h : (cs.map V.int)[i]? = some x) : ∃ z, cs[i]? = some z ∧ x = V.int z := by
  rw [List.getElem?_map] at h
  cases e : cs[i]? with
  | none =>
    rw [e] at h
    cases h
  | some z =>
    rw [e] at h
    exact ⟨z, rfl, (Option.some.inj h).symm⟩
theorem take_one {α : Type} {l : List α} {i : Nat} {x : α} (h : l[i]? = some x) : l.take (i + 1) = l.take i ++ [x] := by
  rw [List.take_add_one, h]
  rfl
theorem ok_begin (F : Fun K "_law_begin" "_law_begin" sBegin f fd) (T : Blt mg) : FnOk P w K mg base CX0 2 f fd ["script"] (spBegin K) := by
  refine F.ok scBegin (fun vs H Q E h => ?_) (fun cdv A outer s H vs Q E hr h => ?_)
  · obtain ⟨a, ns, rfl, _⟩ := h
    rfl
  · obtain ⟨a, ns, rfl, hS, hl, k⟩ := h
    refine ⟨_, C8.pss_cut (ps_set (i := 1) scBegin.nd rfl (Or.inl rfl) (pe_ifExp (pt_cmpR (op_neD hr.units) (pv 0) (pe_lst pa_nil) (nomark _)) (pe_callTy call_list_of (by rfl) T.list (by decide +kernel) (pa_cons (pv 0) pa_nil)) (pe_lst (pa_cons pe_int pa_nil))))
      (pss_one (ps_ret (pe_disp (pps_cons pe_str (pv 1) (pps_cons pe_str (pe_lc (own := [("cell", 2)]) (g := gName 2) (tt := tYes) rfl scBegin.nd (pi_list (pv 1)) (blkOk_by (N := ["script", "cells", "cell"]) (sc := defScope sBegin) (by decide +kernel))
          (fun _ _ _ _ _ => pg_name (i := 2) scBegin.nd rfl (Or.inl rfl)) (fun _ _ _ _ _ => pts_nil) (fun _ _ _ _ _ => pe_ifExp (pt_cmpR op_ge (pv 2) (pe_op op_pow pe_int pe_int) (nomark _)) (pv 2) pe_int))
        (pps_cons pe_str pe_int (pps_cons pe_str pe_int pps_nil)))) (by rfl) (by rfl) (fun z => by cases z) (by decide)))), ?_⟩
    refine ⟨fun σ H1 => ∃ (c : Addr) (cs : List Int), Same H H1 ∧ H1 c = some (.lst (cs.map V.int)) ∧ 1 ≤ cs.length ∧ cs.length ≤ 63 ∧ σ = [some (V.ref a), some (V.ref c), none], ?_, ?_⟩
    · refine ⟨_, rfl, (by show 0 ≤ sizeLine; decide), fun p0 hp0 => ?_⟩
      have s0 : Same H (upd H p0 (.lst [])) := same_new hp0
      refine ⟨.list (ns.map PyData.int), .list [], .lst (s0.seq hS) (dp_ints ns), .lst (SqL.of upd_same) .nil, ?_, rfl, _, rfl, ?_⟩
      · exact shaped_ints ns
      · have e : PyData.eqv (.list (ns.map PyData.int)) (.list []) = ns.isEmpty := by
          cases ns <;> rfl
        show if (!PyData.eqv (.list (ns.map PyData.int)) (.list [])) = true then _ else _
        rw [e]
        cases hn : ns with
        | nil =>
          refine iteF ⟨(by show 1 ≤ sizeLine; decide), fun p1 hp1 => ?_⟩
          exact ⟨p1, [0], s0.trans (same_new hp1), upd_same, Nat.le_refl _, (by show 1 ≤ 63; decide), rfl⟩
        | cons n ns' =>
          refine iteT ⟨_, rfl, a, _, rfl, .inl (s0.seq hS), fun p1 hp1 => ?_⟩
          exact ⟨p1, ns, s0.trans (same_new hp1), upd_same, by rw [hn]; exact Nat.succ_le_succ (Nat.zero_le _), hl, rfl⟩
    · rintro σ H1 ⟨c, cs, s1, hc, l1, l2, rfl⟩
      intro p hp
      have sp : Same H1 (upd H1 p (.dK [])) := same_new hp
      refine ⟨_, rfl, ?_⟩
      have np : H1 p = none := hp
      have hpc : c ≠ p := ne_of_none hc np
      refine ⟨_, rfl, c, rfl, ⟨_, SqL.of (sp _ _ hc)⟩, fun D hD => lc_list (K := K) (a := c) (xs := cs.map V.int)
        (fun i H2 => Same (upd H1 p (.dK [])) H2 ∧ H2 D = some (.lst ((cs.take i).map (fun z => V.int (left z))))) ⟨same_new hD, upd_same⟩ (fun i H2 _ z => SqL.of (z.1 _ _ (sp _ _ hc))) ?_ ?_⟩
      · rintro i x H2 hx ⟨s2, hD2⟩
        obtain ⟨z, hz, rfl⟩ := some_int hx
        have ln : (cs.take i).length ≤ 63 := by rw [List.length_take]; omega
        have fin : ∀ u : Int, u = left z → ∃ acc, H2 D = some (.lst acc) ∧ acc.length < sizeLine ∧ (Same (upd H1 p (.dK [])) (upd H2 D (.lst (acc ++ [V.int u]))) ∧ upd H2 D (.lst (acc ++ [V.int u])) D = some (.lst ((cs.take (i + 1)).map (fun z => V.int (left z))))) := by
          rintro u rfl
          refine ⟨_, hD2, by rw [List.length_map]; exact small1000 (by omega), fun b o e => ?_, ?_⟩
          · have : b ≠ D := ne_of_none e hD
            exact (upd_ne this).trans (s2 b o e)
          · rw [upd_same, take_one hz, List.map_append]
            rfl
        refine ⟨rfl, ?_⟩
        refine iteT (B := Same (upd H1 p (.dK [])) H2 ∧ H2 D = some (.lst ((cs.take (i + 1)).map (fun z => V.int (left z))))) ?_
        refine ⟨_, rfl, _, _, rfl, rfl, ⟨by decide, by decide, by decide⟩, _, _, rfl, rfl, _, rfl, ?_⟩
        refine ite2 (fun q => ⟨_, rfl, ?_⟩) (fun q => ?_)
        · have q' : z ≥ 10 ^ 18 := of_decide_eq_true q
          exact fin z (show z = left z from (if_pos q').symm)
        · have q' : ¬ z ≥ 10 ^ 18 := fun w => q (decide_eq_true w)
          exact fin 0 (show 0 = left z from (if_neg q').symm)
      · rintro H2 ⟨s2, hD2⟩
        have hpD : p ≠ D := by
          intro z
          rw [← z, upd_same] at hD
          cases hD
        rw [List.length_map, List.take_length] at hD2
        refine ⟨s2 _ _ upd_same, dS c D 0, rfl, (by show 4 ≤ 15; decide), ?_⟩
        have hDn : H1 D = none := by
          rw [upd_ne hpD.symm] at hD
          exact hD
        refine k _ p c D cs.length ?_ ?_ ?_ ⟨upd_same, ⟨cs, ?_, rfl⟩, ⟨cs.map left, ?_, by rw [List.length_map], ?_⟩, ne_of_none hc hDn, l1, l2, Int.le_refl _⟩
        · intro b o e
          have nb : b ≠ p := ne_of_none (s1 b o e) np
          rw [upd_ne nb]
          exact s2 b o (sp b o (s1 b o e))
        · exact s1.free np
        · exact s1.free hDn
        · rw [upd_ne hpc]
          exact s2 _ _ (sp _ _ hc)
        · rw [upd_ne hpD.symm, hD2, List.map_map]
          rfl
        · intro z hz
          obtain ⟨y, _, rfl⟩ := List.mem_map.mp hz
          exact left_nonneg y
end
end Rs


set_option Elab.async false
set_option linter.all false
set_option maxRecDepth 100000
set_option maxHeartbeats 400000
namespace Sh
open PySem
/-- data whose text may be made -/
structure Ok (d : PyData) : Prop where
  s : d.showable = true
  n : d.hasDict = false
  dep : d.depth ≤ 60
  l : d.shown.length ≤ sizeLine
theorem of {d : PyData} (h1 : d.showable = true) (h2 : d.hasDict = false) (h3 : d.depth ≤ 60) (h4 : d.leavesShort 2600 = true) (h5 : d.weight ≤ 6000) : Ok d := by
  refine ⟨h1, h2, h3, ?_⟩
  have := PyData.shown_le 2600 (by decide) d h4
  have e : sizeLine = 16777216 := sizeLine_eq
  have : (2600 + 2) * d.weight ≤ 2602 * 6000 := Nat.mul_le_mul (Nat.le_refl _) h5
  omega
theorem int_short {i : Int} (h : i.natAbs < 2 ^ 2500) : (PyData.shown (.int i)).length ≤ 2600 := by
  have l : i.natAbs.log2 < 2500 := PySem.Flt.log2_lt_of (by decide) h
  have := int_text_length_le (a := i) (k := 2500) (by decide) l
  have e : (PyData.shown (.int i)).length = (toString i).length := by
    show (Str.ofString (toString i)).length = _
    exact ofString_length _
  omega
end Sh


set_option Elab.async false
set_option linter.all false
set_option maxRecDepth 100000
set_option maxHeartbeats 1000000
/-! for i, x in enumerate(a tuple) -/
namespace EnT
open PySem PySem.Spec PyProof.Rows L2
theorem meets_new {v : Value} {o : Obj} {H : Heap → Prop} (B : Begins v o H) :
    Meets (Builtin.«enumerate.__new__» ⟨[.type "enumerate", v], []⟩) (fun _ R s => H s.heap ∧
      R (.ok (.ret (.ref (s.heap.push o).objs.size))) { s with heap := (s.heap.push o).push { cls := .type "enumerate", data := .fields #[.none, .bool false, .ref s.heap.objs.size, rawInt 0, .none, .none] } }) :=
  .of_wp fun prog w A R s h => by
    obtain ⟨hp, g, d, tk, os⟩ := s; obtain ⟨h1, h⟩ := h
    have hsub := sub_enumerate
    have q1 : ∀ {A' : Around} {E : Value → Shared → Prop} {Q : Value → Shared → Prop}, Q (.ref hp.objs.size) ⟨hp.push o, g, d, tk, os⟩ → wpAny (model prog w) A' (pyIter v) Q E ⟨hp, g, d, tk, os⟩ :=
      fun q => B.iter prog w _ _ ⟨hp, g, d, tk, os⟩ _ h1 q
    wp_walk using q1
    refine wpAny_stack_any fun st => wpAny_pure ?_
    split
    · rename_i c _ _ _ _ _
      cases (c == Value.type "enumerate")
      · wp_walk using q1
        exact ⟨_, rfl, h⟩
      · wp_walk using q1
        exact ⟨_, rfl, h⟩
    · wp_walk using q1
      exact ⟨_, rfl, h⟩
theorem call_enum {prog : Program} {w : World} {A : Around} {E : Value → Shared → Prop} {s : Shared} {v : Value} {o : Obj} {H : Heap → Prop} {Q : Value → Shared → Prop} (B : Begins v o H) (h1 : H s.heap)
    (h : ∀ h', IsEnum h' (s.heap.objs.size + 1) s.heap.objs.size 0 .none → h'.get? s.heap.objs.size = some o → h'.objs.size = s.heap.objs.size + 2 →
      (∀ b o, s.heap.get? b = some o → h'.get? b = some o) → Q (.ref (s.heap.objs.size + 1)) { s with heap := h' }) :
    wpAny (model prog w) A (call (.type "enumerate") [v]) Q E s := by
  refine callType_new F.called_enumerate (by decide) (F.typeCall_enumerate_1 _) (F.newCall_enumerate_1 _) (fun obj => F.args_object_init_2 obj _) F.entry_enumerate_new
    (meets_new B) ⟨h1, ?_⟩
  have hz : (s.heap.push o).objs.size = s.heap.objs.size + 1 := Heap.size_push ..
  show _ ∧ _
  rw [hz]
  have he : IsEnum ((s.heap.push o).push { cls := .type "enumerate", data := .fields #[.none, .bool false, .ref s.heap.objs.size, rawInt 0, .none, .none] }) (s.heap.objs.size + 1) s.heap.objs.size 0 .none := by
    have := Heap.get?_push_size (s.heap.push o) (o := { cls := .type "enumerate", data := .fields #[.none, .bool false, .ref s.heap.objs.size, rawInt 0, .none, .none] }) rfl
    rw [hz] at this; exact this
  refine ⟨⟨_, he, rfl⟩, h _ he (Heap.get?_push_of_some _ (Heap.get?_push_size _ B.free)) (by rw [Heap.size_push, hz]) fun b o x => Heap.get?_push_of_some _ (Heap.get?_push_of_some _ x)⟩
/-- the turns -/
def IteT (K : PySem.W.Frag) (a : Addr) : It :=
  ⟨fun i H => ∃ (xs : List V) (x : V), SqT K H a xs ∧ xs[i]? = some x, fun i H v H' => ∃ T x, v = .ref T ∧ H T = none ∧ H' = upd H T (.tup [.int (i : Nat), x]) ∧ ∀ xs, SqT K H a xs → xs[i]? = some x, fun i H => ∃ xs : List V, SqT K H a xs ∧ xs.length ≤ i⟩
theorem turn_enumT {P : Program} {w : World} {K : PySem.W.Frag} {elts : List Expr} {kk : Nat} {tpos : Pos} (a e it : Addr) (n : Nat) :
    Turn P w K (.Tuple elts kk tpos) (IteT K a) [e, it] e (fun i h => (∃ old, IsEnum h e it ((i : Nat) : Int) old) ∧ h.IsTupleIter it a i ∧ e ≠ it ∧ a ≠ it ∧ a ≠ e) where
  mem := by simp
  obj := fun i h st b hb => by
    obtain ⟨⟨old, he⟩, ⟨o, ho, hc, hd⟩, _⟩ := st
    have e' : b = e ∨ b = it := by simpa using hb
    rcases e' with z | z
    · rw [z]; exact ⟨_, he, fun v q => nomatch q⟩
    · rw [z]; exact ⟨o, ho, fun v q => by rw [hd] at q; cases q⟩
  keep := fun i h h' st k => let ⟨⟨old, he⟩, hi, hne⟩ := st; ⟨⟨old, k e (by simp) _ he⟩, hi.at fun o q => k it (by simp) o q, hne⟩
  item := by
    intro X hP hw hK hc i pins s σ H E I hf st hg
    subst hP hw hK
    obtain ⟨⟨old, he⟩, hit, hne, hai, hae⟩ := st
    obtain ⟨xs, x, hq, hx⟩ := hg
    obtain ⟨its, rv, p, hz⟩ := I.tuple hq
    obtain ⟨u, hu, ru⟩ := rv.get hx
    have hel : e < s.heap.objs.size := Heap.lt_size he
    have hil : it < s.heap.objs.size := by obtain ⟨_, q, _⟩ := hit; exact Heap.lt_size q
    have hlt : i < its.toArray.size := by
      obtain ⟨hlt, _⟩ := List.getElem?_eq_some_iff.mp hu
      simpa using hlt
    have p' : s.heap.IsTuple a its.toArray := p
    refine wpAny_pyNext_enum_itemD (Draws.tuple (A := X.A.in1) (I.ok.hd hc) it a hai its.toArray) he ⟨hit, p'⟩ hlt hne (by simp [hne, Ne.symm hae]) fun x' h' tk hP ho hit' hT hsz hk => ?_
    have ex : x' = u := by
      have : its[i]? = some x' := by simpa using hP
      rw [hu] at this
      exact (Option.some.inj this).symm
    subst ex
    refine ⟨_, rfl, wpAny_letOwnedTupleGo_enum (s := { s with heap := h', toks := tk + 1 }) ho fun h'' he' sb => ?_⟩
    have hT2 : h''.get? s.heap.objs.size = some { cls := .type "tuple", data := .seq #[.int i tk, x'] } := (sb.2 _ (Nat.ne_of_gt hel)).trans hT
    have new : ObjOk X.prog X.w (upd H s.heap.objs.size (.tup [.int (i : Nat), x])) h'' s.heap.objs.size (.tup [.int (i : Nat), x]) :=
      ⟨by show 2 ≤ sizeLine; decide, [.int i tk, x'], .cons ⟨_, rfl⟩ (.cons ru .nil), ⟨_, hT2, rfl, _, rfl⟩⟩
    have I1 : Inv X pins σ (upd H s.heap.objs.size (.tup [.int (i : Nat), x])) { s with heap := h'', toks := tk + 1 } :=
      I.turnedNew (ch := [e, it]) (fun b ob hb q => (sb.2 b (fun z => hb (by simp [z]))).trans (hk b ob (fun z => hb (by simp [z])) (fun z => hb (by simp [z])) q)) hf (Nat.le_refl _) new
    refine ⟨.ref s.heap.objs.size, _, I1, rfl, ⟨_, x, rfl, I.hok.fresh (Nat.le_refl _), rfl, fun ys hy => by rw [I.tuple_inj hy hq]; exact hx⟩, ⟨⟨x', ?_⟩, hit'.1.at fun o q => (sb.2 it (Ne.symm hne)).trans q, hne, hai, hae⟩, fun b hb => ?_⟩
    · have e1 : ((i + 1 : Nat) : Int) = (i : Int) + 1 := by omega
      rw [e1]; exact he'
    · have hb' : b < s.heap.objs.size := by
        have e' : b = e ∨ b = it := by simpa using hb
        rcases e' with z | z
        · rw [z]; exact hel
        · rw [z]; exact hil
      rw [upd_ne (Nat.ne_of_lt hb')]
      exact (hf b hb).1
  done := by
    intro X hP hw hK hc i pins s σ H E I hf st hg
    subst hP hw hK
    obtain ⟨⟨old, he⟩, hit, hne, hai, hae⟩ := st
    obtain ⟨xs, hq, hx⟩ := hg
    obtain ⟨its, rv, p, hz⟩ := I.tuple hq
    obtain ⟨f0, f1, f2, f3, f4, f5⟩ := hf it (by simp)
    have hl := rv.length
    have hT : s.TypeIs (.ref e) "enumerate" := ⟨_, he, rfl⟩
    unfold pyNext
    refine wpAny_bind (wpAny_attempt (wpAny_callSpecial?_slot (name := Str.ofString "__next__") hT F.slot_enumerate_next
      (wpAny_call_entry F.slot_enumerate_next hT F.entry_enumerate_next ?_ (F.args_enumerate_next_1 _))))
    show wpAny _ _ (field (.ref e) 2 >>= _) _ _ _
    refine wpAny_bind (wpAny_field he rfl (x := .ref it) rfl ?_)
    refine wpAny_bind (wpAny_nextOf_tuple_end (A := X.A.in1) (I.ok.hd hc) hit (show s.heap.IsTuple a its.toArray from p) (by simp; omega) fun h' e' eb hx' => ?_)
    obtain ⟨o, ho, hcl⟩ := hx'
    refine wpAny_bind (wpAny_isInstance (T := "StopIteration") (b := true) ⟨o, ho, hcl⟩ isSubtype_stop ?_)
    exact wpAny_pure ⟨rfl, I.turned (t' := s.toks) (fun b o hb q => eb b o hb q) f0 f1 f3 f4 f5⟩
  self := fun A i s Q E st h => let ⟨⟨_, he⟩, _⟩ := st; wpAny_pyIter_enum he h
def iEnumT (K : PySem.W.Frag) (ta : TA) : TI := fun σ H R => ta σ H fun vs H1 => ∃ a xs, vs = [.ref a] ∧ SqT K H1 a xs ∧ R (IteT K a) H1
theorem pi_enumT {X : Cx} {e : Expr} {ta : TA} {p pos tpos : Pos} {elts : List Expr} {kk : Nat} (hg : Gl X "enumerate") (hm : X.mg "enumerate" = none) (ha : PA X [e] ta) (hs : starEach [e] X.env = [(false, eval e X.env)] := by rfl) :
    PI X (.Tuple elts kk tpos) (.Call (.Name "enumerate" p) [e] [] pos) (iEnumT X.K ta) := by
  refine ⟨fun pins s σ H R I h => ?_⟩
  refine Call_ (ld_blt I hg hm boot_enumerate (PyProof.Rows.callWith_type1 (thn (ha.run pos pins s σ H _ I h) fun us s1 ⟨vs, H1, I1, r1, q1⟩ => ?_) hs rfl))
  obtain ⟨a, xs, ex, hq, q⟩ := q1
  subst ex
  cases r1 with
  | cons r rr =>
    cases rr
    cases r
    obtain ⟨its, rv, p', hz⟩ := I1.tuple hq
    have pt : s1.heap.IsTuple a its.toArray := p'
    have hal : a < s1.heap.objs.size := by
      obtain ⟨o, z, _⟩ := id pt
      exact Heap.lt_size z
    refine call_enum (begins_tuple a its.toArray) pt fun h' he hit hsz hk => wpAny_pyIter_enum he ?_
    have I2 : Inv X pins σ H1 { s1 with heap := h' } := I1.kept (t' := s1.toks) hk
    refine ⟨s1.heap.objs.size + 1, [s1.heap.objs.size + 1, s1.heap.objs.size], _, _, H1, rfl, I2, turn_enumT a (s1.heap.objs.size + 1) s1.heap.objs.size 0, ⟨⟨.none, he⟩, ⟨_, hit, rfl, rfl⟩, Nat.succ_ne_self _, Nat.ne_of_lt hal, Nat.ne_of_lt (Nat.lt_succ_of_lt hal)⟩, fun b hb => ?_, q⟩
    have e' : b = s1.heap.objs.size + 1 ∨ b = s1.heap.objs.size := by simpa using hb
    have hle : s1.heap.objs.size ≤ b := by
      rcases e' with z | z
      · rw [z]; exact Nat.le_add_right _ _
      · rw [z]; exact Nat.le_refl _
    exact I1.fpOk hle (I1.hok.fresh hle)
end EnT


set_option Elab.async false
set_option linter.all false
set_option maxRecDepth 100000
set_option maxHeartbeats 1000000
/-! zip of a list and a tuple -/
namespace MxZ
open PySem PySem.Spec PyProof.Rows L2
/-- each turn: the next of the list at a, the next of the tuple at b, in a new pair -/
def ItzM (K : PySem.W.Frag) (a b : Addr) : It :=
  ⟨fun i H => ∃ (l t : List V) (x y : V), SqL K H a l ∧ SqT K H b t ∧ l[i]? = some x ∧ t[i]? = some y,
    fun i H v H' => ∃ T x y, v = .ref T ∧ H T = none ∧ H' = upd H T (.tup [x, y]) ∧ (∀ l, SqL K H a l → l[i]? = some x) ∧ ∀ t, SqT K H b t → t[i]? = some y,
    fun i H => ∃ l t : List V, SqL K H a l ∧ SqT K H b t ∧ i ≤ l.length ∧ i ≤ t.length ∧ (i = l.length ∨ i = t.length)⟩
theorem five {z TI TO j k c : Addr} (h : c ∈ [z, TI, TO, j, k]) : c = z ∨ c = TI ∨ c = TO ∨ c = j ∨ c = k := by simpa using h
theorem turn_mix {P : Program} {w : World} {K : PySem.W.Frag} {elts : List Expr} {kk : Nat} {tpos : Pos} {a b z TI TO j k : Addr} (S : ZipSep2 z TI TO j k [j, a] [k, b]) (na : a ≠ j) (nb : b ≠ k) :
    Turn P w K (.Tuple elts kk tpos) (ItzM K a b) [z, TI, TO, j, k] z (fun i h => IsZip h z TI TO .none ∧ IsTupOf2 h TI (.ref j) (.ref k) ∧ (∃ x y, IsTupOf2 h TO x y) ∧ h.IsListIter j a i ∧ h.IsTupleIter k b i) where
  mem := List.mem_cons_self
  obj := fun i h st c hc => by
    obtain ⟨hz, hI, ⟨x, y, hO⟩, ⟨oj, ej, _, dj⟩, ⟨ok, ek, _, dk⟩⟩ := st
    rcases five hc with rfl | rfl | rfl | rfl | rfl
    · exact ⟨_, hz, fun v n => nomatch n⟩
    · exact ⟨_, hI, fun v n => nomatch n⟩
    · exact ⟨_, hO, fun v n => nomatch n⟩
    · exact ⟨oj, ej, fun v n => by rw [dj] at n; cases n⟩
    · exact ⟨ok, ek, fun v n => by rw [dk] at n; cases n⟩
  keep := fun i h h' st g => by
    obtain ⟨hz, hI, ⟨x, y, hO⟩, hj, hk⟩ := st
    exact ⟨g z (by simp) _ hz, g TI (by simp) _ hI, ⟨x, y, g TO (by simp) _ hO⟩, hj.at fun o n => g j (by simp) o n, hk.at fun o n => g k (by simp) o n⟩
  item := by
    intro X hP hw hK hc i pins s σ H E I hf st hg
    subst hP hw hK
    obtain ⟨hz, hI, ⟨x0, y0, hO⟩, hj, hk⟩ := st
    obtain ⟨l, t, x, y, ql, qt, gx, gy⟩ := hg
    obtain ⟨il, rl, pl, _⟩ := I.list ql
    obtain ⟨it, rt, pt, _⟩ := I.tuple qt
    obtain ⟨u, hu, ru⟩ := rl.get gx
    obtain ⟨v, hv, rv⟩ := rt.get gy
    have zl : z < s.heap.objs.size := Heap.lt_size hz
    have lt1 : i < il.toArray.size := by
      obtain ⟨q, _⟩ := List.getElem?_eq_some_iff.mp hu
      simpa using q
    have lt2 : i < it.toArray.size := by
      obtain ⟨q, _⟩ := List.getElem?_eq_some_iff.mp hv
      simpa using q
    refine wpAny_pyNext_zipD2_item S (Draws.list (A := X.A.in1) (I.ok.hd hc) j a na il.toArray) (Draws.tuple (A := X.A.in1) (I.ok.hd hc) k b nb it.toArray) hz hI hO ⟨hj, pl.isList⟩ ⟨hk, pt⟩ lt1 lt2 fun u' v' h' tk eu ev z' O' sj sk hT hs keep => ?_
    have eu' : u' = u := by
      have : il[i]? = some u' := by simpa using eu
      rw [hu] at this
      exact (Option.some.inj this).symm
    have ev' : v' = v := by
      have : it[i]? = some v' := by simpa using ev
      rw [hv] at this
      exact (Option.some.inj this).symm
    subst eu' ev'
    refine ⟨_, rfl, wpAny_letOwnedTupleGo_zip (s := { s with heap := h', toks := tk }) z' fun h2 z2 sb => ?_⟩
    have hT2 : IsTupOf2 h2 s.heap.objs.size u' v' := (sb.2 _ (Nat.ne_of_gt zl)).trans hT
    have fresh : ObjOk X.prog X.w (upd H s.heap.objs.size (.tup [x, y])) h2 s.heap.objs.size (.tup [x, y]) :=
      ⟨by show 2 ≤ sizeLine; decide, [u', v'], .cons ru (.cons rv .nil), ⟨_, hT2, rfl, _, rfl⟩⟩
    have J : Inv X pins σ (upd H s.heap.objs.size (.tup [x, y])) { s with heap := h2, toks := tk } := by
      refine I.turnedNew (ch := [z, TI, TO, j, k]) (fun c o out e => ?_) hf (Nat.le_refl _) fresh
      have n : c ≠ z ∧ c ≠ TO ∧ c ≠ j ∧ c ≠ k := ⟨fun q => out (by simp [q]), fun q => out (by simp [q]), fun q => out (by simp [q]), fun q => out (by simp [q])⟩
      exact (sb.2 c n.1).trans (keep c o n.1 n.2.1 n.2.2.1 n.2.2.2 e)
    refine ⟨.ref s.heap.objs.size, _, J, rfl, ⟨_, x, y, rfl, I.hok.fresh (Nat.le_refl _), rfl, fun m hm => by rw [I.list_inj hm ql]; exact gx, fun m hm => by rw [I.tuple_inj hm qt]; exact gy⟩, ⟨z2, ?_, ⟨u', v', ?_⟩, ?_, ?_⟩, fun c hcm => ?_⟩
    · refine (sb.2 _ S.TIz).trans (keep _ _ S.TIz S.TITO S.TIi1 S.TIi2 hI)
    · exact (sb.2 _ S.TOz).trans O'
    · exact sj.1.at fun o q => (sb.2 _ (Ne.symm S.zi1)).trans q
    · exact sk.1.at fun o q => (sb.2 _ (Ne.symm S.zi2)).trans q
    · have lt : c < s.heap.objs.size := by
        rcases five hcm with rfl | rfl | rfl | rfl | rfl
        · exact zl
        · exact Heap.lt_size hI
        · exact Heap.lt_size hO
        · exact hj.elim fun _ q => Heap.lt_size q.1
        · exact hk.elim fun _ q => Heap.lt_size q.1
      rw [upd_ne (Nat.ne_of_lt lt)]
      exact (hf c hcm).1
  done := by
    intro X hP hw hK hc i pins s σ H E I hf st hg
    subst hP hw hK
    obtain ⟨hz, hI, ⟨x0, y0, hO⟩, hj, hk⟩ := st
    obtain ⟨l, t, ql, qt, b1, b2, fin⟩ := hg
    obtain ⟨il, rl, pl, _⟩ := I.list ql
    obtain ⟨it, rt, pt, _⟩ := I.tuple qt
    have n1 : il.toArray.size = l.length := by rw [List.size_toArray, rl.length]
    have n2 : it.toArray.size = t.length := by rw [List.size_toArray, rt.length]
    refine wpAny_pyNext_zipD2_end (i := i) S (Draws.list (A := X.A.in1) (I.ok.hd hc) j a na il.toArray) (Draws.tuple (A := X.A.in1) (I.ok.hd hc) k b nb it.toArray) hz hI hO ⟨hj, pl.isList⟩ ⟨hk, pt⟩ (by omega) (by omega) (by omega) fun h' tk keep => ⟨rfl, ?_⟩
    refine I.turnedL (ch := [z, TI, TO, j, k]) (fun c o out e => ?_) hf
    exact keep c o (fun q => out (by simp [q])) (fun q => out (by simp [q])) (fun q => out (by simp [q])) (fun q => out (by simp [q])) e
  self := fun A i s Q E st h => wpAny_pyIter_zip st.1 h
theorem out2 {x u v : Nat} (h1 : x ≠ u) (h2 : x ≠ v) : ¬ ((x : Addr) ∈ ([u, v] : List Addr)) := fun h => by
  rcases List.mem_cons.mp h with q | q
  · exact h1 q
  · exact h2 (List.mem_singleton.mp q)
theorem apart (n a b : Nat) (la : a < n) (lb : b < n) : ZipSep2 (n + 4 : Nat) (n + 2 : Nat) (n + 3 : Nat) n (n + 1 : Nat) [n, a] [(n + 1 : Nat), b] where
  TIz := by show (n + 2 : Nat) ≠ n + 4; omega
  TOz := by show (n + 3 : Nat) ≠ n + 4; omega
  TITO := by show (n + 2 : Nat) ≠ n + 3; omega
  TIi1 := by show (n + 2 : Nat) ≠ n; omega
  mem1 := List.mem_cons_self
  zf1 := out2 (by omega) (by omega)
  Tf1 := out2 (by omega) (by omega)
  TIi2 := by show (n + 2 : Nat) ≠ n + 1; omega
  mem2 := List.mem_cons_self
  zf2 := out2 (by omega) (by omega)
  Tf2 := out2 (by omega) (by omega)
  sep1_2 := out2 (by omega) (by omega)
  sep2_1 := out2 (by omega) (by omega)
def iMix (K : PySem.W.Frag) (ta : TA) : TI := fun σ H R => ta σ H fun vs H1 => ∃ a b l t, vs = [.ref a, .ref b] ∧ SqL K H1 a l ∧ SqT K H1 b t ∧ R (ItzM K a b) H1
theorem pi_mix {X : Cx} {e e2 : Expr} {ta : TA} {p pos tpos : Pos} {elts : List Expr} {kk : Nat} (hg : Gl X "zip") (hm : X.mg "zip" = none) (ha : PA X [e, e2] ta)
    (st : starEach [e, e2] X.env = (false, eval e X.env) :: starEach [e2] X.env := by rfl) (pl : (backTo pos (starEach [e2] X.env)).any (·.1) = false := by rfl) :
    PI X (.Tuple elts kk tpos) (.Call (.Name "zip" p) [e, e2] [] pos) (iMix X.K ta) := by
  constructor
  intro pins s σ H R I h
  refine Call_ (ld_blt I hg hm PyProof.Rows.boot_zip (PyProof.Rows.callWith_type1 (thn (ha.run pos pins s σ H _ I h) ?_) st pl))
  rintro us s1 ⟨vs, H1, I1, r1, a, b, l, t, rfl, ql, qt, q⟩
  cases r1 with
  | cons ra rr =>
    cases rr with
    | cons rb rr =>
      cases rr
      cases ra
      cases rb
      obtain ⟨il, rl, pl', _⟩ := I1.list ql
      obtain ⟨it, rt, pt, _⟩ := I1.tuple qt
      have la : a < s1.heap.objs.size := pl'.lt
      have lb : b < s1.heap.objs.size := by
        obtain ⟨o, z, _⟩ := id pt
        exact Heap.lt_size z
      refine zip_begins2 (begins_list a il.toArray) (begins_tuple b it.toArray) pl'.isList pt fun h' hz hI hO gj gk hs keep => wpAny_pyIter_zip hz ?_
      have J : Inv X pins σ H1 { s1 with heap := h' } := I1.kept (t' := s1.toks) keep
      refine ⟨s1.heap.objs.size + 4, [s1.heap.objs.size + 4, s1.heap.objs.size + 2, s1.heap.objs.size + 3, s1.heap.objs.size, s1.heap.objs.size + 1], _, _, H1, rfl, J, turn_mix (apart s1.heap.objs.size a b la lb) (Nat.ne_of_lt la) (Nat.ne_of_lt (Nat.lt_succ_of_lt lb)), ⟨hz, hI, ⟨_, _, hO⟩, ⟨_, gj, rfl, rfl⟩, ⟨_, gk, rfl, rfl⟩⟩, fun c hcm => ?_, q⟩
      have up : s1.heap.objs.size ≤ c := by
        rcases five hcm with rfl | rfl | rfl | rfl | rfl
        · exact Nat.le_add_right _ 4
        · exact Nat.le_add_right _ 2
        · exact Nat.le_add_right _ 3
        · exact Nat.le_refl _
        · exact Nat.le_add_right _ 1
      exact I1.fpOk up (I1.hok.fresh up)
end MxZ


set_option Elab.async false
set_option linter.all false
set_option maxRecDepth 100000
set_option maxHeartbeats 1000000
namespace Rs
open PySem L2 Bs LamX Pg RZ
/-! ### partings in memory -/
inductive Al {α : Type} (R : V → α → Prop) : List V → List α → Prop
  | nil : Al R [] []
  | cons {v : V} {vs : List V} {q : α} {qs : List α} : R v q → Al R vs qs → Al R (v :: vs) (q :: qs)
section
variable {α β : Type} {R S : V → α → Prop} {vs us : List V} {qs rs : List α}
theorem Al.imp (h : ∀ v q, R v q → S v q) : ∀ {vs : List V} {qs : List α}, Al R vs qs → Al S vs qs
  | _, _, .nil => .nil
  | _, _, .cons a b => .cons (h _ _ a) (Al.imp h b)
theorem Al.len : ∀ {vs : List V} {qs : List α}, Al R vs qs → vs.length = qs.length
  | _, _, .nil => rfl
  | _, _, .cons _ b => congrArg (· + 1) (Al.len b)
theorem Al.get : ∀ {vs : List V} {qs : List α} {i : Nat} {v : V}, Al R vs qs → vs[i]? = some v → ∃ q, qs[i]? = some q ∧ R v q
  | _, _, 0, _, .cons a _, h => by
    cases h
    exact ⟨_, rfl, a⟩
  | _, _, i + 1, _, .cons _ b, h => Al.get (i := i) b h
  | _, _, _, _, .nil, h => by simp at h
theorem Al.at : ∀ {vs : List V} {qs : List α} {i : Nat} {q : α}, Al R vs qs → qs[i]? = some q → ∃ v, vs[i]? = some v ∧ R v q
  | _, _, 0, _, .cons a _, h => by
    cases h
    exact ⟨_, rfl, a⟩
  | _, _, i + 1, _, .cons _ b, h => Al.at (i := i) b h
  | _, _, _, _, .nil, h => by simp at h
theorem Al.app : ∀ {vs us : List V} {qs rs : List α}, Al R vs qs → Al R us rs → Al R (vs ++ us) (qs ++ rs)
  | _, _, _, _, .nil, h => h
  | _, _, _, _, .cons a b, h => .cons a (Al.app b h)
theorem Al.snoc {v : V} {q : α} (h : Al R vs qs) (g : R v q) : Al R (vs ++ [v]) (qs ++ [q]) := h.app (.cons g .nil)
theorem Al.take : ∀ {vs : List V} {qs : List α} (n : Nat), Al R vs qs → Al R (vs.take n) (qs.take n)
  | _, _, 0, _ => .nil
  | _, _, n + 1, .nil => .nil
  | _, _, n + 1, .cons a b => .cons a (Al.take n b)
theorem Al.drop : ∀ {vs : List V} {qs : List α} (n : Nat), Al R vs qs → Al R (vs.drop n) (qs.drop n)
  | _, _, 0, h => h
  | _, _, n + 1, .nil => .nil
  | _, _, n + 1, .cons a b => Al.drop n b
theorem Al.set : ∀ {vs : List V} {qs : List α} (n : Nat) {v : V} {q : α}, Al R vs qs → R v q → Al R (vs.set n v) (qs.set n q)
  | _, _, _, _, _, .nil, _ => .nil
  | _, _, 0, _, _, .cons _ b, h => .cons h b
  | _, _, n + 1, _, _, .cons a b, h => .cons a (Al.set n b h)
end
theorem sqT_off {K : PySem.W.Frag} {H : Hp} {a D : Addr} {xs acc : List V} {o : HO} (hD : H D = some (.lst acc)) (s : SqT K H a xs) : SqT K (upd H D o) a xs := by
  rcases s with (s | ⟨o', s⟩) | s
  · exact .inl (.inl ((upd_ne (ne_of s hD (by intro z; cases z))).trans s))
  · exact .inl (.inr ⟨o', (upd_ne (ne_of s hD (by intro z; cases z))).trans s⟩)
  · exact .inr s
/-- a tuple of whole numbers -/
def It (K : PySem.W.Frag) (H : Hp) (v : V) (w : List Int) : Prop := ∃ a, v = .ref a ∧ SqT K H a (w.map V.int)
def dI (w : List Int) : PyData := .tuple (w.map PyData.int)
/-- a tuple of them -/
def Pt (K : PySem.W.Frag) (H : Hp) (v : V) (ws : Prt) : Prop := ∃ a vs, v = .ref a ∧ SqT K H a vs ∧ Al (It K H) vs ws
def dW (ws : Prt) : PyData := .tuple (ws.map dI)
section
variable {K : PySem.W.Frag} {H H' : Hp} {v : V} {w : List Int} {ws : Prt} {D : Addr} {acc : List V} {o : HO}
theorem It.mono (h : It K H v w) (e : Same H H') : It K H' v w := by
  obtain ⟨a, rfl, s⟩ := h
  exact ⟨a, rfl, Bs.Same.t e s⟩
theorem It.off (h : It K H v w) (hD : H D = some (.lst acc)) : It K (upd H D o) v w := by
  obtain ⟨a, rfl, s⟩ := h
  exact ⟨a, rfl, sqT_off hD s⟩
theorem dpInts : ∀ w : List Int, DpAll K H (w.map V.int) (w.map PyData.int)
  | [] => .nil
  | i :: w => .cons (.int i) (dpInts w)
theorem It.dp (h : It K H v w) : Dp K H v (dI w) := by
  obtain ⟨a, rfl, s⟩ := h
  exact .tup s (dpInts w)
theorem Al.dpI : ∀ {vs : List V} {ws : Prt}, Al (It K H) vs ws → DpAll K H vs (ws.map dI)
  | _, _, .nil => .nil
  | _, _, .cons a b => .cons a.dp (Al.dpI b)
theorem alI_mono {vs : List V} (h : Al (It K H) vs ws) (e : Same H H') : Al (It K H') vs ws := h.imp fun _ _ z => z.mono e
theorem alI_off {vs : List V} (h : Al (It K H) vs ws) (hD : H D = some (.lst acc)) : Al (It K (upd H D o)) vs ws := h.imp fun _ _ z => z.off hD
theorem Pt.mono (h : Pt K H v ws) (e : Same H H') : Pt K H' v ws := by
  obtain ⟨a, vs, rfl, s, i⟩ := h
  exact ⟨a, vs, rfl, Bs.Same.t e s, alI_mono i e⟩
theorem Pt.off (h : Pt K H v ws) (hD : H D = some (.lst acc)) : Pt K (upd H D o) v ws := by
  obtain ⟨a, vs, rfl, s, i⟩ := h
  exact ⟨a, vs, rfl, sqT_off hD s, alI_off i hD⟩
theorem Pt.dp (h : Pt K H v ws) : Dp K H v (dW ws) := by
  obtain ⟨a, vs, rfl, s, i⟩ := h
  exact .tup s i.dpI
theorem Al.dpW : ∀ {vs : List V} {ps : List Prt}, Al (Pt K H) vs ps → DpAll K H vs (ps.map dW)
  | _, _, .nil => .nil
  | _, _, .cons a b => .cons a.dp (Al.dpW b)
theorem alP_mono {vs : List V} {ps : List Prt} (h : Al (Pt K H) vs ps) (e : Same H H') : Al (Pt K H') vs ps := h.imp fun _ _ z => z.mono e
theorem alP_off {vs : List V} {ps : List Prt} (h : Al (Pt K H) vs ps) (hD : H D = some (.lst acc)) : Al (Pt K (upd H D o)) vs ps := h.imp fun _ _ z => z.off hD
end
theorem cat_any {K : PySem.W.Frag} {H : Hp} {Q : VK} {a b : Addr} {xs ys : List V} (ha : SqT K H a xs) (hb : SqT K H b ys) (sz : xs.length + ys.length ≤ sizeLine) (k : ∀ c H', Same H H' → SqT K H' c (xs ++ ys) → Q (.ref c) H') : rCatA K (.ref a) (.ref b) H Q := by
  refine ⟨a, b, xs, ys, rfl, rfl, ha, hb, sz, fun e => ?_, fun _ e => ?_, fun _ _ p hp => k p _ (same_new hp) (SqT.of upd_same)⟩
  · subst e
    exact k b H (fun _ _ z => z) hb
  · subst e
    rw [List.append_nil] at k
    exact k a H (fun _ _ z => z) ha
/-- a slice of a tuple, whichever -/
theorem sl_cut {K : PySem.W.Frag} {H : Hp} {Q : VK} {a : Addr} {xs ys : List V} {lo hi : Option Int} (ha : SqT K H a xs) (e : cutV xs lo hi = ys) (k : ∀ c H', Same H H' → SqT K H' c ys → Q (.ref c) H') : rSlA K (.ref a) lo hi H Q := by
  refine ⟨a, xs, rfl, ha, fun w => ?_, fun _ p hp => k p _ (same_new hp) (by rw [← e]; exact SqT.of upd_same)⟩
  have : cutV xs lo hi = xs := by
    unfold cutV
    rw [w.1, w.2, List.drop_zero, Nat.sub_zero, List.take_length]
  rw [this] at e
  subst e
  exact k a H (fun _ _ z => z) ha
theorem cut_to {xs : List V} {k : Nat} (h : k ≤ xs.length) : cutV xs none (some (k : Int)) = xs.take k := by
  unfold cutV
  have e : HT.sIx xs.length xs.length (some (k : Int)) = k := by
    rw [HT.sIx_nat]
    omega
  rw [e]
  show (xs.drop 0).take (k - 0) = _
  rw [List.drop_zero, Nat.sub_zero]
theorem cut_from {xs : List V} {k : Nat} (h : k ≤ xs.length) : cutV xs (some (k : Int)) none = xs.drop k := by
  unfold cutV
  have e : HT.sIx xs.length 0 (some (k : Int)) = k := by
    rw [HT.sIx_nat]
    omega
  rw [e]
  show (xs.drop k).take (xs.length - k) = _
  rw [List.take_of_length_le (by rw [List.length_drop]; exact Nat.le_refl _)]
theorem cut_tail {xs : List V} : cutV xs (some 1) none = xs.drop 1 := by
  by_cases h : 1 ≤ xs.length
  · exact cut_from (k := 1) h
  · have : xs = [] := List.eq_nil_of_length_eq_zero (by omega)
    subst this
    rfl
theorem atI_neg1 {xs : List V} {u : V} (n : xs ≠ []) (h : xs[xs.length - 1]? = some u) : atI xs (-1) = some u := by
  have hl := List.length_pos_iff.mpr n
  have e : ixN xs.length (-1) = some (xs.length - 1) := by
    unfold ixN
    rw [if_neg (by decide), if_pos (by omega)]
    congr 1
    omega
  unfold atI
  rw [e]
  exact h
theorem walk_zipT {K : PySem.W.Frag} {a b : Addr} {xs ys : List V} {n : Nat} (hn : n = min xs.length ys.length) : Walk (ItzT K a b) n (fun H => SqT K H a xs ∧ SqT K H b ys) (YPair (fun i => xs[i]?) (fun i => ys[i]?)) := by
  rw [hn]
  refine ⟨fun i _ hi q => ?_, fun _ q => ⟨xs, ys, q.1, q.2, by omega⟩, fun i H v H' _ q y => ?_⟩
  · have h1 : i < xs.length := by omega
    have h2 : i < ys.length := by omega
    exact ⟨xs, ys, xs[i], ys[i], q.1, q.2, List.getElem?_eq_getElem h1, List.getElem?_eq_getElem h2⟩
  · obtain ⟨T, x, z, e1, e2, e3, e4, e5⟩ := y
    exact ⟨T, x, z, e1, e2, e3, e4 xs q.1, e5 ys q.2⟩
/-! ### comprehensions of two loops -/
section
variable {J J1 : L2.It} {n n1 : Nat} {G G1 : Hp → Prop} {Y Y1 : Nat → Hp → V → Hp → Prop}
theorem lc2_in (w : Walk J1 n1 G1 Y1) {g1 : TG} {tt1 : TT} {te : TE} {vs1 : List Nat} {σ2 : L2.St} {H4 : Hp} {D : Addr} {Nx : Hp → Prop} (Pv : Nat → Hp → Prop) (h0 : Pv 0 H4) (hG : ∀ i H, i ≤ n1 → Pv i H → G1 H)
    (hs : ∀ i x H H', i < n1 → Pv i H → Y1 i H x H' → g1 x (wipe σ2 vs1) H' fun σ3 H5 => wipe σ3 vs1 = wipe σ2 vs1 ∧ tt1 σ3 H5 fun b H6 =>
      if b = true then te σ3 H6 fun y H7 => ∃ acc, H7 D = some (.lst acc) ∧ acc.length < sizeLine ∧ Pv (i + 1) (upd H7 D (.lst (acc ++ [y]))) else Pv (i + 1) H6) (hd : ∀ H, Pv n1 H → Nx H) :
    ∃ W1 : Nat → Nat → Hp → Prop, (∃ m, W1 0 m H4) ∧ ∀ j k H, W1 j k H →
      (J1.stop j H ∧ Nx H) ∨ (J1.go j H ∧ ∃ Nx1 : Hp → Prop, (∀ H', Nx1 H' → ∃ k', k' < k ∧ W1 (j + 1) k' H') ∧ ∀ x H', J1.yld j H x H' → g1 x (wipe σ2 vs1) H' fun σ3 H5 => wipe σ3 vs1 = wipe σ2 vs1 ∧ tt1 σ3 H5 fun b H6 =>
        if b = true then te σ3 H6 fun y H7 => ∃ acc, H7 D = some (.lst acc) ∧ acc.length < sizeLine ∧ Nx1 (upd H7 D (.lst (acc ++ [y]))) else Nx1 H6) := by
  refine ⟨fun i m H => m = n1 - i ∧ i ≤ n1 ∧ Pv i H, ⟨n1, by simp, Nat.zero_le _, h0⟩, ?_⟩
  rintro i m H ⟨rfl, hi, p⟩
  have q := hG i H hi p
  by_cases hlt : i < n1
  · refine .inr ⟨w.goes i H hlt q, Pv (i + 1), fun H' p' => ⟨n1 - (i + 1), by omega, rfl, hlt, p'⟩, fun x H' y => hs i x H H' hlt p (w.yields i H x H' hlt q y)⟩
  · have e : i = n1 := by omega
    subst e
    exact .inl ⟨w.stops H q, hd H p⟩
theorem lc2_out (w : Walk J n G Y) {B : V → Hp → (Hp → Prop) → Prop} {Qd : Hp → Prop} {H1 : Hp} (Pv : Nat → Hp → Prop) (h0 : Pv 0 H1) (hG : ∀ i H, i ≤ n → Pv i H → G H)
    (hs : ∀ i x H H', i < n → Pv i H → Y i H x H' → B x H' (Pv (i + 1))) (hd : ∀ H, Pv n H → Qd H) :
    ∃ W : Nat → Nat → Hp → Prop, (∃ m, W 0 m H1) ∧ ∀ i m H, W i m H →
      (J.stop i H ∧ Qd H) ∨ (J.go i H ∧ ∃ Nx : Hp → Prop, (∀ H', Nx H' → ∃ m', m' < m ∧ W (i + 1) m' H') ∧ ∀ x H', J.yld i H x H' → B x H' Nx) := by
  refine ⟨fun i m H => m = n - i ∧ i ≤ n ∧ Pv i H, ⟨n, by simp, Nat.zero_le _, h0⟩, ?_⟩
  rintro i m H ⟨rfl, hi, p⟩
  have q := hG i H hi p
  by_cases hlt : i < n
  · exact .inr ⟨w.goes i H hlt q, Pv (i + 1), fun H' p' => ⟨n - (i + 1), by omega, rfl, hlt, p'⟩, fun x H' y => hs i x H H' hlt p (w.yields i H x H' hlt q y)⟩
  · have e : i = n := by omega
    subst e
    exact .inl ⟨w.stops H q, hd H p⟩
end
end Rs


set_option Elab.async false
set_option linter.all false
set_option maxRecDepth 100000
set_option maxHeartbeats 1000000
namespace Rs
open PySem L2 Bs LamX Pg RZ
def isStr : PyData → Bool
  | .str _ => true
  | _ => false
theorem kitS (K : PySem.W.Frag) (d : PyData) : PySem.W.kitOne K (.type (tyD d)) (.type "str") = some (isStr d) := by
  cases d with
  | none => exact kit_ty (a := "NoneType") (b := "str") (r := false) (by decide +kernel)
  | bool _ => exact kit_ty (a := "bool") (b := "str") (r := false) (by decide +kernel)
  | int _ => exact kit_ty (a := "int") (b := "str") (r := false) (by decide +kernel)
  | str _ => exact kit_ty (a := "str") (b := "str") (r := true) (by decide +kernel)
  | list _ => exact kit_ty (a := "list") (b := "str") (r := false) (by decide +kernel)
  | tuple _ => exact kit_ty (a := "tuple") (b := "str") (r := false) (by decide +kernel)
  | dict _ => exact kit_ty (a := "dict") (b := "str") (r := false) (by decide +kernel)
def kdS : Kd → Str
  | .all => "all"
  | .free => "free"
  | .str => "stretch"
structure KindsG (K : PySem.W.Frag) (mg : Str → Option Value) : Prop where
  ex : ∃ a : Addr, mg "KINDS" = some (.ref a) ∧ ∀ H : Hp, SqT K H a [.str "all", .str "free", .str "stretch"]
structure MostN (mg : Str → Option Value) : Prop where
  ex : ∃ t, mg "MOST_NUMBERS" = some (.int 7 t)
abbrev sNeedKind : Stmt := top 13
abbrev sIsBlk : Stmt := top 14
abbrev sIsPart : Stmt := top 15
abbrev sNeedPart : Stmt := top 16
abbrev sParted : Stmt := top 17
abbrev sCross : Stmt := top 18
abbrev sStretch : Stmt := top 19
abbrev sHasKind : Stmt := top 20
def spNeedKind : Sp := fun vs H Q _ => ∃ k : Kd, vs = [.str (kdS k)] ∧ Q (.str (kdS k)) H
def spIsBlk (K : PySem.W.Frag) : Sp := fun vs H Q _ => ∃ (v : V) (b : Blk), vs = [v] ∧ It K H v b ∧ isBlk b = true ∧ b.length ≤ 500 ∧ ∀ H', Same H H' → Q (.bl true) H'
def spParted (K : PySem.W.Frag) : Sp := fun vs H Q _ => ∃ (v : V) (p : Prt) (lo hi : Int), vs = [v, .int lo, .int hi] ∧ Pt K H v p ∧ sizeB p = true ∧ ∀ H', Same H H' → Q (.bl (parted p lo hi)) H'
def spPB (K : PySem.W.Frag) (B : Prt → Bool) : Sp := fun vs H Q _ => ∃ (v : V) (p : Prt), vs = [v] ∧ Pt K H v p ∧ sizeB p = true ∧ ∀ H', Same H H' → Q (.bl (B p)) H'
def spHasKind (K : PySem.W.Frag) : Sp := fun vs H Q _ => ∃ (k : Kd) (v : V) (p : Prt), vs = [.str (kdS k), v] ∧ Pt K H v p ∧ sizeB p = true ∧ ∀ H', Same H H' → Q (.bl (hasK k p)) H'
theorem size_blk {p : Prt} (h : sizeB p = true) : p.length ≤ 8 ∧ ∀ b ∈ p, b.length ≤ 8 ∧ 0 < b.length := by
  unfold sizeB at h
  rw [Bool.and_eq_true, decide_eq_true_eq, List.all_eq_true] at h
  refine ⟨h.1, fun b hb => ?_⟩
  have := h.2 b hb
  rw [Bool.and_eq_true, decide_eq_true_eq, decide_eq_true_eq] at this
  exact this
theorem all_true (n : Nat) : (List.replicate n true).all id = true := by
  rw [List.all_eq_true]
  intro x hx
  rw [(List.mem_replicate.mp hx).2]
  rfl
theorem prs_get {b : Blk} {i : Nat} {t u : Int} (h1 : b[i]? = some t) (h2 : b[i + 1]? = some u) : (prs b)[i]? = some (t, u) := by
  unfold prs
  rw [List.getElem?_zip_eq_some]
  refine ⟨h1, ?_⟩
  rw [List.getElem?_tail]
  exact h2
section
variable {P : Program} {w : World} {K : PySem.W.Frag} {mg : Str → Option Value} {base : Heap} {f : Addr} {fd : FuncData}
theorem scNeedKind : FnScope ["kind"] ["kind"] (defScope sNeedKind) := ⟨rfl, rfl, rfl, by decide +kernel, rfl, by decide +kernel, by decide +kernel⟩
theorem ok_needKind (F : Fun K "need_kind" "need_kind" sNeedKind f fd) (T : Blt mg) (st : mg "str" = none) (KG : KindsG K mg) : FnOk P w K mg base CX0 1 f fd ["kind"] spNeedKind := by
  refine F.ok scNeedKind (fun vs H Q E h => ?_) (fun cdv A outer s H vs Q E hr h => ?_)
  · obtain ⟨k, rfl, _⟩ := h
    rfl
  · obtain ⟨k, rfl, kk⟩ := h
    obtain ⟨ka, mk, sk⟩ := KG.ex
    refine ⟨_, pss_cons (ps_if (PW.pt (pw_or (pt_not (pt_val (pe_callB call_isi (by rfl) T.isinstance (by decide +kernel) (pa_cons (pv 0) (pa_cons (pe_bltn (v := .ty "str") (by rfl) st (by decide +kernel) rfl) pa_nil)))))
        (pw_or1 (pt_cmpR op_notIn_seq (pv 0) (pe_glob (v := .ref ka) (by rfl) mk rfl) (by rfl))))) (pss_one ps_never) pss_nil)
      (pss_one (ps_ret (pv 0))), ?_⟩
    have hd : Dp K H (.str (kdS k)) (.str (kdS k)) := .str _
    refine ⟨_, rfl, _, _, _, _, _, rfl, .ty _, hd.ty, kitS K _, _, rfl, ?_⟩
    refine iteF ⟨_, rfl, ka, _, rfl, .inr (sk H), rfl, rfl, _, rfl, ?_⟩
    cases k <;> exact ite2 (fun c => absurd c (by decide +kernel)) (fun _ => ⟨_, rfl, kk⟩)
abbrev NBk : List Str := ["thing", "number", "one", "other"]
theorem scIsBlk : FnScope NBk ["thing"] (defScope sIsBlk) := ⟨rfl, rfl, rfl, by decide +kernel, rfl, by decide +kernel, by decide +kernel⟩
theorem ok_isBlk (F : Fun K "is_block" "is_block" sIsBlk f fd) (T : Blt mg) (al : mg "all" = none) (zp : mg "zip" = none) (M : MostN mg) (BE : Cal P w K mg base 2 "is_between" (spBetween K)) : FnOk P w K mg base CX0 3 f fd ["thing"] (spIsBlk K) := by
  refine F.ok scIsBlk (fun vs H Q E h => ?_) (fun cdv A outer s H vs Q E hr h => ?_)
  · obtain ⟨v, b, rfl, _⟩ := h
    rfl
  · obtain ⟨v, b, rfl, iv, ib, l5, kk⟩ := h
    obtain ⟨t7, m7⟩ := M.ex
    refine ⟨_, pss_cons (ps_if (PW.pt (pw_or (pt_not (pt_val (pe_callB call_isi (by rfl) T.isinstance (by decide +kernel) (pa_cons (pv 0) (pa_cons (pe_bltn (v := .ty "tuple") (by rfl) T.tuple (by decide +kernel) rfl) pa_nil)))))
        (pw_or1 (pt_cmpR op_eq (pe_callB call_len_seq (by rfl) T.len (by decide +kernel) (pa_cons (pv 0) pa_nil)) pe_int (nomark _))))) (pss_one (ps_ret pe_bl)) pss_nil)
      (C8.pss_cut (ps_if (pt_not (pt_val (pe_callB (cr_all rfl) (by rfl) al (by decide +kernel) (pa_cons (pe_lc (own := [("number", 1)]) (g := gName 1) (tt := tYes) rfl scIsBlk.nd (pi_tup (pv 0)) (blkOk_by (N := NBk) (sc := defScope sIsBlk) (by decide +kernel))
          (fun _ _ _ _ _ => pg_name (i := 1) scIsBlk.nd rfl (Or.inl rfl)) (fun _ _ _ _ _ => pts_nil)
          (fun _ _ _ _ _ => pe_n BE hr (by decide) (by rfl) (pa_cons (pv 1) (pa_cons pe_int (pa_cons (pe_op (r := rSub) op_sub (pe_glob (v := .int 7) (by rfl) m7 ⟨t7, rfl⟩) pe_int) pa_nil))))) pa_nil)))) (pss_one (ps_ret pe_bl)) pss_nil)
      (pss_one (ps_ret (pe_callB (cr_all rfl) (by rfl) al (by decide +kernel) (pa_cons (pe_lc (own := [("one", 2), ("other", 3)]) (g := gTup K 2 (gCons (gName 2) (gCons (gName 3) gNil))) (tt := tYes) rfl scIsBlk.nd
          (pi_zipA (by rfl) zp (pa_cons (pv 0) (pa_cons (pe_slice sl_tupA (pv 0) (po_some pe_int) po_none) pa_nil))) (blkOk_by (N := NBk) (sc := defScope sIsBlk) (by decide +kernel))
          (fun _ _ _ _ _ => pg_tup rfl (pgs_cons (pg_name (i := 2) scIsBlk.nd rfl (Or.inl rfl)) (pgs_cons (pg_name (i := 3) scIsBlk.nd rfl (Or.inl rfl)) pgs_nil))) (fun _ _ _ _ _ => pts_nil)
          (fun _ _ _ _ _ => pe_cmpR op_lt (pv 2) (pv 3) (nomark _))) pa_nil))))), ?_⟩
    have hd := iv.dp
    obtain ⟨a, rfl, sa⟩ := iv
    have ib2 := ib
    unfold isBlk at ib2
    rw [Bool.and_eq_true, Bool.and_eq_true, List.all_eq_true, List.all_eq_true] at ib2
    obtain ⟨ne, bt, lt_⟩ := ib2
    have l0 : 0 < b.length := by
      cases b with
      | nil => cases ne
      | cons _ _ => exact Nat.succ_pos _
    refine ⟨_, rfl, _, _, _, _, _, rfl, .ty _, hd.ty, kitT K _, _, rfl, ?_⟩
    refine iteF ⟨_, rfl, a, _, rfl, .inr sa, rfl, _, rfl, ?_⟩
    refine ite2 (fun c => ?_) (fun _ => ?_)
    · have c2 : ((b.map V.int).length : Int) = 0 := by simpa using c
      rw [List.length_map] at c2
      omega
    refine ⟨fun σ H1 => Same H H1 ∧ σ = [some (.ref a), none, none, none], ?_, ?_⟩
    · refine ⟨_, rfl, a, rfl, ⟨_, sa⟩, fun D hD => lc_tup (K := K) (a := a) (xs := b.map V.int) (fun i H2 => Same H H2 ∧ H2 D = some (.lst ((List.replicate i true).map V.bl))) ⟨same_new hD, upd_same⟩ (fun i H2 _ z => Bs.Same.t z.1 sa) ?_ ?_⟩
      · rintro i x H2 hx ⟨s2, hD2⟩
        obtain ⟨t, ht, rfl⟩ := some_int hx
        have hi : i < b.length := (List.getElem?_eq_some_iff.mp ht).1
        have tb : betwD 0 (7 - 1) (.int t) = true := bt t (List.mem_of_getElem? ht)
        refine ⟨rfl, ?_⟩
        refine iteT (B := Same H H2 ∧ H2 D = some (.lst ((List.replicate (i + 1) true).map V.bl))) ?_
        refine ⟨_, rfl, _, _, rfl, rfl, _, .int t, 0, 7 - 1, rfl, .int t, ?_⟩
        rw [tb]
        refine ⟨_, hD2, small1000 (by rw [List.length_map, List.length_replicate]; omega), fun c o e => (upd_ne (ne_of_none e hD)).trans (s2 c o e), ?_⟩
        rw [upd_same, List.replicate_succ', List.map_append]
        rfl
      · rintro H2 ⟨s2, hD2⟩
        refine ⟨D, _, rfl, SqL.of hD2, _, rfl, ?_⟩
        rw [all_true]
        exact iteF ⟨s2, rfl⟩
    rintro σ H1 ⟨s1, rfl⟩
    have sa1 := Bs.Same.t s1 sa
    refine ⟨_, rfl, _, rfl, 1, rfl, ?_⟩
    unfold tNoPart
    refine sl_cut sa1 cut_tail fun c H2 s2 sc => ?_
    have sa2 := Bs.Same.t s2 sa1
    refine ⟨a, c, b.map V.int, (b.map V.int).drop 1, rfl, .inr ⟨sa2, sc, fun D hD => ?_⟩⟩
    refine lc_it (walk_zipT (xs := b.map V.int) (ys := (b.map V.int).drop 1) (n := (prs b).length) (by unfold prs; rw [List.length_zip, List.length_map, List.length_drop, List.length_map, List.length_tail])) (fun i H3 => Same H2 H3 ∧ H3 D = some (.lst ((List.replicate i true).map V.bl))) ⟨same_new hD, upd_same⟩ (fun i H3 _ z => ⟨Bs.Same.t z.1 sa2, Bs.Same.t z.1 sc⟩) ?_ ?_
    · rintro i x H3 H4 hi ⟨s3, hD3⟩ ⟨T', x', y', rfl, hT, rfl, h1, h2⟩
      have h1' : (b.map V.int)[i]? = some x' := h1
      have h2' : ((b.map V.int).drop 1)[i]? = some y' := h2
      obtain ⟨t, ht, rfl⟩ := some_int h1'
      rw [List.getElem?_drop, Nat.add_comm] at h2'
      obtain ⟨u, hu, rfl⟩ := some_int h2'
      have hp := lt_ (t, u) (List.mem_of_getElem? (prs_get ht hu))
      have s4 := same_new (o := .tup [.int t, .int u]) hT
      have hl : (prs b).length ≤ b.length := by
        unfold prs
        rw [List.length_zip]
        omega
      refine ⟨T', _, rfl, SqT.of upd_same, rfl, _, _, rfl, _, _, rfl, rfl, rfl, ?_⟩
      refine iteT (B := Same H2 (upd H3 T' (.tup [.int t, .int u])) ∧ upd H3 T' (.tup [.int t, .int u]) D = some (.lst ((List.replicate (i + 1) true).map V.bl))) ?_
      refine ⟨_, rfl, _, rfl, _, _, rfl, rfl, ?_⟩
      refine ⟨_, s4 _ _ hD3, small1000 (by rw [List.length_map, List.length_replicate]; omega), fun c o e => (upd_ne (ne_of_none e hD)).trans (s4 c o (s3 c o e)), ?_⟩
      rw [upd_same, List.replicate_succ', List.map_append]
      show some (HO.lst (_ ++ [V.bl (decide (t < u))])) = _
      rw [show decide (t < u) = true from hp]
      rfl
    · rintro H3 ⟨s3, hD3⟩
      refine ⟨D, _, rfl, SqL.of hD3, ?_⟩
      rw [all_true]
      exact kk H3 ((s1.trans s2).trans s3)
end
end Rs


set_option Elab.async false
set_option linter.all false
set_option maxRecDepth 100000
set_option maxHeartbeats 1000000
namespace Rs
open PySem L2 Bs LamX Pg RZ
/-- a pair of whole numbers -/
def Gp (K : PySem.W.Frag) (H : Hp) (v : V) (g : Int × Int) : Prop := ∃ a, v = .ref a ∧ SqT K H a [.int g.1, .int g.2]
theorem gp_mono {K : PySem.W.Frag} {H H' : Hp} {vs : List V} {gs : List (Int × Int)} (h : Al (Gp K H) vs gs) (e : Same H H') : Al (Gp K H') vs gs := h.imp fun _ _ ⟨a, e1, s⟩ => ⟨a, e1, Bs.Same.t e s⟩
theorem gp_off {K : PySem.W.Frag} {H : Hp} {D : Addr} {acc : List V} {o : HO} {vs : List V} {gs : List (Int × Int)} (h : Al (Gp K H) vs gs) (hD : H D = some (.lst acc)) : Al (Gp K (upd H D o)) vs gs := h.imp fun _ _ ⟨a, e1, s⟩ => ⟨a, e1, sqT_off hD s⟩
theorem any_one {α : Type} {f : α → Bool} {l : List α} {i : Nat} {x : α} (h : l[i]? = some x) (n : (l.take i).any f = false) : (l.take (i + 1)).any f = f x := by
  rw [take_one h, List.any_append, n, Bool.false_or]
  simp
abbrev NPd : List Str := ["parting", "low", "high", "block", "within", "number"]
abbrev NCr : List Str := ["parting", "gaps", "block", "low", "high"]
theorem gaps_step {p : Prt} {i : Nat} {b : Blk} (h : p[i]? = some b) : gaps (p.take (i + 1)) = gaps (p.take i) ++ (prs b).map fun q => (q.1 + 1, q.2) := by
  unfold gaps
  rw [take_one h, List.flatMap_append]
  simp
theorem prs_len (b : Blk) : (prs b).length ≤ b.length := by
  unfold prs
  rw [List.length_zip]
  omega
theorem gaps_len {p : Prt} (h : ∀ b ∈ p, b.length ≤ 8) : (gaps p).length ≤ 8 * p.length := by
  unfold gaps
  induction p with
  | nil => exact Nat.zero_le _
  | cons b p ih =>
    rw [List.flatMap_cons, List.length_append, List.length_map, List.length_cons]
    have h1 := h b List.mem_cons_self
    have h2 := prs_len b
    have := ih fun c hc => h c (List.mem_cons_of_mem _ hc)
    omega
section
variable {P : Program} {w : World} {K : PySem.W.Frag} {mg : Str → Option Value} {base : Heap} {f : Addr} {fd : FuncData}
theorem scParted : FnScope NPd ["parting", "low", "high"] (defScope sParted) := ⟨rfl, rfl, rfl, by decide +kernel, rfl, by decide +kernel, by decide +kernel⟩
theorem ok_parted (F : Fun K "is_parted" "is_parted" sParted f fd) (T : Blt mg) : FnOk P w K mg base CX0 1 f fd ["parting", "low", "high"] (spParted K) := by
  refine F.ok scParted (fun vs H Q E h => ?_) (fun cdv A outer s H vs Q E hr h => ?_)
  · obtain ⟨v, p, lo, hi, rfl, _⟩ := h
    rfl
  · obtain ⟨v, p, lo, hi, rfl, ⟨a, xs, rfl, sx, al⟩, sz, kk⟩ := h
    obtain ⟨l8, bl⟩ := size_blk sz
    have lx := al.len
    refine ⟨_, pss_cons (ps_for PassesOwn.never rfl (pi_tup (pv 0)) (pg_name (i := 3) scParted.nd rfl (.inl rfl))
        (C8.pss_cut (ps_set (i := 4) scParted.nd rfl (Or.inl rfl) (pe_callB call_len_seq (by rfl) T.len (by decide +kernel) (pa_cons (pe_lc (own := [("number", 5)]) (g := gName 5) rfl scParted.nd (pi_tup (pv 3)) (blkOk_by (N := NPd) (sc := defScope sParted) (by decide +kernel))
            (fun _ _ _ _ _ => pg_name (i := 5) scParted.nd rfl (Or.inl rfl)) (fun _ _ _ _ _ => pts_one (PW.pt (pw_and (pt_cmpR op_le (pv 1) (pv 5) (nomark _)) (pw_and1 (pt_cmpR op_lt (pv 5) (pv 2) (nomark _))))))
            (fun _ _ _ _ _ => pv 5)) pa_nil)))
        (pss_one (ps_if (PW.pt (pw_and (pt_cmpR op_lt pe_int (pv 4) (nomark _)) (pw_and1 (pt_cmpR op_lt (pv 4) (pe_callB call_len_seq (by rfl) T.len (by decide +kernel) (pa_cons (pv 3) pa_nil)) (nomark _))))) (pss_one (ps_ret pe_bl)) pss_nil))))
      (pss_one (ps_ret pe_bl)), ?_⟩
    refine ⟨_, rfl, a, rfl, ⟨_, sx⟩, for_tup (K := K) (a := a) (xs := xs) (fun i σ H1 => Same H H1 ∧ (p.take i).any (cutB lo hi) = false ∧ ∃ v3 v4, σ = [some (.ref a), some (.int lo), some (.int hi), v3, v4, none]) ⟨fun _ _ z => z, rfl, none, none, rfl⟩ (fun i σ H1 _ q => Bs.Same.t q.1 sx) ?_ ?_⟩
    · rintro i x σ H1 hx ⟨s1, no, v3, v4, rfl⟩
      obtain ⟨b, hb, ib⟩ := al.get hx
      have bb := bl b (List.mem_of_getElem? hb)
      obtain ⟨c, rfl, sc⟩ := id ib
      refine ⟨fun σ H2 => Same H H2 ∧ σ = [some (.ref a), some (.int lo), some (.int hi), some (.ref c), some (.int (within b lo hi)), none], ?_, ?_⟩
      · refine ⟨_, rfl, c, rfl, ⟨_, Bs.Same.t s1 sc⟩, fun D hD => lc_tup (K := K) (a := c) (xs := b.map V.int) (fun j H2 => Same H1 H2 ∧ H2 D = some (.lst (((b.take j).filter fun n => decide (lo ≤ n) && decide (n < hi)).map V.int))) ⟨same_new hD, upd_same⟩ (fun j H2 _ z => Bs.Same.t (s1.trans z.1) sc) ?_ ?_⟩
        · rintro j y H2 hy ⟨s2, hD2⟩
          obtain ⟨t, ht, rfl⟩ := some_int hy
          refine ⟨rfl, ?_⟩
          have lf : ((b.take j).filter fun n => decide (lo ≤ n) && decide (n < hi)).length ≤ b.length := Nat.le_trans (List.length_filter_le _ _) (List.length_take_le' _ _)
          have goF : (decide (lo ≤ t) && decide (t < hi)) = false → Same H1 H2 ∧ H2 D = some (.lst (((b.take (j + 1)).filter fun n => decide (lo ≤ n) && decide (n < hi)).map V.int)) := fun e => by
            refine ⟨s2, ?_⟩
            rw [hD2, take_one ht, List.filter_append, List.map_append, List.filter_cons_of_neg (by rw [e]; decide)]
            show _ = some (HO.lst (_ ++ []))
            rw [List.append_nil]
          refine ⟨_, rfl, _, rfl, _, _, rfl, rfl, _, rfl, ?_⟩
          refine ite2 (fun c1 => ?_) (fun c1 => ?_)
          · refine ⟨_, rfl, _, rfl, _, _, rfl, rfl, _, rfl, ?_⟩
            refine ite2 (fun c2 => ?_) (fun c2 => ?_)
            · refine ⟨_, rfl, _, hD2, small1000 (by rw [List.length_map]; omega), fun b' o e => (upd_ne (ne_of_none e hD)).trans (s2 b' o e), ?_⟩
              rw [upd_same, take_one ht, List.filter_append, List.map_append, List.filter_cons_of_pos (by rw [c1, c2]; rfl)]
              rfl
            · exact goF (by rw [c1, Bool.eq_false_iff.mpr c2]; rfl)
          · exact goF (by rw [Bool.eq_false_iff.mpr c1]; rfl)
        · rintro H2 ⟨s2, hD2⟩
          rw [List.length_map, List.take_length] at hD2
          refine ⟨D, _, rfl, .inl (SqL.of hD2), s1.trans s2, ?_⟩
          rw [List.length_map]
          rfl
      rintro σ H2 ⟨s2, rfl⟩
      have goF : cutB lo hi b = false → Same H H2 ∧ (p.take (i + 1)).any (cutB lo hi) = false ∧ ∃ v3 v4, [some (V.ref a), some (.int lo), some (.int hi), some (.ref c), some (.int (within b lo hi)), none] = [some (V.ref a), some (.int lo), some (.int hi), v3, v4, none] := fun e => ⟨s2, by rw [any_one hb no, e], _, _, rfl⟩
      refine ⟨_, rfl, _, _, rfl, rfl, _, rfl, ?_⟩
      refine ite2 (fun c1 => ?_) (fun c1 => goF ?_)
      · refine ⟨_, rfl, _, rfl, c, _, rfl, .inr (Bs.Same.t s2 sc), _, _, rfl, rfl, _, rfl, ?_⟩
        have d1 := of_decide_eq_true c1
        refine ite2 (fun c2 => ?_) (fun c2 => goF ?_)
        · have d2 := of_decide_eq_true c2
          rw [List.length_map] at d2
          have e : parted p lo hi = true := by
            unfold parted
            rw [List.any_eq_true]
            refine ⟨b, List.mem_of_getElem? hb, ?_⟩
            unfold cutB
            rw [decide_eq_true (by omega), decide_eq_true (by omega)]
            rfl
          have := kk H2 s2
          rw [e] at this
          exact this
        · unfold cutB
          rw [Bool.and_eq_false_iff]
          refine .inr (decide_eq_false fun z => c2 (decide_eq_true ?_))
          rw [List.length_map]
          omega
      · unfold cutB
        rw [Bool.and_eq_false_iff]
        exact .inl (decide_eq_false fun z => c1 (decide_eq_true (by omega)))
    · rintro σ H1 ⟨s1, no, v3, v4, rfl⟩
      rw [lx, List.take_length] at no
      have := kk H1 s1
      unfold parted at this
      rw [no] at this
      exact this
end
end Rs


set_option Elab.async false
set_option linter.all false
set_option maxRecDepth 100000
set_option maxHeartbeats 1000000
namespace Rs
open PySem L2 Bs LamX Pg RZ
section
variable {P : Program} {w : World} {K : PySem.W.Frag} {mg : Str → Option Value} {base : Heap} {f : Addr} {fd : FuncData}
theorem scCross : FnScope NCr ["parting"] (defScope sCross) := ⟨rfl, rfl, rfl, by decide +kernel, rfl, by decide +kernel, by decide +kernel⟩
theorem ok_cross (F : Fun K "does_cross" "does_cross" sCross f fd) (zp : mg "zip" = none) (an : mg "any" = none) (IP : Cal P w K mg base 1 "is_parted" (spParted K)) : FnOk P w K mg base CX0 2 f fd ["parting"] (spPB K crosses) := by
  refine F.ok scCross (fun vs H Q E h => ?_) (fun cdv A outer s H vs Q E hr h => ?_)
  · obtain ⟨v, p, rfl, _⟩ := h
    rfl
  · obtain ⟨v, p, rfl, pp, sz, kk⟩ := h
    obtain ⟨a, xs, rfl, sx, al⟩ := id pp
    obtain ⟨l8, bl⟩ := size_blk sz
    have lx := al.len
    refine ⟨_, C8.pss_cut (ps_setLc2 (i := 1) (own := [("block", 2), ("low", 3), ("high", 4)]) (vs1 := [3, 4]) (g := gName 2) (tt := tYes) (g1 := gTup K 2 (gCons (gName 3) (gCons (gName 4) gNil))) (tt1 := tYes) (wi1 := iZipA K (tCons (tVar 2) (tCons (tSl (rSlA K) (tVar 2) (tPart (tC (.int 1))) tNoPart) tNil))) (te := tTup (tCons (tOp rAdd (tVar 3) (tC (.int 1))) (tCons (tVar 4) tNil))) (by rfl) scCross.nd rfl rfl (sw_true rfl rfl rfl (by decide +kernel)) (pi_tup (pv 0)) (blkOk_by (N := NCr) (sc := defScope sCross) (by decide +kernel)) (by decide)
        (fun _ _ _ _ _ => pg_name (i := 2) scCross.nd rfl (Or.inl rfl)) (fun _ _ _ _ _ => pts_nil)
        (fun _ _ _ _ _ => pi_zipA (by rfl) zp (pa_cons (pv 2) (pa_cons (pe_slice (r := rSlA K) sl_tupA (pv 2) (po_some pe_int) po_none) pa_nil)))
        (fun _ _ _ _ _ => pg_tup rfl (pgs_cons (pg_name (i := 3) scCross.nd rfl (Or.inl rfl)) (pgs_cons (pg_name (i := 4) scCross.nd rfl (Or.inl rfl)) pgs_nil))) (fun _ _ _ _ _ => pts_nil)
        (fun _ _ _ _ _ => pe_tup (pa_cons (pe_op (r := rAdd) op_add (pv 3) pe_int) (pa_cons (pv 4) pa_nil))))
      (pss_one (ps_ret (pe_callB (cr_any rfl) (by rfl) an (by decide +kernel) (pa_cons (pe_lc (own := [("low", 3), ("high", 4)]) (g := gTup K 2 (gCons (gName 3) (gCons (gName 4) gNil))) (tt := tYes) rfl scCross.nd (pi_list (pv 1)) (blkOk_by (N := NCr) (sc := defScope sCross) (by decide +kernel))
        (fun _ _ _ _ _ => pg_tup rfl (pgs_cons (pg_name (i := 3) scCross.nd rfl (Or.inl rfl)) (pgs_cons (pg_name (i := 4) scCross.nd rfl (Or.inl rfl)) pgs_nil))) (fun _ _ _ _ _ => pts_nil)
        (fun _ _ _ _ _ => pe_n IP hr (by decide) (by rfl) (pa_cons (pv 0) (pa_cons (pv 3) (pa_cons (pv 4) pa_nil))))) pa_nil)))), ?_⟩
    have gl := gaps_len fun b hb => (bl b hb).1
    refine ⟨fun σ H1 => Same H H1 ∧ ∃ (L : Addr) (gs : List V), H1 L = some (.lst gs) ∧ Al (Gp K H1) gs (gaps p) ∧ σ = [some (.ref a), some (.ref L), none, none, none], ?_, ?_⟩
    · refine ⟨_, rfl, a, rfl, ⟨_, sx⟩, fun D hD => ?_⟩
      refine lc2_out (walk_tup (K := K) (a := a) (xs := xs)) (fun i H2 => Same H H2 ∧ ∃ acc, H2 D = some (.lst acc) ∧ Al (Gp K H2) acc (gaps (p.take i))) ⟨same_new hD, [], upd_same, .nil⟩ (fun i H2 _ q => Bs.Same.t q.1 sx) ?_ ?_
      · rintro i x H2' H2 hi ⟨s2, acc, hD2, ga⟩ ⟨e2, hx⟩
        subst e2
        obtain ⟨b, hb, ib⟩ := al.get hx
        have bb := bl b (List.mem_of_getElem? hb)
        obtain ⟨c, rfl, sc⟩ := id ib
        refine ⟨rfl, ?_⟩
        refine iteT (B := Same H H2 ∧ ∃ acc, H2 D = some (.lst acc) ∧ Al (Gp K H2) acc (gaps (p.take (i + 1)))) ?_
        refine ⟨_, rfl, _, rfl, 1, rfl, ?_⟩
        unfold tNoPart
        refine sl_cut (Bs.Same.t s2 sc) cut_tail fun c2 H3 s3 sc2 => ?_
        have s23 := s2.trans s3
        refine ⟨c, c2, b.map V.int, (b.map V.int).drop 1, rfl, .inr ⟨Bs.Same.t s23 sc, sc2, ?_⟩⟩
        refine lc2_in (walk_zipT (xs := b.map V.int) (ys := (b.map V.int).drop 1) (n := (prs b).length) (by unfold prs; rw [List.length_zip, List.length_map, List.length_drop, List.length_map, List.length_tail])) (fun j H4 => Same H H4 ∧ SqT K H4 c2 ((b.map V.int).drop 1) ∧ ∃ acc, H4 D = some (.lst acc) ∧ Al (Gp K H4) acc (gaps (p.take i) ++ ((prs b).take j).map fun q => (q.1 + 1, q.2))) ⟨s23, sc2, acc, s3 _ _ hD2, by rw [List.take_zero, List.map_nil, List.append_nil]; exact gp_mono ga s3⟩ (fun j H4 _ z => ⟨Bs.Same.t z.1 sc, z.2.1⟩) ?_ ?_
        · rintro j x H4 H5 hj ⟨s4, s34, acc, hD4, ga⟩ ⟨T', x', y', rfl, hT, rfl, h1, h2⟩
          have h1' : (b.map V.int)[j]? = some x' := h1
          have h2' : ((b.map V.int).drop 1)[j]? = some y' := h2
          obtain ⟨t, ht, rfl⟩ := some_int h1'
          rw [List.getElem?_drop, Nat.add_comm] at h2'
          obtain ⟨u, hu, rfl⟩ := some_int h2'
          have hp := prs_get ht hu
          have s5 := same_new (o := .tup [.int t, .int u]) hT
          have la := ga.len
          rw [List.length_append, List.length_map, List.length_take] at la
          have lg : (gaps (p.take i)).length ≤ 64 := by
            have := gaps_len (p := p.take i) fun b hb => (bl b (List.mem_of_mem_take hb)).1
            rw [List.length_take] at this
            omega
          have hl := prs_len b
          refine ⟨T', _, rfl, SqT.of upd_same, rfl, _, _, rfl, _, _, rfl, rfl, rfl, ?_⟩
          refine iteT (B := Same H (upd H4 T' (.tup [.int t, .int u])) ∧ SqT K (upd H4 T' (.tup [.int t, .int u])) c2 ((b.map V.int).drop 1) ∧ ∃ acc, upd H4 T' (.tup [.int t, .int u]) D = some (.lst acc) ∧ Al (Gp K (upd H4 T' (.tup [.int t, .int u]))) acc (gaps (p.take i) ++ ((prs b).take (j + 1)).map fun q => (q.1 + 1, q.2))) ?_
          refine ⟨_, rfl, _, _, rfl, rfl, _, rfl, (by show 2 ≤ sizeLine; decide), fun p1 hp1 => ?_⟩
          have s6 := same_new (o := .tup [.int (t + 1), .int u]) hp1
          have s56 := s5.trans s6
          have hD6 := s56 _ _ hD4
          refine ⟨acc, hD6, small1000 (by omega), fun c o e => (upd_ne (ne_of_none e hD)).trans (s56 c o (s4 c o e)), sqT_off hD6 (Bs.Same.t s56 s34), acc ++ [.ref p1], upd_same, ?_⟩
          · rw [take_one hp, List.map_append, ← List.append_assoc]
            exact (gp_off (gp_mono ga s56) hD6).snoc ⟨p1, rfl, sqT_off hD6 (SqT.of upd_same)⟩
        · rintro H4 ⟨s4, _, acc, hD4, ga⟩
          rw [List.take_length, ← gaps_step hb] at ga
          exact ⟨s4, acc, hD4, ga⟩
      · rintro H2 ⟨s2, acc, hD2, ga⟩
        rw [lx, List.take_length] at ga
        exact ⟨s2, D, acc, hD2, ga, rfl⟩
    rintro σ H1 ⟨s1, L, gs, gL, ga, rfl⟩
    have lg := ga.len
    refine ⟨_, rfl, L, rfl, ⟨_, SqL.of gL⟩, fun D hD => ?_⟩
    refine lc_list (K := K) (a := L) (xs := gs) (fun i H2 => Same H1 H2 ∧ H2 D = some (.lst ((((gaps p).take i).map fun g => parted p g.1 g.2).map V.bl))) ⟨same_new hD, upd_same⟩ (fun i H2 _ z => SqL.of (z.1 _ _ gL)) ?_ ?_
    · rintro i x H2 hx ⟨s2, hD2⟩
      obtain ⟨g, hg, c, rfl, sc⟩ := ga.get hx
      refine ⟨c, _, rfl, Bs.Same.t s2 sc, rfl, _, _, rfl, _, _, rfl, rfl, rfl, ?_⟩
      refine iteT (B := Same H1 H2 ∧ H2 D = some (.lst ((((gaps p).take (i + 1)).map fun g => parted p g.1 g.2).map V.bl))) ?_
      refine ⟨_, rfl, _, rfl, _, rfl, _, p, g.1, g.2, rfl, pp.mono (s1.trans s2), sz, fun H3 s3 => ?_⟩
      refine ⟨_, s3 _ _ hD2, small1000 (by rw [List.length_map, List.length_map, List.length_take]; omega), fun c o e => (upd_ne (ne_of_none e hD)).trans (s3 c o (s2 c o e)), ?_⟩
      rw [upd_same, take_one hg, List.map_append, List.map_append]
      rfl
    · rintro H2 ⟨s2, hD2⟩
      rw [lg, List.take_length] at hD2
      refine ⟨D, _, rfl, SqL.of hD2, ?_⟩
      have e : ((gaps p).map fun g => parted p g.1 g.2).any id = crosses p := by
        rw [List.any_map]
        rfl
      rw [e]
      exact kk H2 (s1.trans s2)
end
end Rs


set_option Elab.async false
set_option linter.all false
set_option maxRecDepth 100000
set_option maxHeartbeats 1000000
namespace Rs
open PySem L2 Bs LamX Pg RZ
abbrev sWithN : Stmt := top 21
abbrev sPartsOf : Stmt := top 22
def rLenK (K : PySem.W.Frag) : List V → Hp → VK → Prop := fun xs H Q => ∃ p ys, xs = [V.ref p] ∧ (SqL K H p ys ∨ SqT K H p ys) ∧ Q (.int ys.length) H
def rIxTK (K : PySem.W.Frag) := rIxT K
def spWithN (K : PySem.W.Frag) : Sp := fun vs H Q _ => ∃ (v : V) (p : Prt) (n : Int), vs = [v, .int n] ∧ Pt K H v p ∧ p.length ≤ 20 ∧ (∀ b ∈ p, b.length ≤ 20) ∧ ∀ H' L xs, Same H H' → H L = none → H' L = some (.lst xs) → Al (Pt K H') xs (withN p n) → Q (.ref L) H'
abbrev NWn : List Str := ["parting", "number", "found", "k", "block"]
theorem walk_enumT {K : PySem.W.Frag} {a : Addr} {xs : List V} : Walk (EnT.IteT K a) xs.length (fun H => SqT K H a xs) (YPair (fun i => some (.int (i : Nat))) (fun i => xs[i]?)) := by
  refine ⟨fun i _ hi q => ⟨xs, xs[i], q, by simp [hi]⟩, fun _ q => ⟨xs, q, Nat.le_refl _⟩, fun i H v H' _ q y => ?_⟩
  obtain ⟨T, x, h1, h2, h3, h4⟩ := y
  exact ⟨T, .int (i : Nat), x, h1, h2, h3, rfl, h4 xs q⟩
theorem hd_at {b : Blk} (h : 0 < b.length) : b[0]? = some (hdI b) := by
  cases b with
  | nil => cases h
  | cons x b => rfl
theorem lt_at {b : Blk} (h : 0 < b.length) : b[b.length - 1]? = some (ltI b) := by
  unfold ltI
  rw [List.getLastD_eq_getLast?, List.getLast?_eq_getElem?]
  cases e : b[b.length - 1]? with
  | none =>
    rw [List.getElem?_eq_none_iff] at e
    omega
  | some x => rfl
theorem more_len (p : Prt) (n : Int) (k : Nat) (h : k < p.length) : (more p n k).length = p.length := by
  unfold more
  rw [List.length_append, List.length_append, List.length_take, List.length_drop]
  show min k p.length + 1 + (p.length - (k + 1)) = _
  omega
theorem getD_some {p : Prt} {k : Nat} {b : Blk} (h : p[k]? = some b) : p.getD k [] = b := by
  rw [List.getD_eq_getElem?_getD, h]
  rfl
section
variable {P : Program} {w : World} {K : PySem.W.Frag} {mg : Str → Option Value} {base : Heap} {f : Addr} {fd : FuncData}
theorem scStretch : FnScope ["parting", "block"] ["parting"] (defScope sStretch) := ⟨rfl, rfl, rfl, by decide +kernel, rfl, by decide +kernel, by decide +kernel⟩
theorem ok_stretch (F : Fun K "is_stretched" "is_stretched" sStretch f fd) (T : Blt mg) (al : mg "all" = none) : FnOk P w K mg base CX0 1 f fd ["parting"] (spPB K stretched) := by
  refine F.ok scStretch (fun vs H Q E h => ?_) (fun cdv A outer s H vs Q E hr h => ?_)
  · obtain ⟨v, p, rfl, _⟩ := h
    rfl
  · obtain ⟨v, p, rfl, pp, sz, kk⟩ := h
    obtain ⟨a, xs, rfl, sx, all⟩ := id pp
    obtain ⟨l8, bl⟩ := size_blk sz
    have lx := all.len
    refine ⟨_, pss_one (ps_ret (pe_callB (cr_all rfl) (by rfl) al (by decide +kernel) (pa_cons (pe_lc (own := [("block", 1)]) (g := gName 1) (tt := tYes) rfl scStretch.nd (pi_tup (pv 0)) (blkOk_by (N := ["parting", "block"]) (sc := defScope sStretch) (by decide +kernel))
        (fun _ _ _ _ _ => pg_name (i := 1) scStretch.nd rfl (Or.inl rfl)) (fun _ _ _ _ _ => pts_nil)
        (fun _ _ _ _ _ => pe_cmpR (r := rEq) op_eq (pe_op (r := rAdd) op_add (pe_op (r := rSub) op_sub (pe_ix (r := rIxT K) ix_tup (pv 1) (pe_un (r := rU fun i => V.int (-i)) un_neg pe_int) (fun _ _ => rfl)) (pe_ix (r := rIxT K) ix_tup (pv 1) pe_int (fun _ _ => rfl))) pe_int) (pe_callB (id := "len") (r := rLenK K) call_len_seq (by rfl) T.len (by decide +kernel) (pa_cons (pv 1) pa_nil)) (nomark _))) pa_nil))), ?_⟩
    refine ⟨_, rfl, a, rfl, ⟨_, sx⟩, fun D hD => lc_tup (K := K) (a := a) (xs := xs) (fun i H2 => Same H H2 ∧ H2 D = some (.lst (((p.take i).map strB).map V.bl))) ⟨same_new hD, upd_same⟩ (fun i H2 _ z => Bs.Same.t z.1 sx) ?_ ?_⟩
    · rintro i x H2 hx ⟨s2, hD2⟩
      obtain ⟨b, hb, ib⟩ := all.get hx
      have bb := bl b (List.mem_of_getElem? hb)
      obtain ⟨c, rfl, sc⟩ := id ib
      have sc2 := Bs.Same.t s2 sc
      have ne : b.map V.int ≠ [] := fun z => by
        have := congrArg List.length z
        rw [List.length_map] at this
        have h0 : b.length = 0 := this
        omega
      have g0 : (b.map V.int)[0]? = some (V.int (hdI b)) := by rw [List.getElem?_map, hd_at bb.2]; rfl
      have g1 : (b.map V.int)[(b.map V.int).length - 1]? = some (V.int (ltI b)) := by rw [List.length_map, List.getElem?_map, lt_at bb.2]; rfl
      refine ⟨rfl, ?_⟩
      refine iteT (B := Same H H2 ∧ H2 D = some (.lst (((p.take (i + 1)).map strB).map V.bl))) ?_
      refine ⟨_, rfl, _, rfl, c, _, _, _, rfl, rfl, sc2, atI_neg1 ne g1, _, rfl, c, _, _, _, rfl, rfl, sc2, atI_nat (j := 0) g0, _, _, rfl, rfl, _, _, rfl, rfl, _, rfl, c, _, rfl, .inr sc2, rfl, ?_⟩
      refine ⟨_, hD2, small1000 (by rw [List.length_map, List.length_map, List.length_take]; omega), fun c o e => (upd_ne (ne_of_none e hD)).trans (s2 c o e), ?_⟩
      rw [upd_same, take_one hb, List.map_append, List.map_append]
      have e : decide (V.int (ltI b - hdI b + 1) = V.int ((b.map V.int).length : Nat)) = strB b := by
        unfold strB
        rw [List.length_map]
        exact decide_eq_decide.mpr ⟨fun z => V.int.inj z, fun z => by rw [z]⟩
      show some (HO.lst (_ ++ [V.bl (decide (V.int (ltI b - hdI b + 1) = V.int ((b.map V.int).length : Nat)))])) = _
      rw [e]
      rfl
    · rintro H2 ⟨s2, hD2⟩
      rw [lx, List.take_length] at hD2
      refine ⟨D, _, rfl, SqL.of hD2, ?_⟩
      have e : (p.map strB).all id = stretched p := by
        rw [List.all_map]
        rfl
      rw [e]
      exact kk H2 s2
theorem scHasKind : FnScope ["kind", "parting"] ["kind", "parting"] (defScope sHasKind) := ⟨rfl, rfl, rfl, by decide +kernel, rfl, by decide +kernel, by decide +kernel⟩
theorem ok_hasKind (F : Fun K "has_kind" "has_kind" sHasKind f fd) (DC : Cal P w K mg base 2 "does_cross" (spPB K crosses)) (IS : Cal P w K mg base 1 "is_stretched" (spPB K stretched)) : FnOk P w K mg base CX0 3 f fd ["kind", "parting"] (spHasKind K) := by
  refine F.ok scHasKind (fun vs H Q E h => ?_) (fun cdv A outer s H vs Q E hr h => ?_)
  · obtain ⟨k, v, p, rfl, _⟩ := h
    rfl
  · obtain ⟨k, v, p, rfl, pp, sz, kk⟩ := h
    refine ⟨_, pss_cons (ps_if (pt_cmpR op_eq (pv 0) pe_str (nomark _)) (pss_one (ps_ret (pe_not (pe_n DC hr (by decide) (by rfl) (pa_cons (pv 1) pa_nil))))) pss_nil)
      (pss_one (ps_ret (pe_or (pe_cmpR op_eq (pv 0) pe_str (nomark _)) (pe_one (pe_n IS hr (by decide) (by rfl) (pa_cons (pv 1) pa_nil)))))), ?_⟩
    refine ⟨_, rfl, rfl, _, rfl, ?_⟩
    cases k with
    | free =>
      refine ite2 (fun _ => ?_) (fun c => absurd (decide_eq_true rfl) c)
      exact ⟨_, rfl, v, p, rfl, pp, sz, fun H1 s1 => ⟨_, rfl, kk H1 s1⟩⟩
    | all =>
      refine ite2 (fun c => absurd c (by decide +kernel)) (fun _ => ?_)
      refine ⟨_, rfl, rfl, _, rfl, ?_⟩
      refine ite2 (fun _ => ?_) (fun c => absurd (decide_eq_true rfl) c)
      exact kk H (fun _ _ z => z)
    | str =>
      refine ite2 (fun c => absurd c (by decide +kernel)) (fun _ => ?_)
      refine ⟨_, rfl, rfl, _, rfl, ?_⟩
      refine ite2 (fun c => absurd c (by decide +kernel)) (fun _ => ?_)
      exact ⟨_, rfl, v, p, rfl, pp, sz, fun H1 s1 => kk H1 s1⟩
theorem scWithN : FnScope NWn ["parting", "number"] (defScope sWithN) := ⟨rfl, rfl, rfl, by decide +kernel, rfl, by decide +kernel, by decide +kernel⟩
theorem ok_withN (F : Fun K "with_next" "with_next" sWithN f fd) (en : mg "enumerate" = none) : FnOk P w K mg base CX0 1 f fd ["parting", "number"] (spWithN K) := by
  refine F.ok scWithN (fun vs H Q E h => ?_) (fun cdv A outer s H vs Q E hr h => ?_)
  · obtain ⟨v, p, n, rfl, _⟩ := h
    rfl
  · obtain ⟨v, p, n, rfl, ⟨a, xs, rfl, sx, al⟩, l20, bl, kk⟩ := h
    have lx := al.len
    refine ⟨_, C8.pss_cut (ps_set (i := 2) scWithN.nd rfl (Or.inl rfl) (pe_lst (pa_cons (pe_op op_catA (pv 0) (pe_tup (pa_cons (pe_tup (pa_cons (pv 1) pa_nil)) pa_nil))) pa_nil)))
      (pss_cons (ps_for PassesOwn.never rfl (EnT.pi_enumT (by rfl) en (pa_cons (pv 0) pa_nil)) (pg_tup rfl (pgs_cons (pg_name (i := 3) scWithN.nd rfl (.inl rfl)) (pgs_cons (pg_name (i := 4) scWithN.nd rfl (.inl rfl)) pgs_nil)))
        (pss_one (ps_expr (pe_bm PySem.F.plainAttrs_list PySem.F.slot_list_append PySem.F.type_list_append mt_append (pv 2) (pa_cons (pe_op op_catA (pe_op op_catA (pe_slice sl_tupA (pv 0) po_none (po_some (pv 3))) (pe_tup (pa_cons (pe_op op_catA (pv 4) (pe_tup (pa_cons (pv 1) pa_nil))) pa_nil))) (pe_slice sl_tupA (pv 0) (po_some (pe_op op_add (pv 3) pe_int)) po_none)) pa_nil)))))
      (pss_one (ps_ret (pv 2)))), ?_⟩
    refine ⟨fun σ H1 => ∃ (L : Addr) (z : V), Same H H1 ∧ H L = none ∧ H1 L = some (.lst [z]) ∧ Pt K H1 z (p ++ [[n]]) ∧ σ = [some (.ref a), some (.int n), some (.ref L), none, none], ?_, ?_⟩
    · refine ⟨_, rfl, _, rfl, (by show 1 ≤ sizeLine; decide), fun p1 hp1 => ⟨(by show 1 ≤ sizeLine; decide), fun p2 hp2 => ?_⟩⟩
      have s1 := same_new (o := .tup [.int n]) hp1
      have s2 := same_new (o := .tup [.ref p1]) hp2
      have s12 := s1.trans s2
      refine cat_any (Bs.Same.t s12 sx) (SqT.of upd_same) (Nat.le_of_lt (small1000 (by show _ + 1 ≤ 1000; omega))) (fun c H3 s3 sc => ⟨(by show 1 ≤ sizeLine; decide), fun L hL => ?_⟩)
      have s4 := same_new (o := .lst [.ref c]) hL
      have s34 := s3.trans s4
      refine ⟨L, .ref c, (s12.trans s3).trans s4, (s12.trans s3).free hL, upd_same, ⟨c, _, rfl, Bs.Same.t s4 sc, (alI_mono al (s12.trans s34)).snoc ⟨p1, rfl, ?_⟩⟩, rfl⟩
      exact SqT.of (s34 _ _ (s2 _ _ upd_same))
    rintro σ H1 ⟨L, z, s1, nL, gL, pz, rfl⟩
    refine ⟨_, rfl, a, xs, rfl, Bs.Same.t s1 sx, ?_⟩
    refine for_it walk_enumT (fun i σ H2 => Same H H2 ∧ ∃ acc v3 v4, H2 L = some (.lst acc) ∧ Al (Pt K H2) acc ((p ++ [[n]]) :: (List.range i).map (more p n)) ∧ σ = [some (.ref a), some (.int n), some (.ref L), v3, v4])
      ⟨s1, [z], none, none, gL, .cons pz .nil, rfl⟩ (fun i σ H2 _ q => Bs.Same.t q.1 sx) ?_ ?_
    · rintro i x σ H2 H3 hi ⟨s2, acc, v3, v4, gL2, aa, rfl⟩ ⟨T, x', y', rfl, hT, rfl, h1, h2⟩
      cases h1
      have h2' : xs[i]? = some y' := h2
      obtain ⟨b, hb, ib⟩ := al.get h2'
      have bb := bl b (List.mem_of_getElem? hb)
      obtain ⟨c, rfl, sc⟩ := id ib
      have ii : i < p.length := by omega
      have s3 := same_new (o := .tup [.int (i : Nat), .ref c]) hT
      have s23 := s2.trans s3
      have la := aa.len
      rw [List.length_cons, List.length_map, List.length_range] at la
      refine ⟨T, _, rfl, SqT.of upd_same, rfl, _, _, rfl, _, _, rfl, rfl, ?_⟩
      have gL3 := s3 _ _ gL2
      have aa3 := alP_mono aa s3
      generalize upd H2 T (.tup [.int (i : Nat), .ref c]) = H3 at *
      refine ⟨_, rfl, .inl ⟨rfl, _, SqL.of gL3⟩, _, rfl, _, rfl, (i : Int), rfl, ?_⟩
      refine sl_cut (Bs.Same.t s23 sx) (cut_to (by omega)) fun d1 H4 s4 sd1 => ?_
      have s24 := s23.trans s4
      refine ⟨_, rfl, _, rfl, (by show 1 ≤ sizeLine; decide), fun p5 hp5 => ?_⟩
      have s5 := same_new (o := .tup [.int n]) hp5
      have s25 := s24.trans s5
      refine cat_any (Bs.Same.t s25 sc) (SqT.of upd_same) (Nat.le_of_lt (small1000 (by rw [List.length_map]; show _ + 1 ≤ 1000; omega))) (fun d2 H6 s6 sd2 => ⟨(by show 1 ≤ sizeLine; decide), fun p7 hp7 => ?_⟩)
      have s7 := same_new (o := .tup [.ref d2]) hp7
      have s67 := s6.trans s7
      refine cat_any (Bs.Same.t (s5.trans s67) sd1) (SqT.of upd_same) (Nat.le_of_lt (small1000 (by rw [List.length_take]; show _ + 1 ≤ 1000; omega))) (fun d3 H8 s8 sd3 => ?_)
      have s58 := (s5.trans s67).trans s8
      refine ⟨_, rfl, _, rfl, _, _, rfl, rfl, (i : Int) + 1, rfl, ?_⟩
      unfold tNoPart
      refine sl_cut (ys := xs.drop (i + 1)) (Bs.Same.t (s24.trans s58) sx) (by rw [show (i : Int) + 1 = ((i + 1 : Nat) : Int) by omega]; exact cut_from (by omega)) fun d4 H9 s9 sd4 => ?_
      refine cat_any (Bs.Same.t s9 sd3) sd4 (Nat.le_of_lt (small1000 (by rw [List.length_append, List.length_take, List.length_drop]; show _ + 1 + _ ≤ 1000; omega))) (fun d5 H10 s10 sd5 => ?_)
      have s910 := s9.trans s10
      have s310 := (s4.trans s58).trans s910
      have gL10 := s310 _ _ gL3
      refine ⟨L, acc, _, rfl, rfl, gL10, small1000 (by omega), fun b' o e => (upd_ne (ne_of_none e nL)).trans (s310 b' o (s23 b' o e)), acc ++ [.ref d5], _, _, upd_same, ?_, rfl⟩
      have al10 := alI_mono al (s23.trans s310)
      have i2 : It K H10 (.ref d2) (b ++ [n]) := ⟨d2, rfl, Bs.Same.t (s7.trans (s8.trans s910)) (by rw [List.map_append]; exact sd2)⟩
      have pm : Pt K H10 (.ref d5) (more p n i) := ⟨d5, _, rfl, sd5, by
        unfold more
        rw [getD_some hb]
        exact ((al10.take i).app (.cons i2 .nil)).app (al10.drop (i + 1))⟩
      rw [List.range_succ, List.map_append, ← List.cons_append]
      exact (alP_off (alP_mono aa3 s310) gL10).snoc (pm.off gL10)
    · rintro σ H2 ⟨s2, acc, v3, v4, gL2, aa, rfl⟩
      rw [lx] at aa
      exact ⟨_, rfl, kk H2 L acc s2 nL gL2 aa⟩
end
end Rs


set_option Elab.async false
set_option linter.all false
set_option maxRecDepth 100000
set_option maxHeartbeats 1000000
namespace Pg
/-! ### the order of partings -/
def ltG {α : Type} [DecidableEq α] (lt : α → α → Bool) : List α → List α → Bool
  | [], [] => false
  | [], _ :: _ => true
  | _ :: _, [] => false
  | x :: xs, y :: ys => if x = y then ltG lt xs ys else lt x y
def ltN (x y : Int) : Bool := decide (x < y)
def ltB (a b : Blk) : Bool := ltG ltN a b
def ltW (p q : Prt) : Bool := ltG ltB p q
def leW (p q : Prt) : Bool := !ltW q p
def sortW (ps : List Prt) : List Prt := ps.mergeSort leW
theorem ltG_anti {α : Type} [DecidableEq α] {lt : α → α → Bool} (h : ∀ x y, lt x y = false → lt y x = false → x = y) : ∀ xs ys : List α, ltG lt xs ys = false → ltG lt ys xs = false → xs = ys
  | [], [], _, _ => rfl
  | [], _ :: _, a, _ => by cases a
  | _ :: _, [], _, a => by cases a
  | x :: xs, y :: ys, a, b => by
    unfold ltG at a b
    by_cases e : x = y
    · subst e
      rw [if_pos rfl] at a b
      rw [ltG_anti h xs ys a b]
    · rw [if_neg e] at a
      rw [if_neg (fun z => e z.symm)] at b
      exact absurd (h x y a b) e
theorem ltN_anti (x y : Int) (a : ltN x y = false) (b : ltN y x = false) : x = y := by
  have a' := of_decide_eq_false a
  have b' := of_decide_eq_false b
  omega
theorem leW_anti (p q : Prt) (a : leW p q = true) (b : leW q p = true) : p = q := by
  unfold leW at a b
  rw [Bool.not_eq_true'] at a b
  exact ltG_anti (ltG_anti ltN_anti) p q b a
/-- what is asked of the sizes on the way -/
def szL (k : Kd) (n : Nat) : Bool := (List.range n).all fun m => decide (((partsOf k m).flatMap fun p => withN p m).length ≤ 1000) && (((partsOf k m).flatMap fun p => withN p m).all sizeB && (decide ((partsOf k m).length ≤ 500) && (partsOf k m).all sizeB))
def szAll (k : Kd) (n : Nat) : Bool := szL k n && ((partsOf k n).all sizeB && (decide ((partsOf k n).length ≤ 1000) && (decide ((partsOf k n).length ≤ 1) || (partsOf k n).all fun p => !p.isEmpty)))
theorem szA_free : ∀ n ∈ [0, 1, 2, 3, 4, 5, 6, 7], szAll .free n = true := by decide +kernel
theorem szA_str : ∀ n ∈ [0, 1, 2, 3, 4, 5, 6, 7], szAll .str n = true := by decide +kernel
theorem szA_all : ∀ n ∈ [0, 1, 2, 3, 4, 5], szAll .all n = true := by decide +kernel
end Pg
namespace Rs
open PySem L2 Bs LamX Pg RZ
/-! ### it is the order of the data -/
theorem eqvI_all : ∀ a b : Blk, PyData.eqvAll (a.map PyData.int) (b.map PyData.int) = decide (a = b)
  | [], [] => by simp [PyData.eqvAll]
  | [], _ :: _ => by simp [PyData.eqvAll]
  | _ :: _, [] => by simp [PyData.eqvAll]
  | x :: a, y :: b => by
    rw [List.map_cons, List.map_cons, PyData.eqvAll, eqvI_all a b]
    by_cases e : x = y
    · simp [PyData.eqv, e]
    · simp [PyData.eqv, e]
theorem eqv_dI (a b : Blk) : PyData.eqv (dI a) (dI b) = decide (a = b) := by
  unfold dI
  rw [PyData.eqv, eqvI_all]
theorem row_I : ∀ a b : Blk, PySem.W.rowLt (a.map PyData.int) (b.map PyData.int) = ltB a b
  | [], [] => by
    have e : PySem.W.rowLt [] [] = false := PyProof.Rows.lex_irrefl _
    exact e
  | [], y :: ys => by
    rw [show ([] : List Int).map PyData.int = [] from rfl]
    have := PySem.W.dataLt_ints [] (y :: ys)
    rw [show ([] : List Int).map PyData.int = [] from rfl] at this
    rw [this]
    simp [ltB, ltG]
  | x :: xs, [] => by
    have := PySem.W.dataLt_ints (x :: xs) []
    rw [this]
    simp [ltB, ltG]
  | x :: xs, y :: ys => by
    have e : PySem.W.rowLt (PyData.int x :: xs.map .int) (PyData.int y :: ys.map .int) = if x = y then PySem.W.rowLt (xs.map .int) (ys.map .int) else decide (x < y) := by
      unfold PySem.W.rowLt
      rw [PySem.W.dataLt_cons (by simp [PySem.W.alike]), PySem.W.dataLt_int]
      simp only [PyData.eqv, beq_iff_eq]
    rw [List.map_cons, List.map_cons, e, row_I xs ys]
    rfl
theorem lt_dI (a b : Blk) : PySem.W.dataLt (dI a) (dI b) = ltB a b := by
  unfold dI
  rw [PySem.W.dataLt_tuple]
  exact row_I a b
theorem alike_dI (a b : Blk) : PySem.W.alike (dI a) (dI b) = true := by
  unfold dI
  rw [PySem.W.alike]
  exact PySem.W.alike_ints a b
theorem row_W : ∀ p q : Prt, PySem.W.rowLt (p.map dI) (q.map dI) = ltW p q
  | [], [] => by
    have e : PySem.W.rowLt [] [] = false := PyProof.Rows.lex_irrefl _
    exact e
  | [], b :: q => by
    unfold PySem.W.rowLt
    rw [List.map_cons, PySem.W.toks_all_cons]
    unfold dI
    simp only [PySem.W.keyToksAll, PySem.W.keyToks, List.map_nil]
    rfl
  | a :: p, [] => by
    unfold PySem.W.rowLt
    rw [List.map_cons, PySem.W.toks_all_cons]
    unfold dI
    simp only [PySem.W.keyToksAll, PySem.W.keyToks, List.map_nil]
    rfl
  | a :: p, b :: q => by
    have e : PySem.W.rowLt (dI a :: p.map dI) (dI b :: q.map dI) = if a = b then PySem.W.rowLt (p.map dI) (q.map dI) else ltB a b := by
      unfold PySem.W.rowLt
      rw [PySem.W.dataLt_cons (alike_dI a b), lt_dI, eqv_dI]
      simp only [decide_eq_true_eq]
    rw [List.map_cons, List.map_cons, e, row_W p q]
    rfl
theorem lt_dW (p q : Prt) : PySem.W.dataLt (dW p) (dW q) = ltW p q := by
  unfold dW
  rw [PySem.W.dataLt_tuple]
  exact row_W p q
theorem alikeAll_dI : ∀ p q : Prt, PySem.W.alikeAll (p.map dI) (q.map dI) = true
  | [], _ => by simp [PySem.W.alikeAll]
  | _ :: _, [] => by simp [PySem.W.alikeAll]
  | a :: p, b :: q => by
    rw [List.map_cons, List.map_cons, PySem.W.alikeAll, alikeAll_dI p q, alike_dI]
    rfl
theorem alike_dW (p q : Prt) : PySem.W.alike (dW p) (dW q) = true := by
  unfold dW
  rw [PySem.W.alike]
  exact alikeAll_dI p q
theorem le_dW : PySem.W.dataLe false dW = leW := by
  funext p q
  show (!PySem.W.dataLt (dW q) (dW p)) = _
  rw [lt_dW]
  rfl
theorem lt_toks (p q : Prt) : ltW p q = PyProof.Rows.lexLt PyProof.Rows.itemOrd (PySem.W.keyToks (dW p)) (PySem.W.keyToks (dW q)) := (lt_dW p q).symm
theorem ltW_trans (p q r : Prt) (a : ltW p q = true) (b : ltW q r = true) : ltW p r = true := by
  rw [lt_toks] at *
  exact PyProof.Rows.lex_trans _ _ _ a b
theorem ltW_irrefl (p : Prt) : ltW p p = false := by
  rw [lt_toks]
  exact PyProof.Rows.lex_irrefl _
theorem ltW_neg (p q r : Prt) (a : ltW p r = true) : ltW p q = true ∨ ltW q r = true := by
  rw [lt_toks] at *
  rw [lt_toks]
  exact PyProof.Rows.lex_negTrans _ _ _ a
theorem leW_total (p q : Prt) : (leW p q || leW q p) = true := by
  unfold leW
  cases h : ltW q p with
  | false => rfl
  | true =>
    cases g : ltW p q with
    | false => rfl
    | true =>
      have := ltW_trans p q p g h
      rw [ltW_irrefl] at this
      cases this
theorem leW_trans (p q r : Prt) (a : leW p q = true) (b : leW q r = true) : leW p r = true := by
  unfold leW at *
  cases h : ltW r p with
  | false => rfl
  | true =>
    rcases ltW_neg r q p h with z | z
    · rw [z] at b; cases b
    · rw [z] at a; cases a
theorem sortW_srt (ps : List Prt) : (sortW ps).Pairwise fun p q => leW p q = true := List.pairwise_mergeSort leW_trans leW_total ps
theorem sortW_perm (ps : List Prt) : (sortW ps).Perm ps := List.mergeSort_perm ps leW
theorem srt_uniq {l m : List Prt} (hl : l.Pairwise fun p q => leW p q = true) (hm : m.Pairwise fun p q => leW p q = true) (h : l.Perm m) : l = m := h.eq_of_pairwise (fun p q _ _ a b => leW_anti p q a b) hl hm
theorem sort_kind {n : Nat} {k : Kd} (hn : n ≤ 5) : sortW (partsOf k n) = (sortW (lawRows n)).filter (lawKind k) := by
  refine srt_uniq (sortW_srt _) ((sortW_srt _).filter _) ?_
  have hm : n ∈ [0, 1, 2, 3, 4, 5] := by simp; omega
  have hk : k ∈ kds := by cases k <;> decide
  have := List.isPerm_iff.mp (all_perm n hm k hk)
  exact ((sortW_perm _).trans this.symm).trans ((sortW_perm _).symm.filter _)
theorem sort_str3 : sortW (partsOf .str 3) = [[[0], [1], [2]], [[0], [1, 2]], [[0, 1], [2]], [[0, 1, 2]]] := by
  refine srt_uniq (sortW_srt _) (by decide +kernel) ((sortW_perm _).trans (List.isPerm_iff.mp (by decide +kernel)))
end Rs


set_option Elab.async false
set_option linter.all false
set_option maxRecDepth 100000
set_option maxHeartbeats 1000000
namespace Rs
open PySem L2 Bs LamX Pg RZ
def rSortedW (K : PySem.W.Frag) : List V → Hp → VK → Prop := fun vs H Q => ∃ (a : Addr) (xs : List V) (ps : List Prt), vs = [V.ref a] ∧ SqL K H a xs ∧ Al (Pt K H) xs ps ∧ (ps.length ≤ 1 ∨ ∀ p ∈ ps, p.isEmpty = false) ∧
  ∀ ys L, Al (Pt K H) ys (sortW ps) → H L = none → Q (.ref L) (upd H L (.lst ys))
theorem depth_all0 : ∀ w : List Int, PyData.depthAll (w.map PyData.int) = 0 := PySem.W.depth_ints
theorem depth_dI (w : List Int) : (dI w).depth = 1 := by
  unfold dI
  simp [PyData.depth, depth_all0]
theorem depth_dWs : ∀ p : Prt, PyData.depthAll (p.map dI) ≤ 1
  | [] => by simp [PyData.depthAll]
  | b :: p => by
    have := depth_dWs p
    have h := depth_dI b
    simp only [List.map_cons, PyData.depthAll]
    omega
theorem depth_dW (p : Prt) : (dW p).depth ≤ 2 := by
  have := depth_dWs p
  unfold dW
  simp only [PyData.depth]
  omega
def RP (K : PySem.W.Frag) (H : Hp) (u : Value) (p : Prt) : Prop := ∃ a, u = Value.ref a ∧ Pt K H (.ref a) p
theorem each_rp {K : PySem.W.Frag} {H : Hp} : ∀ {xs : List V} {us : List Value} {ps : List Prt}, Vals xs us → Al (Pt K H) xs ps → PySem.W.EachIs (RP K H) us ps
  | _, _, _, .nil, .nil => .nil
  | _, _, _, .cons r t, .cons h al => by
    obtain ⟨a, vs, rfl, s, i⟩ := h
    cases r
    exact .cons ⟨a, rfl, a, vs, rfl, s, i⟩ (each_rp t al)
theorem each_back {K : PySem.W.Frag} {H : Hp} : ∀ {us : List Value} {ps : List Prt}, PySem.W.EachIs (RP K H) us ps → Al (Pt K H) (us.map backV) ps ∧ ∀ u ∈ us, ∃ a, u = Value.ref a
  | _, _, .nil => ⟨.nil, fun u hu => absurd hu (by simp)⟩
  | _, _, .cons ⟨a, e, h⟩ t => by
    subst e
    obtain ⟨t1, t2⟩ := each_back t
    refine ⟨.cons h t1, fun u hu => ?_⟩
    rcases List.mem_cons.mp hu with e | hu
    · exact ⟨a, e⟩
    · exact t2 u hu
section
variable {X : Cx}
theorem cr_sortedW (hu : X.A.units + 64 < cLine) : CallR X (.builtin "sorted") (rSortedW X.K) := by
  intro pins s σ H vs us Q I r h
  obtain ⟨a, xs, ps, rfl, hs, al, sz, q⟩ := h
  obtain ⟨its, rv, hl, hz⟩ := I.list hs
  rw [Vals.ref1 r]
  have er := each_rp rv al
  have ln : ps.length ≤ sizeLine := by rw [← al.len]; exact hz
  have fin : ∀ out : List Value, PySem.W.EachIs (RP X.K H) out (sortW ps) → EP X pins σ Q (.ref (s.heap.objs.size + 1)) { s with heap := PyProof.Rows.sortedAll s.heap its out.toArray } := fun out eo => by
    obtain ⟨k1, k2⟩ := each_back eo
    obtain ⟨ep, he'⟩ := PyProof.Rows.sortedAll_at s.heap its out.toArray
    have hlen : (out.map backV).length ≤ sizeLine := by
      rw [k1.len, (sortW_perm ps).length_eq]
      exact ln
    exact ⟨.ref _, upd H (s.heap.objs.size + 1) (.lst (out.map backV)), I.laid (t' := s.toks) (fun _ _ => PyProof.Rows.sortedAll_old) (Nat.le_succ _) ⟨hlen, out, ep, vals_back k2, he'⟩, rfl, q _ _ k1 (I.hok.fresh (Nat.le_succ _))⟩
  rcases sz with sz | sz
  · have lu : its.length ≤ 1 := by rw [er.length]; exact sz
    refine SrtO.sorted_ord (ltv := fun _ _ => false) ⟨fun _ _ _ => rfl, fun _ _ _ _ _ => rfl⟩ hl.isList (by rw [← rv.length]; exact hz) (fun h2 => absurd h2 (by omega)) fun out h1 h2 => ?_
    have eo : out = its := by
      match its, lu with
      | [], _ => exact h2.perm.eq_nil
      | [u], _ => exact List.perm_singleton.mp h2.perm
      | _ :: _ :: _, c => exact absurd c (by simp)
    have es : sortW ps = ps := by
      match ps, sz with
      | [], _ => exact List.mergeSort_nil
      | [p], _ => exact List.mergeSort_singleton _
      | _ :: _ :: _, c => exact absurd c (by simp)
    subst eo
    exact fin out (by rw [es]; exact er)
  · have hr : PySem.W.EachIs (fun v b => ∃ as, PySem.Reads s.heap v (dW b) as) its ps := er.mono fun u p z => by
      obtain ⟨b, e, h⟩ := z
      subst e
      exact Dp.reads I _ _ _ h.dp rfl
    have hk : PySem.W.Sortable (ps.map dW) := .inl fun d hd => by
      obtain ⟨p, hp, rfl⟩ := List.mem_map.mp hd
      have := sz p hp
      cases p with
      | nil => cases this
      | cons b p => exact ⟨_, _, rfl⟩
    refine PySem.W.sorted_data (enc := dW) hl.isList er hr (.of alike_dW) hk ln (fun p _ => ?_) fun out _ eo => ?_
    · have := depth_dW p
      omega
    · rw [le_dW] at eo
      exact fin out eo
end
end Rs


set_option Elab.async false
set_option linter.all false
set_option maxRecDepth 100000
set_option maxHeartbeats 1000000
namespace Rs
open PySem L2 Bs LamX Pg RZ
def spPartsOf (K : PySem.W.Frag) : Sp := fun vs H Q _ => ∃ (k : Kd) (m : Nat), vs = [.str (kdS k), .int (m : Nat)] ∧ szAll k m = true ∧ m ≤ 7 ∧ ∀ H' L ys, Same H H' → SqT K H' L ys → Al (Pt K H') ys (sortW (partsOf k m)) → Q (.ref L) H'
abbrev NPo : List Str := ["kind", "many", "found", "number", "longer", "shorter", "parting"]
theorem szl_at {k : Kd} {n m : Nat} (h : szL k n = true) (hm : m < n) : ((partsOf k m).flatMap fun p => withN p m).length ≤ 1000 ∧ (∀ p ∈ (partsOf k m).flatMap (fun p => withN p m), sizeB p = true) ∧ (partsOf k m).length ≤ 500 ∧ ∀ p ∈ partsOf k m, sizeB p = true := by
  unfold szL at h
  have := List.all_eq_true.mp h m (List.mem_range.mpr hm)
  rw [Bool.and_eq_true, Bool.and_eq_true, Bool.and_eq_true, decide_eq_true_eq, decide_eq_true_eq, List.all_eq_true, List.all_eq_true] at this
  exact ⟨this.1, this.2.1, this.2.2.1, this.2.2.2⟩
theorem sza_at {k : Kd} {n : Nat} (h : szAll k n = true) : szL k n = true ∧ (∀ p ∈ partsOf k n, sizeB p = true) ∧ (partsOf k n).length ≤ 1000 ∧ ((partsOf k n).length ≤ 1 ∨ ∀ p ∈ partsOf k n, p.isEmpty = false) := by
  unfold szAll at h
  rw [Bool.and_eq_true, Bool.and_eq_true, Bool.and_eq_true, decide_eq_true_eq, Bool.or_eq_true, decide_eq_true_eq, List.all_eq_true, List.all_eq_true] at h
  refine ⟨h.1, h.2.1, h.2.2.1, h.2.2.2.imp id fun z p hp => ?_⟩
  have := z p hp
  rw [Bool.not_eq_true'] at this
  exact this
theorem flat_one {α β : Type} {f : α → List β} {l : List α} {i : Nat} {x : α} (h : l[i]? = some x) : (l.take (i + 1)).flatMap f = (l.take i).flatMap f ++ f x := by
  rw [take_one h, List.flatMap_append]
  simp
theorem flat_take_len {α β : Type} {f : α → List β} (l : List α) (j : Nat) : ((l.take j).flatMap f).length ≤ (l.flatMap f).length := by
  conv => rhs; rw [← List.take_append_drop j l, List.flatMap_append, List.length_append]
  omega
section
variable {P : Program} {w : World} {K : PySem.W.Frag} {mg : Str → Option Value} {base : Heap} {f : Addr} {fd : FuncData}
theorem scPartsOf : FnScope NPo ["kind", "many"] (defScope sPartsOf) := ⟨rfl, rfl, rfl, by decide +kernel, rfl, by decide +kernel, by decide +kernel⟩
theorem ok_partsOf (F : Fun K "partings_of" "partings_of" sPartsOf f fd) (T : Blt mg) (so : mg "sorted" = none) (WN : Cal P w K mg base 1 "with_next" (spWithN K)) (HK : Cal P w K mg base 3 "has_kind" (spHasKind K)) : FnOk P w K mg base CX0 4 f fd ["kind", "many"] (spPartsOf K) := by
  refine F.ok scPartsOf (fun vs H Q E h => ?_) (fun cdv A outer s H vs Q E hr h => ?_)
  · obtain ⟨k, m, rfl, _⟩ := h
    rfl
  · obtain ⟨k, m, rfl, sz, m7, kk⟩ := h
    obtain ⟨zl, z1, z2, z3⟩ := sza_at sz
    refine ⟨_, pss_cons (ps_set (i := 2) scPartsOf.nd rfl (Or.inl rfl) (pe_lst (pa_cons (pe_tup pa_nil) pa_nil)))
      (C8.pss_cut (ps_for PassesOwn.never rfl (pi_range1 rfl T.range (pa_cons (pv 1) pa_nil)) (pg_name (i := 3) scPartsOf.nd rfl (Or.inr rfl))
        (C8.pss_cut (ps_setLc2 (i := 4) (own := [("shorter", 5), ("parting", 6)]) (vs1 := [6]) (g := gName 5) (tt := tYes) (g1 := gName 6) (tt1 := tYes) (wi1 := iList K (tCall (spWithN K) [] E0 (tCons (tVar 5) (tCons (tVar 3) tNil)))) (te := tVar 6) (by rfl) scPartsOf.nd rfl rfl (sw_true rfl rfl rfl (by decide +kernel)) (pi_list (pv 2)) (blkOk_by (N := NPo) (sc := defScope sPartsOf) (by decide +kernel)) (by decide)
          (fun _ _ _ _ _ => pg_name (i := 5) scPartsOf.nd rfl (Or.inl rfl)) (fun _ _ _ _ _ => pts_nil)
          (fun _ _ _ _ _ => pi_list (pe_n WN hr (by decide) (by rfl) (pa_cons (pv 5) (pa_cons (pv 3) pa_nil))))
          (fun _ _ _ _ _ => pg_name (i := 6) scPartsOf.nd rfl (Or.inl rfl)) (fun _ _ _ _ _ => pts_nil)
          (fun _ _ _ _ _ => pv 6))
        (pss_one (ps_setLc (i := 2) (own := [("parting", 6)]) (g := gName 6) (by rfl) scPartsOf.nd rfl rfl (sw_true rfl rfl rfl (by decide +kernel)) (pi_list (pv 4)) (blkOk_by (N := NPo) (sc := defScope sPartsOf) (by decide +kernel))
          (fun _ _ _ _ _ => pg_name (i := 6) scPartsOf.nd rfl (Or.inl rfl)) (fun _ _ _ _ _ => pts_one (pt_val (pe_n HK hr (by decide) (by rfl) (pa_cons (pv 0) (pa_cons (pv 6) pa_nil)))))
          (fun _ _ _ _ _ => pv 6)))))
      (pss_one (ps_ret (pe_callTy call_tuple_of (by rfl) T.tuple (by decide +kernel) (pa_cons (pe_callB (cr_sortedW hr.units) (by rfl) so (by decide +kernel) (pa_cons (pv 2) pa_nil)) pa_nil))))), ?_⟩
    refine ⟨(by show 0 ≤ sizeLine; decide), fun p0 hp0 => ⟨(by show 1 ≤ sizeLine; decide), fun L0 hL0 => ?_⟩⟩
    have t1 := same_new (o := .tup []) hp0
    have t2 := same_new (o := .lst [.ref p0]) hL0
    have t12 := t1.trans t2
    have pt0 : Al (Pt K (upd (upd H p0 (.tup [])) L0 (.lst [.ref p0]))) [V.ref p0] (partsOf k 0) := .cons ⟨p0, [], rfl, Bs.Same.t t2 (SqT.of upd_same), .nil⟩ .nil
    have gL0 : upd (upd H p0 (.tup [])) L0 (.lst [V.ref p0]) L0 = some (.lst [V.ref p0]) := upd_same
    generalize upd (upd H p0 (.tup [])) L0 (.lst [V.ref p0]) = H0 at *
    refine ⟨fun σ H1 => ∃ L acc v3 v4, Same H H1 ∧ H1 L = some (.lst acc) ∧ Al (Pt K H1) acc (partsOf k m) ∧ σ = [some (.str (kdS k)), some (.int (m : Nat)), some (.ref L), v3, v4, none, none], ?_, ?_⟩
    · refine ⟨_, rfl, _, rfl, by omega, by omega, for_range (n := ((m : Nat) : Int).toNat) (fun i σ H1 => ∃ L acc v3 v4, Same H H1 ∧ H1 L = some (.lst acc) ∧ Al (Pt K H1) acc (partsOf k i) ∧ σ = [some (.str (kdS k)), some (.int (m : Nat)), some (.ref L), v3, v4, none, none])
        ⟨L0, _, none, none, t12, gL0, pt0, rfl⟩ ?_ ?_⟩
      · rintro i σ H1 hi ⟨L, acc, v3, v4, s1, gL, al, rfl⟩
        have im : i < m := by omega
        obtain ⟨y1, y2, y3, y4⟩ := szl_at zl im
        rw [Int.zero_add]
        refine ⟨fun σ H2 => ∃ L2 bcc, Same H H2 ∧ H2 L2 = some (.lst bcc) ∧ Al (Pt K H2) bcc ((partsOf k i).flatMap fun p => withN p i) ∧ σ = [some (.str (kdS k)), some (.int (m : Nat)), some (.ref L), some (.int (i : Nat)), some (.ref L2), none, none], ?_, ?_⟩
        · refine ⟨_, rfl, L, rfl, ⟨_, SqL.of gL⟩, fun D hD => ?_⟩
          refine lc2_out (walk_list (K := K) (a := L) (xs := acc)) (fun j H2 => Same H1 H2 ∧ ∃ bcc, H2 D = some (.lst bcc) ∧ Al (Pt K H2) bcc (((partsOf k i).take j).flatMap fun p => withN p i)) ⟨same_new hD, [], upd_same, .nil⟩ (fun j H2 _ q => SqL.of (q.1 _ _ gL)) ?_ ?_
          · rintro j x H2' H2 hj ⟨s2, bcc, hD2, ga⟩ ⟨e2, hx⟩
            subst e2
            obtain ⟨p, hp, ip⟩ := al.get hx
            have zp := size_blk (y4 p (List.mem_of_getElem? hp))
            have fl := flat_one (f := fun p => withN p (i : Int)) hp
            have ln := flat_take_len (f := fun p => withN p (i : Int)) (partsOf k i) (j + 1)
            rw [fl, List.length_append] at ln
            refine ⟨rfl, ?_⟩
            refine iteT (B := Same H1 H2 ∧ ∃ bcc, H2 D = some (.lst bcc) ∧ Al (Pt K H2) bcc (((partsOf k i).take (j + 1)).flatMap fun p => withN p i)) ?_
            refine ⟨_, rfl, _, rfl, x, p, (i : Nat), rfl, ip.mono s2, by omega, fun b hb => by have := zp.2 b hb; omega, fun H3 L3 xs3 s3 n3 g3 al3 => ⟨L3, rfl, ⟨_, SqL.of g3⟩, ?_⟩⟩
            have hD3 := s3 _ _ hD2
            have nD : L3 ≠ D := fun e => by
              rw [e, hD2] at n3
              cases n3
            refine lc2_in (walk_list (K := K) (a := L3) (xs := xs3)) (fun l H4 => Same H1 H4 ∧ H4 L3 = some (.lst xs3) ∧ Al (Pt K H4) xs3 (withN p i) ∧ ∃ acc, H4 D = some (.lst acc) ∧ Al (Pt K H4) acc (((partsOf k i).take j).flatMap (fun p => withN p i) ++ (withN p i).take l)) ⟨s2.trans s3, g3, al3, bcc, hD3, by rw [List.take_zero, List.append_nil]; exact alP_mono ga s3⟩ (fun l H4 _ q => SqL.of q.2.1) ?_ ?_
            · rintro l y H4' H4 hl ⟨s4, g4, a4, acc4, hD4, ga4⟩ ⟨e4, hy⟩
              subst e4
              obtain ⟨q, hq, iq⟩ := a4.get hy
              have la := ga4.len
              rw [List.length_append, List.length_take] at la
              refine ⟨rfl, ?_⟩
              refine iteT (B := Same H1 H4 ∧ H4 L3 = some (.lst xs3) ∧ Al (Pt K H4) xs3 (withN p i) ∧ ∃ acc, H4 D = some (.lst acc) ∧ Al (Pt K H4) acc (((partsOf k i).take j).flatMap (fun p => withN p i) ++ (withN p i).take (l + 1))) ?_
              refine ⟨_, rfl, acc4, hD4, small1000 (by omega), fun c o e => (upd_ne (ne_of_none e hD)).trans (s4 c o e), (upd_ne nD).trans g4, alP_off a4 hD4, acc4 ++ [y], upd_same, ?_⟩
              rw [take_one hq, ← List.append_assoc]
              exact (alP_off ga4 hD4).snoc (iq.off hD4)
            · rintro H4 ⟨s4, g4, a4, acc4, hD4, ga4⟩
              rw [al3.len, List.take_length, ← fl] at ga4
              exact ⟨s4, acc4, hD4, ga4⟩
          · rintro H2 ⟨s2, bcc, hD2, ga⟩
            rw [al.len, List.take_length] at ga
            exact ⟨D, bcc, s1.trans s2, hD2, ga, rfl⟩
        rintro σ H2 ⟨L2, bcc, s2, gL2, ga, rfl⟩
        have lb := ga.len
        refine ⟨_, rfl, L2, rfl, ⟨_, SqL.of gL2⟩, fun D hD => ?_⟩
        refine lc_list (K := K) (a := L2) (xs := bcc) (fun j H3 => Same H2 H3 ∧ ∃ cc, H3 D = some (.lst cc) ∧ Al (Pt K H3) cc ((((partsOf k i).flatMap fun p => withN p i).take j).filter (hasK k))) ⟨same_new hD, [], upd_same, .nil⟩ (fun j H3 _ q => SqL.of (q.1 _ _ gL2)) ?_ ?_
        · rintro j x H3 hx ⟨s3, cc, hD3, gc⟩
          obtain ⟨q, hq, iq⟩ := ga.get hx
          have lc := gc.len
          have lf := List.length_filter_le (hasK k) (((partsOf k i).flatMap fun p => withN p i).take j)
          have lt := List.length_take_le' j ((partsOf k i).flatMap fun p => withN p i)
          refine ⟨rfl, ?_⟩
          refine ⟨_, rfl, _, rfl, k, x, q, rfl, iq.mono s3, y2 q (List.mem_of_getElem? hq), fun H4 s4 => ?_⟩
          refine ⟨_, rfl, ?_⟩
          have e := take_one hq
          refine ite2 (fun c => ?_) (fun c => ?_)
          · refine ⟨_, rfl, cc, s4 _ _ hD3, small1000 (by omega), fun c o e => (upd_ne (ne_of_none e hD)).trans (s4 c o (s3 c o e)), cc ++ [x], upd_same, ?_⟩
            rw [e, List.filter_append, List.filter_cons_of_pos c]
            exact (alP_off (alP_mono gc s4) (s4 _ _ hD3)).snoc ((iq.mono (s3.trans s4)).off (s4 _ _ hD3))
          · refine ⟨s3.trans s4, cc, s4 _ _ hD3, ?_⟩
            rw [e, List.filter_append, List.filter_cons_of_neg c]
            show Al _ _ (_ ++ [])
            rw [List.append_nil]
            exact alP_mono gc s4
        · rintro H3 ⟨s3, cc, hD3, gc⟩
          rw [lb, List.take_length] at gc
          exact ⟨D, cc, _, _, s2.trans s3, hD3, gc, rfl⟩
      · rintro σ H1 ⟨L, acc, v3, v4, s1, gL, al, rfl⟩
        exact ⟨L, acc, v3, v4, s1, gL, al, rfl⟩
    rintro σ H1 ⟨L, acc, v3, v4, s1, gL, al, rfl⟩
    refine ⟨_, rfl, L, acc, partsOf k m, rfl, SqL.of gL, al, z3, fun ys p2 ai hp2 => ⟨p2, ys, rfl, .inl ⟨SqL.of upd_same, fun l hl => ?_⟩⟩⟩
    have s2 := same_new (o := .lst ys) hp2
    have s3 := same_new (o := .tup ys) hl
    exact kk _ l ys ((s1.trans s2).trans s3) (SqT.of upd_same) (alP_mono ai (s2.trans s3))
end
end Rs


set_option Elab.async false
set_option linter.all false
set_option maxRecDepth 100000
set_option maxHeartbeats 1000000
namespace Rs
open PySem L2 Bs LamX Pg RZ
def spNeedB0 (K : PySem.W.Frag) : Sp := fun vs H Q _ => ∃ (v : V) (d : PyData) (lo hi : Int), vs = [v, .int lo, .int hi] ∧ Dp K H v d ∧ betwD lo hi d = true ∧ Q v H
def spIsPart (K : PySem.W.Frag) : Sp := fun vs H Q _ => ∃ (v : V) (p : Prt), vs = [v] ∧ Pt K H v p ∧ validB p = true ∧ sizeB p = true ∧ ∀ H', Same H H' → Q (.bl true) H'
def spNeedPart (K : PySem.W.Frag) : Sp := fun vs H Q _ => ∃ (v : V) (p : Prt), vs = [v] ∧ Pt K H v p ∧ validB p = true ∧ sizeB p = true ∧ ∀ H', Same H H' → Q v H'
abbrev NIp : List Str := ["thing", "numbers", "block", "one", "other", "number"]
theorem any_falseR (n : Nat) : (List.replicate n false).any id = false := by
  rw [List.any_eq_false]
  intro x hx
  rw [(List.mem_replicate.mp hx).2]
  decide
theorem zip_get {α : Type} {b : List α} {i : Nat} {t u : α} (h1 : b[i]? = some t) (h2 : b[i + 1]? = some u) : (b.zip b.tail)[i]? = some (t, u) := by
  rw [List.getElem?_zip_eq_some]
  refine ⟨h1, ?_⟩
  rw [List.getElem?_tail]
  exact h2
theorem flatten_one {α : Type} {l : List (List α)} {i : Nat} {x : List α} (h : l[i]? = some x) : (l.take (i + 1)).flatten = (l.take i).flatten ++ x := by
  rw [take_one h, List.flatten_append]
  simp
theorem flatten_len {p : Prt} (h : ∀ b ∈ p, b.length ≤ 8) : p.flatten.length ≤ 8 * p.length := by
  induction p with
  | nil => exact Nat.zero_le _
  | cons b p ih =>
    rw [List.flatten_cons, List.length_append, List.length_cons]
    have h1 := h b List.mem_cons_self
    have := ih fun c hc => h c (List.mem_cons_of_mem _ hc)
    omega
theorem ints_uniq {l m : List Int} (hl : l.Pairwise (· ≤ ·)) (hm : m.Pairwise (· ≤ ·)) (h : l.Perm m) : l = m := h.eq_of_pairwise (fun p q _ _ a b => Int.le_antisymm a b) hl hm
theorem ints_srt (n : Nat) : ((List.range n).map fun i : Nat => (i : Int)).Pairwise (· ≤ ·) := by
  rw [List.pairwise_map]
  exact List.pairwise_lt_range.imp fun {a b} h => by omega
section
variable {P : Program} {w : World} {K : PySem.W.Frag} {mg : Str → Option Value} {base : Heap} {f : Addr} {fd : FuncData}
theorem ok_needB0 (F : Fun K "need_between" "need_between" sNeedB f fd) (W : Cal P w K mg base 2 "is_between" (spBetween K)) : FnOk P w K mg base CX0 3 f fd ["thing", "low", "high"] (spNeedB0 K) := by
  refine F.ok sc19 (fun vs H Q E h => ?_) (fun cdv A outer s H vs Q E hr h => ?_)
  · obtain ⟨v, d, lo, hi, rfl, _⟩ := h
    rfl
  · obtain ⟨v, d, lo, hi, rfl, hd, bt, k1⟩ := h
    refine ⟨_, pss_cons (ps_if (pt_not (pt_val (pe_n W hr (by decide) (by rfl) (pa_cons (pv 0) (pa_cons (pv 1) (pa_cons (pv 2) pa_nil)))))) (pss_one ps_never) pss_nil) (pss_one (ps_ret (pv 0))), ?_⟩
    refine ⟨_, rfl, _, rfl, _, rfl, v, d, lo, hi, rfl, hd, _, rfl, ?_⟩
    rw [bt]
    exact iteF ⟨_, rfl, k1⟩
theorem scIsPart : FnScope NIp ["thing"] (defScope sIsPart) := ⟨rfl, rfl, rfl, by decide +kernel, rfl, by decide +kernel, by decide +kernel⟩
theorem ok_isPart (F : Fun K "is_parting" "is_parting" sIsPart f fd) (T : Blt mg) (al : mg "all" = none) (an : mg "any" = none) (zp : mg "zip" = none) (so : mg "sorted" = none) (IB : Cal P w K mg base 3 "is_block" (spIsBlk K)) : FnOk P w K mg base CX0 4 f fd ["thing"] (spIsPart K) := by
  refine F.ok scIsPart (fun vs H Q E h => ?_) (fun cdv A outer s H vs Q E hr h => ?_)
  · obtain ⟨v, p, rfl, _⟩ := h
    rfl
  · obtain ⟨v, p, rfl, pv_, vb, sz, kk⟩ := h
    refine ⟨_, C8.pss_cut (ps_if (PW.pt (pw_or (pt_not (pt_val (pe_callB call_isi (by rfl) T.isinstance (by decide +kernel) (pa_cons (pv 0) (pa_cons (pe_bltn (v := .ty "tuple") (by rfl) T.tuple (by decide +kernel) rfl) pa_nil)))))
        (pw_or1 (pt_not (pt_val (pe_callB (cr_all rfl) (by rfl) al (by decide +kernel) (pa_cons (pe_lc (own := [("block", 2)]) (g := gName 2) (tt := tYes) rfl scIsPart.nd (pi_tup (pv 0)) (blkOk_by (N := NIp) (sc := defScope sIsPart) (by decide +kernel))
          (fun _ _ _ _ _ => pg_name (i := 2) scIsPart.nd rfl (Or.inl rfl)) (fun _ _ _ _ _ => pts_nil)
          (fun _ _ _ _ _ => pe_n IB hr (by decide) (by rfl) (pa_cons (pv 2) pa_nil))) pa_nil))))))) (pss_one (ps_ret pe_bl)) pss_nil)
      (C8.pss_cut (ps_if (pt_val (pe_callB (cr_any rfl) (by rfl) an (by decide +kernel) (pa_cons (pe_lc (own := [("one", 3), ("other", 4)]) (g := gTup K 2 (gCons (gName 3) (gCons (gName 4) gNil))) (tt := tYes) rfl scIsPart.nd
          (pi_zipA (by rfl) zp (pa_cons (pv 0) (pa_cons (pe_slice sl_tupA (pv 0) (po_some pe_int) po_none) pa_nil))) (blkOk_by (N := NIp) (sc := defScope sIsPart) (by decide +kernel))
          (fun _ _ _ _ _ => pg_tup rfl (pgs_cons (pg_name (i := 3) scIsPart.nd rfl (Or.inl rfl)) (pgs_cons (pg_name (i := 4) scIsPart.nd rfl (Or.inl rfl)) pgs_nil))) (fun _ _ _ _ _ => pts_nil)
          (fun _ _ _ _ _ => pe_cmpR op_ge (pe_ix (r := rIxT K) ix_tup (pv 3) pe_int (fun _ _ => rfl)) (pe_ix (r := rIxT K) ix_tup (pv 4) pe_int (fun _ _ => rfl)) (nomark _))) pa_nil))) (pss_one (ps_ret pe_bl)) pss_nil)
      (C8.pss_cut (ps_set (i := 1) scIsPart.nd rfl (Or.inl rfl) (pe_callB cr_sortedI (by rfl) so (by decide +kernel) (pa_cons (pe_lc2 (own := [("block", 2), ("number", 5)]) (vs1 := [5]) (g := gName 2) (tt := tYes) (wi1 := iTup K (tVar 2)) (g1 := gName 5) (tt1 := tYes) rfl scIsPart.nd (pi_tup (pv 0)) (blkOk_by (N := NIp) (sc := defScope sIsPart) (by decide +kernel)) (by decide)
          (fun _ _ _ _ _ => pg_name (i := 2) scIsPart.nd rfl (Or.inl rfl)) (fun _ _ _ _ _ => pts_nil)
          (fun _ _ _ _ _ => pi_tup (pv 2))
          (fun _ _ _ _ _ => pg_name (i := 5) scIsPart.nd rfl (Or.inl rfl)) (fun _ _ _ _ _ => pts_nil)
          (fun _ _ _ _ _ => pv 5)) pa_nil)))
      (pss_one (ps_ret (pe_cmpR (op_eqD hr.units) (pv 1) (pe_listRg rfl (by rfl) T.list (prg_1 (by rfl) T.range (pe_callB call_len_seq (by rfl) T.len (by decide +kernel) (pa_cons (pv 1) pa_nil)))) (nomark _)))))), ?_⟩
    have hd := pv_.dp
    obtain ⟨a, xs, rfl, sx, all⟩ := id pv_
    obtain ⟨l8, bl⟩ := size_blk sz
    have lx := all.len
    have vb2 := vb
    unfold validB at vb2
    rw [Bool.and_eq_true, Bool.and_eq_true, List.all_eq_true, List.all_eq_true] at vb2
    obtain ⟨vb1, vb2, vb3⟩ := vb2
    have vp := List.isPerm_iff.mp vb3
    refine ⟨fun σ H1 => Same H H1 ∧ σ = [some (.ref a), none, none, none, none, none], ?_, ?_⟩
    · refine ⟨_, rfl, _, _, _, _, _, rfl, .ty _, hd.ty, kitT K _, _, rfl, ?_⟩
      refine iteF ?_
      refine ⟨_, rfl, a, rfl, ⟨_, sx⟩, fun D hD => lc_tup (K := K) (a := a) (xs := xs) (fun i H2 => Same H H2 ∧ H2 D = some (.lst ((List.replicate i true).map V.bl))) ⟨same_new hD, upd_same⟩ (fun i H2 _ z => Bs.Same.t z.1 sx) ?_ ?_⟩
      · rintro i x H2 hx ⟨s2, hD2⟩
        obtain ⟨b, hb, ib⟩ := all.get hx
        have mb := List.mem_of_getElem? hb
        have hi : i < p.length := (List.getElem?_eq_some_iff.mp hb).1
        refine ⟨rfl, ?_⟩
        refine iteT (B := Same H H2 ∧ H2 D = some (.lst ((List.replicate (i + 1) true).map V.bl))) ?_
        refine ⟨_, rfl, x, b, rfl, ib.mono s2, vb1 b mb, by have := bl b mb; omega, fun H3 s3 => ?_⟩
        refine ⟨_, s3 _ _ hD2, small1000 (by rw [List.length_map, List.length_replicate]; omega), fun c o e => (upd_ne (ne_of_none e hD)).trans (s3 c o (s2 c o e)), ?_⟩
        rw [upd_same, List.replicate_succ', List.map_append]
        rfl
      · rintro H2 ⟨s2, hD2⟩
        refine ⟨D, _, rfl, SqL.of hD2, _, rfl, ?_⟩
        rw [all_true]
        exact iteF ⟨s2, rfl⟩
    rintro σ H1 ⟨s1, rfl⟩
    have sx1 := Bs.Same.t s1 sx
    refine ⟨fun σ H2 => Same H H2 ∧ σ = [some (.ref a), none, none, none, none, none], ?_, ?_⟩
    · refine ⟨_, rfl, _, rfl, 1, rfl, ?_⟩
      unfold tNoPart
      refine sl_cut sx1 cut_tail fun c H2 s2 sc => ?_
      have sx2 := Bs.Same.t s2 sx1
      refine ⟨a, c, xs, xs.drop 1, rfl, .inr ⟨sx2, sc, fun D hD => ?_⟩⟩
      refine lc_it (walk_zipT (xs := xs) (ys := xs.drop 1) (n := (p.zip p.tail).length) (by rw [List.length_zip, List.length_drop, List.length_tail, lx])) (fun i H3 => Same H2 H3 ∧ H3 D = some (.lst ((List.replicate i false).map V.bl))) ⟨same_new hD, upd_same⟩ (fun i H3 _ z => ⟨Bs.Same.t z.1 sx2, Bs.Same.t z.1 sc⟩) ?_ ?_
      · rintro i x H3 H4 hi ⟨s3, hD3⟩ ⟨T', x', y', rfl, hT, rfl, h1, h2⟩
        have h1' : xs[i]? = some x' := h1
        have h2' : (xs.drop 1)[i]? = some y' := h2
        rw [List.getElem?_drop, Nat.add_comm] at h2'
        obtain ⟨b, hb, ib⟩ := all.get h1'
        obtain ⟨b2, hb2, ib2⟩ := all.get h2'
        have q := vb2 (b, b2) (List.mem_of_getElem? (zip_get hb hb2))
        have q1 := bl b (List.mem_of_getElem? hb)
        have q2 := bl b2 (List.mem_of_getElem? hb2)
        have q3 := of_decide_eq_true q
        have hz : (p.zip p.tail).length ≤ p.length := by rw [List.length_zip]; omega
        obtain ⟨c1, rfl, sc1⟩ := id ib
        obtain ⟨c2, rfl, sc2⟩ := id ib2
        have s4 := same_new (o := .tup [.ref c1, .ref c2]) hT
        have s14 := ((s1.trans s2).trans s3).trans s4
        have g1 : (b.map V.int)[0]? = some (V.int (hdI b)) := by rw [List.getElem?_map, hd_at q1.2]; rfl
        have g2 : (b2.map V.int)[0]? = some (V.int (hdI b2)) := by rw [List.getElem?_map, hd_at q2.2]; rfl
        refine ⟨T', _, rfl, SqT.of upd_same, rfl, _, _, rfl, _, _, rfl, rfl, rfl, ?_⟩
        refine iteT (B := Same H2 (upd H3 T' (.tup [.ref c1, .ref c2])) ∧ upd H3 T' (.tup [.ref c1, .ref c2]) D = some (.lst ((List.replicate (i + 1) false).map V.bl))) ?_
        refine ⟨_, rfl, c1, _, _, _, rfl, rfl, Bs.Same.t s14 sc1, atI_nat (j := 0) g1, _, rfl, c2, _, _, _, rfl, rfl, Bs.Same.t s14 sc2, atI_nat (j := 0) g2, _, _, rfl, rfl, ?_⟩
        have e0 : decide (hdI b2 ≤ hdI b) = false := decide_eq_false (by show ¬ _; have : hdI b < hdI b2 := q3; omega)
        dsimp only
        rw [e0]
        refine ⟨_, s4 _ _ hD3, small1000 (by rw [List.length_map, List.length_replicate]; omega), fun c o e => (upd_ne (ne_of_none e hD)).trans (s4 c o (s3 c o e)), ?_⟩
        rw [upd_same, List.replicate_succ', List.map_append]
        rfl
      · rintro H3 ⟨s3, hD3⟩
        refine ⟨D, _, rfl, SqL.of hD3, _, rfl, ?_⟩
        rw [any_falseR]
        exact iteF ⟨(s1.trans s2).trans s3, rfl⟩
    rintro σ H2 ⟨s2, rfl⟩
    have sx2 := Bs.Same.t s2 sx
    have fl8 := flatten_len fun b hb => (bl b hb).1
    refine ⟨fun σ H3 => ∃ L, Same H H3 ∧ H3 L = some (.lst (((List.range (total p)).map fun n : Nat => (n : Int)).map V.int)) ∧ σ = [some (.ref a), some (.ref L), none, none, none, none], ?_, ?_⟩
    · refine ⟨_, rfl, a, rfl, ⟨_, sx2⟩, fun D hD => ?_⟩
      refine lc2_out (walk_tup (K := K) (a := a) (xs := xs)) (fun j H3 => Same H2 H3 ∧ H3 D = some (.lst ((p.take j).flatten.map V.int))) ⟨same_new hD, upd_same⟩ (fun i H3 _ q => Bs.Same.t q.1 sx2) ?_ ?_
      · rintro j x H3' H3 hj ⟨s3, hD3⟩ ⟨e3, hx⟩
        subst e3
        obtain ⟨b, hb, ib⟩ := all.get hx
        have fo := flatten_one hb
        have lt : (p.take (j + 1)).flatten.length ≤ 64 := by
          have := flatten_len (p := p.take (j + 1)) fun b hb => (bl b (List.mem_of_mem_take hb)).1
          rw [List.length_take] at this
          omega
        rw [fo, List.length_append] at lt
        obtain ⟨c, rfl, sc⟩ := id ib
        have s23 := s2.trans s3
        have sc3 := Bs.Same.t s23 sc
        refine ⟨rfl, ?_⟩
        refine iteT (B := Same H2 H3 ∧ H3 D = some (.lst ((p.take (j + 1)).flatten.map V.int))) ?_
        refine ⟨_, rfl, c, rfl, ⟨_, sc3⟩, ?_⟩
        refine lc2_in (walk_tup (K := K) (a := c) (xs := b.map V.int)) (fun l H4 => Same H2 H4 ∧ H4 D = some (.lst (((p.take j).flatten ++ b.take l).map V.int))) ⟨s3, by rw [List.take_zero, List.append_nil]; exact hD3⟩ (fun l H4 _ q => Bs.Same.t (s2.trans q.1) sc) ?_ ?_
        · rintro l y H4' H4 hl ⟨s4, hD4⟩ ⟨e4, hy⟩
          subst e4
          obtain ⟨t, ht, rfl⟩ := some_int hy
          refine ⟨rfl, ?_⟩
          refine iteT (B := Same H2 H4 ∧ H4 D = some (.lst (((p.take j).flatten ++ b.take (l + 1)).map V.int))) ?_
          refine ⟨_, rfl, _, hD4, small1000 (by rw [List.length_map, List.length_append, List.length_take]; omega), fun c o e => (upd_ne (ne_of_none e hD)).trans (s4 c o e), ?_⟩
          rw [upd_same, take_one ht, ← List.append_assoc, List.map_append (l₁ := (p.take j).flatten ++ b.take l)]
          rfl
        · rintro H4 ⟨s4, hD4⟩
          rw [List.length_map, List.take_length, ← fo] at hD4
          exact ⟨s4, hD4⟩
      · rintro H3 ⟨s3, hD3⟩
        rw [lx, List.take_length] at hD3
        refine ⟨D, _, rfl, SqL.of hD3, fun ns q pm sr hq => ?_⟩
        have e := ints_uniq sr (ints_srt (total p)) (pm.trans vp)
        subst e
        exact ⟨q, (s2.trans s3).trans (same_new hq), upd_same, rfl⟩
    rintro σ H3 ⟨L, s3, gL, rfl⟩
    have tl : total p ≤ 64 := by
      have := vp.length_eq
      rw [List.length_map, List.length_range] at this
      omega
    refine ⟨_, rfl, _, rfl, L, _, rfl, .inl (SqL.of gL), _, rfl, .of_le (by omega) (by rw [List.length_map, List.length_map, List.length_range]; omega) (by omega) (by omega), fun q hq => ?_⟩
    have s4 := same_new (o := .lst (rgV 0 ((((List.range (total p)).map fun n : Nat => (n : Int)).map V.int).length : Nat))) hq
    have er : rgV 0 ((((List.range (total p)).map fun n : Nat => (n : Int)).map V.int).length : Nat) = (((List.range (total p)).map fun n : Nat => (n : Int)).map V.int) := by
      unfold rgV
      rw [List.length_map, List.length_map, List.length_range, List.map_map]
      rw [show ((total p : Int) - 0).toNat = total p by omega]
      refine List.map_congr_left fun i _ => ?_
      show V.int (0 + (i : Int)) = V.int (i : Int)
      rw [Int.zero_add]
    rw [er] at s4 ⊢
    refine ⟨.list (((List.range (total p)).map fun n : Nat => (n : Int)).map PyData.int), .list (((List.range (total p)).map fun n : Nat => (n : Int)).map PyData.int), .lst (SqL.of (s4 _ _ gL)) (dpInts _), .lst (SqL.of upd_same) (dpInts _), shaped_ints _, shaped_ints _, ?_⟩
    have ev : PyData.eqv (.list (((List.range (total p)).map fun n : Nat => (n : Int)).map PyData.int)) (.list (((List.range (total p)).map fun n : Nat => (n : Int)).map PyData.int)) = true := by
      rw [PyData.eqv, eqvI_all]
      exact decide_eq_true rfl
    rw [ev]
    exact kk _ (s3.trans s4)
theorem scNeedPart : FnScope ["parting"] ["parting"] (defScope sNeedPart) := ⟨rfl, rfl, rfl, by decide +kernel, rfl, by decide +kernel, by decide +kernel⟩
theorem ok_needPart (F : Fun K "need_parting" "need_parting" sNeedPart f fd) (IP : Cal P w K mg base 4 "is_parting" (spIsPart K)) : FnOk P w K mg base CX0 5 f fd ["parting"] (spNeedPart K) := by
  refine F.ok scNeedPart (fun vs H Q E h => ?_) (fun cdv A outer s H vs Q E hr h => ?_)
  · obtain ⟨v, p, rfl, _⟩ := h
    rfl
  · obtain ⟨v, p, rfl, pp, vb, sz, kk⟩ := h
    refine ⟨_, pss_cons (ps_if (pt_not (pt_val (pe_n IP hr (by decide) (by rfl) (pa_cons (pv 0) pa_nil)))) (pss_one ps_never) pss_nil) (pss_one (ps_ret (pv 0))), ?_⟩
    refine ⟨_, rfl, v, p, rfl, pp, vb, sz, fun H1 s1 => ?_⟩
    exact ⟨_, rfl, iteF ⟨_, rfl, kk H1 s1⟩⟩
end
end Rs


set_option Elab.async false
set_option linter.all false
set_option maxRecDepth 100000
set_option maxHeartbeats 1000000
namespace Rs
open PySem PySem.Spec PyProof.Rows L2 Bs LamX Pg RZ HT
theorem noI_tuple_add : typeLookup (.type "tuple") (dunderI "add") = pure none := by rw [typeLookup_type, builtinLookup_eq_fast]; kernel_rfl
section
variable {prog : Program} {w : World} {A : Around} {E : Value → Shared → Prop} {s : Shared}
theorem icat_tup {t b : Addr} {vs ws : List Value} {Q : Value → Shared → Prop} (ht : IsTup s.heap t vs.toArray) (hb : IsTup s.heap b ws.toArray) (hv : vs ≠ []) (hw : ws ≠ [])
    (h2 : Q (.ref s.heap.objs.size) { s with heap := s.heap.push { cls := .type "tuple", data := .seq (vs ++ ws).toArray } })
    (hsz : vs.length + ws.length ≤ sizeLine) : wpAny (model prog w) A (inplaceOp .Add (.ref t) (.ref b)) Q E s := by
  obtain ⟨⟨cls, dd, data, sl⟩, ho, hc, n, hd⟩ := id ht
  obtain ⟨⟨cls2, dd2, data2, sl2⟩, ho2, hc2, n2, hd2⟩ := id hb
  simp only at hc hd hc2 hd2
  subst hc hd hc2 hd2
  have e : vs.toArray ++ ws.toArray = (vs ++ ws).toArray := by simp
  refine wpAny_inplaceOp_concat ⟨_, ho, rfl⟩ ⟨_, ho2, rfl⟩ noI_tuple_add noFill_tuple_add seq_tuple_add (call_meets PySem.F.slot_tuple_add ⟨_, ho, rfl⟩ PySem.F.entry_tuple_add (PySem.F.args_tuple_add_2 _ _)
    (tuple_addW2 t b vs.toArray ws.toArray n n2 dd dd2 sl sl2 (by simpa using hv) (by simpa using hw) (by rw [List.size_toArray, List.size_toArray]; exact hsz)) ⟨ho, ho2, ?_⟩)
  rw [e]
  exact h2
end
section
variable {X : Cx}
def ipCat (K : PySem.W.Frag) : TIp := fun x y H Q => ∃ a b xs ys, x = .ref a ∧ y = .ref b ∧ SqT K H a xs ∧ SqT K H b ys ∧ xs ≠ [] ∧ ys ≠ [] ∧ xs.length + ys.length ≤ sizeLine ∧ ∀ p, H p = none → Q (.ref p) (upd H p (.tup (xs ++ ys)))
theorem ip_catT : PIp X .Add (ipCat X.K) := by
  intro pins s σ H x y v u Q I rx ry h
  obtain ⟨a, b, xs, ys, rfl, rfl, ha, hb, hx, hy, hz, q⟩ := h
  cases rx
  cases ry
  obtain ⟨its, r1, p1, _⟩ := I.tuple ha
  obtain ⟨its2, r2, p2, _⟩ := I.tuple hb
  refine icat_tup p1 p2 (fun z => hx (r1.nil_iff.mp z)) (fun z => hy (r2.nil_iff.mp z)) ?_ (by rw [← r1.length, ← r2.length]; exact hz)
  refine ⟨.ref s.heap.objs.size, _, I.laid (t' := s.toks) (o := .tup (xs ++ ys)) (fun b ob q => Heap.get?_push_of_some _ q) (Nat.le_refl _) ?_, rfl, q _ (I.hok.fresh (Nat.le_refl _))⟩
  exact ⟨by rw [List.length_append]; exact hz, _, r1.append r2, IsTup.new _ _⟩
/-- xs[i], i a place -/
def gtL (K : PySem.W.Frag) : V → V → Hp → VK → Prop := fun x y H Q => ∃ p xs v, ∃ j : Nat, x = .ref p ∧ y = .int (j : Nat) ∧ SqL K H p xs ∧ xs[j]? = some v ∧ Q v H
theorem gt_list : PGet X (gtL X.K) := by
  intro pins s σ H x y v u Q I rx ry h
  obtain ⟨p, xs, z, j, rfl, rfl, hq, he, q⟩ := h
  cases rx
  obtain ⟨t, rfl⟩ := ry
  obtain ⟨its, r, pl, hz⟩ := I.list hq
  obtain ⟨w, ew, rw'⟩ := r.get he
  have hl := r.length
  have hn := line63
  have hj : j < xs.length := (List.getElem?_eq_some_iff.mp he).1
  exact wpAny_getItem_list pl.isList (by omega) (by omega) (by simpa using ew) ⟨z, H, I, rw', q⟩
end
end Rs


set_option Elab.async false
set_option linter.all false
set_option maxRecDepth 100000
set_option maxHeartbeats 1000000
namespace Pg
def turnOk (p : Prt) : Bool := decide (total p ≤ 8) && (sizeB p && (List.range (total p + 1)).all fun m => sizeB (turnTo p m))
theorem all_turn : ∀ n ∈ [0, 1, 2, 3, 4, 5], (lawRows n).all turnOk = true := by decide +kernel
end Pg
namespace Rs
open PySem L2 Bs LamX Pg RZ
abbrev sTurned : Stmt := top 25
def spTurned (K : PySem.W.Frag) : Sp := fun vs H Q _ => ∃ (v : V) (p : Prt), vs = [v] ∧ Pt K H v p ∧ turnOk p = true ∧ ∀ H' L, Same H H' → Pt K H' (.ref L) (turnP p) → Q (.ref L) H'
abbrev NTu : List Str := ["parting", "blocks", "number", "beside", "block", "k"]
theorem turnOk_at {p : Prt} (h : turnOk p = true) : total p ≤ 8 ∧ sizeB p = true ∧ ∀ m, m ≤ total p → sizeB (turnTo p m) = true := by
  unfold turnOk at h
  rw [Bool.and_eq_true, Bool.and_eq_true, decide_eq_true_eq, List.all_eq_true] at h
  exact ⟨h.1, h.2.1, fun m hm => h.2.2 m (List.mem_range.mpr (by omega))⟩
theorem ixn {n j : Nat} (hj : j < n) : ixN n (j : Int) = some j := by
  unfold ixN
  rw [if_pos (by omega), if_pos (by omega)]
  simp
section
variable {P : Program} {w : World} {K : PySem.W.Frag} {mg : Str → Option Value} {base : Heap} {f : Addr} {fd : FuncData}
theorem scTurned : FnScope NTu ["parting"] (defScope sTurned) := ⟨rfl, rfl, rfl, by decide +kernel, rfl, by decide +kernel, by decide +kernel⟩
theorem ok_turned (F : Fun K "turned" "turned" sTurned f fd) (T : Blt mg) (en : mg "enumerate" = none) (su : mg "sum" = none) (IP : Cal P w K mg base 1 "is_parted" (spParted K)) : FnOk P w K mg base CX0 2 f fd ["parting"] (spTurned K) := by
  refine F.ok scTurned (fun vs H Q E h => ?_) (fun cdv A outer s H vs Q E hr h => ?_)
  · obtain ⟨v, p, rfl, _⟩ := h
    rfl
  · obtain ⟨v, p, rfl, pp, ok, kk⟩ := h
    refine ⟨_, pss_cons (ps_set (i := 1) scTurned.nd rfl (Or.inl rfl) (pe_lst pa_nil))
      (C8.pss_cut (ps_for PassesOwn.never rfl (pi_range1 rfl T.range (pa_cons (pe_callB (cr_sum rfl) (by rfl) su (by decide +kernel) (pa_cons (pe_lc (own := [("block", 4)]) (g := gName 4) (tt := tYes) rfl scTurned.nd (pi_tup (pv 0)) (blkOk_by (N := NTu) (sc := defScope sTurned) (by decide +kernel))
          (fun _ _ _ _ _ => pg_name (i := 4) scTurned.nd rfl (Or.inl rfl)) (fun _ _ _ _ _ => pts_nil)
          (fun _ _ _ _ _ => pe_callB (id := "len") (r := rLenK K) call_len_seq (by rfl) T.len (by decide +kernel) (pa_cons (pv 4) pa_nil))) pa_nil)) pa_nil)) (pg_name (i := 2) scTurned.nd rfl (Or.inr rfl))
        (C8.pss_cut (ps_setLc (i := 3) (own := [("k", 5), ("block", 4)]) (g := gTup K 2 (gCons (gName 5) (gCons (gName 4) gNil))) rfl scTurned.nd rfl rfl (sw_true rfl rfl rfl (by decide +kernel))
          (pi_enum (by rfl) en (pa_cons (pv 1) pa_nil)) (blkOk_by (N := NTu) (sc := defScope sTurned) (by decide +kernel))
          (fun _ _ _ _ _ => pg_tup rfl (pgs_cons (pg_name (i := 5) scTurned.nd rfl (Or.inl rfl)) (pgs_cons (pg_name (i := 4) scTurned.nd rfl (Or.inl rfl)) pgs_nil)))
          (fun _ _ _ _ _ => pts_one (pt_not (pt_val (pe_n IP hr (by decide) (by rfl) (pa_cons (pv 0) (pa_cons (pe_op (r := rAdd) op_add (pe_ix (r := rIxT K) ix_tup (pv 4) pe_int (fun _ _ => rfl)) pe_int) (pa_cons (pe_op (r := rAdd) op_add (pv 2) pe_int) pa_nil)))))))
          (fun _ _ _ _ _ => pv 5))
        (pss_one (ps_if (pt_truth (pv 3) (fun _ => rfl)) (pss_one (ps_augS (pv 1) (pe_ix ix_list (pv 3) pe_int (fun _ _ => rfl)) gt_list (pe_tup (pa_cons (pv 2) pa_nil)) ip_catT set_list))
          (pss_one (ps_expr (pe_bm PySem.F.plainAttrs_list PySem.F.slot_list_append PySem.F.type_list_append mt_append (pv 1) (pa_cons (pe_tup (pa_cons (pv 2) pa_nil)) pa_nil))))))))
      (pss_one (ps_ret (pe_callTy call_tuple_of (by rfl) T.tuple (by decide +kernel) (pa_cons (pv 1) pa_nil))))), ?_⟩
    obtain ⟨t8, szp, szm⟩ := turnOk_at ok
    obtain ⟨a, xs, rfl, sx, all⟩ := id pp
    obtain ⟨l8, bl⟩ := size_blk szp
    have lx := all.len
    refine ⟨(by show 0 ≤ sizeLine; decide), fun L hL => ?_⟩
    have s0 := same_new (o := .lst []) hL
    have gL0 : upd H L (.lst []) L = some (.lst []) := upd_same
    generalize upd H L (.lst []) = H0 at *
    have sx0 := Bs.Same.t s0 sx
    refine ⟨fun σ H1 => ∃ acc v2 v3, Same H H1 ∧ H1 L = some (.lst acc) ∧ Al (It K H1) acc (turnTo p (total p)) ∧ σ = [some (.ref a), some (.ref L), v2, v3, none, none], ?_, ?_⟩
    · refine ⟨_, rfl, a, rfl, ⟨_, sx0⟩, fun D hD => lc_tup (K := K) (a := a) (xs := xs) (fun i H2 => Same H0 H2 ∧ H2 D = some (.lst (((p.take i).map fun b => (b.length : Int)).map V.int))) ⟨same_new hD, upd_same⟩ (fun i H2 _ z => Bs.Same.t z.1 sx0) ?_ ?_⟩
      · rintro i x H2 hx ⟨s2, hD2⟩
        obtain ⟨b, hb, c, rfl, sc⟩ := all.get hx
        refine ⟨rfl, ?_⟩
        refine iteT (B := Same H0 H2 ∧ H2 D = some (.lst (((p.take (i + 1)).map fun b => (b.length : Int)).map V.int))) ?_
        refine ⟨_, rfl, c, _, rfl, .inr (Bs.Same.t (s0.trans s2) sc), _, hD2, small1000 (by rw [List.length_map, List.length_map, List.length_take]; omega), fun c o e => (upd_ne (ne_of_none e hD)).trans (s2 c o e), ?_⟩
        rw [upd_same, take_one hb, List.map_append, List.map_append, List.length_map]
        rfl
      rintro H2 ⟨s2, hD2⟩
      rw [lx, List.take_length] at hD2
      have et : (p.map fun b => (b.length : Int)).sum = (total p : Int) := by
        unfold total
        clear sx0 all lx kk ok t8 szm szp pp bl l8 hD2
        induction p with
        | nil => rfl
        | cons b p ih =>
          rw [List.map_cons, List.sum_cons, ih, List.map_cons, List.sum_cons]
          omega
      have gL2 := s2 _ _ gL0
      refine ⟨D, _, rfl, SqL.of hD2, _, rfl, ?_⟩
      rw [et]
      refine ⟨by omega, by omega, for_range (n := ((total p : Nat) : Int).toNat) (fun i σ H1 => ∃ acc v2 v3, Same H H1 ∧ H1 L = some (.lst acc) ∧ Al (It K H1) acc (turnTo p i) ∧ σ = [some (.ref a), some (.ref L), v2, v3, none, none])
        ⟨[], none, none, s0.trans s2, gL2, .nil, rfl⟩ ?_ ?_⟩
      · rintro i σ H1 hi ⟨acc, v2, v3, s1, gL, al, rfl⟩
        have im : i < total p := by omega
        obtain ⟨c8, cl⟩ := size_blk (szm i (by omega))
        obtain ⟨c9, cl9⟩ := size_blk (szm (i + 1) (by omega))
        have la := al.len
        rw [Int.zero_add]
        refine ⟨fun σ H2 => ∃ B, Same H1 H2 ∧ H2 B = some (.lst ((beside p (turnTo p i) i).map fun k : Nat => V.int (k : Nat))) ∧ σ = [some (.ref a), some (.ref L), some (.int (i : Nat)), some (.ref B), none, none], ?_, ?_⟩
        · refine ⟨_, rfl, L, acc, rfl, SqL.of gL, fun D hD => ?_⟩
          refine lc_it (walk_enum (xs := acc)) (fun j H2 => Same H1 H2 ∧ H2 D = some (.lst (((List.range j).filter fun k => !parted p (hdI ((turnTo p i).getD k []) + 1) ((i : Int) + 1)).map fun k : Nat => V.int (k : Nat)))) ⟨same_new hD, upd_same⟩ (fun j H2 _ z => SqL.of (z.1 _ _ gL)) ?_ ?_
          · rintro j x H2 H3 hj ⟨s2, hD2⟩ ⟨T', x', y', rfl, hT, rfl, h1, h2⟩
            cases h1
            have h2' : acc[j]? = some y' := h2
            obtain ⟨b, hb, c, rfl, sc⟩ := al.get h2'
            have bb := cl b (List.mem_of_getElem? hb)
            have s3 := same_new (o := .tup [.int (j : Nat), .ref c]) hT
            have s13 := s2.trans s3
            have g1 : (b.map V.int)[0]? = some (V.int (hdI b)) := by rw [List.getElem?_map, hd_at bb.2]; rfl
            have lf := List.length_filter_le (fun k => !parted p (hdI ((turnTo p i).getD k []) + 1) ((i : Int) + 1)) (List.range j)
            rw [List.length_range] at lf
            refine ⟨T', _, rfl, SqT.of upd_same, rfl, _, _, rfl, _, _, rfl, rfl, rfl, ?_⟩
            have gD3 := s3 _ _ hD2
            generalize upd H2 T' (.tup [.int (j : Nat), .ref c]) = H3 at *
            refine ⟨_, rfl, _, rfl, c, _, _, _, rfl, rfl, Bs.Same.t s13 sc, atI_nat (j := 0) g1, _, _, rfl, rfl, _, rfl, _, _, rfl, rfl, _, p, _, _, rfl, pp.mono (s1.trans s13), szp, fun H4 s4 => ?_⟩
            refine ⟨_, rfl, ?_⟩
            have eb : (turnTo p i).getD j [] = b := getD_some hb
            have gD4 := s4 _ _ gD3
            have fr : (List.range (j + 1)).filter (fun k => !parted p (hdI ((turnTo p i).getD k []) + 1) ((i : Int) + 1)) = (List.range j).filter (fun k => !parted p (hdI ((turnTo p i).getD k []) + 1) ((i : Int) + 1)) ++ (if (!parted p (hdI b + 1) ((i : Int) + 1)) = true then [j] else []) := by
              rw [List.range_succ, List.filter_append, List.filter_cons, eb]
              rfl
            rw [fr]
            refine ite2 (fun c => ?_) (fun c => ?_)
            · refine ⟨_, rfl, _, gD4, small1000 (by rw [List.length_map]; omega), fun c o e => (upd_ne (ne_of_none e hD)).trans (s4 c o (s13 c o e)), ?_⟩
              rw [upd_same, if_pos c, List.map_append]
              rfl
            · rw [if_neg c, List.append_nil]
              exact ⟨s13.trans s4, gD4⟩
          · rintro H2 ⟨s2, hD2⟩
            rw [la] at hD2
            exact ⟨D, s2, hD2, rfl⟩
        rintro σ H2 ⟨B, s2, gB, rfl⟩
        have s02 := s1.trans s2
        have gL2 := s2 _ _ gL
        have al2 : Al (It K H2) acc (turnTo p i) := alI_mono al s2
        have ts : turnTo p (i + 1) = turnS p (turnTo p i) i := rfl
        unfold turnS at ts
        refine ⟨_, rfl, _, .inl ⟨_, SqL.of gB, rfl⟩, ?_⟩
        cases eb : beside p (turnTo p i) i with
        | nil =>
          rw [eb] at ts gB
          refine iteF ?_
          refine ⟨_, rfl, .inl ⟨rfl, _, SqL.of gL2⟩, _, rfl, (by show 1 ≤ sizeLine; decide), fun p4 hp4 => ?_⟩
          have s4 := same_new (o := .tup [.int (i : Nat)]) hp4
          have gL4 := s4 _ _ gL2
          refine ⟨L, acc, _, rfl, rfl, gL4, small1000 (by omega), acc ++ [.ref p4], _, _, fun b' o e => (upd_ne (ne_of_none e hL)).trans (s4 b' o (s02 b' o e)), upd_same, ?_, rfl⟩
          have ts2 : turnTo p (i + 1) = turnTo p i ++ [[(i : Int)]] := ts
          rw [ts2]
          exact alI_off ((alI_mono al2 s4).snoc ⟨p4, rfl, SqT.of upd_same⟩) gL4
        | cons k ks =>
          rw [eb] at ts gB
          have ts2 : turnTo p (i + 1) = (turnTo p i).set k ((turnTo p i).getD k [] ++ [(i : Int)]) := ts
          have kb : k ∈ beside p (turnTo p i) i := by rw [eb]; exact List.mem_cons_self
          unfold beside at kb
          have kl : k < (turnTo p i).length := List.mem_range.mp (List.mem_filter.mp kb).1
          have hb : (turnTo p i)[k]? = some ((turnTo p i)[k]) := List.getElem?_eq_getElem kl
          obtain ⟨x, hx, ix⟩ := al2.at hb
          have bb := cl _ (List.mem_of_getElem? hb)
          rw [getD_some hb] at ts2
          generalize (turnTo p i)[k] = b at *
          obtain ⟨c, rfl, sc⟩ := id ix
          refine iteT ?_
          refine ⟨_, rfl, _, rfl, B, _, _, _, rfl, rfl, SqL.of gB, atI_nat (j := 0) rfl, L, acc, _, k, rfl, rfl, SqL.of gL2, hx, _, rfl, (by show 1 ≤ sizeLine; decide), fun p4 hp4 => ?_⟩
          have s4 := same_new (o := .tup [.int (i : Nat)]) hp4
          refine ⟨c, p4, b.map V.int, [.int (i : Nat)], rfl, rfl, Bs.Same.t s4 sc, SqT.of upd_same, (fun z => ?_), (by simp), Nat.le_of_lt (small1000 (by rw [List.length_map]; show _ + 1 ≤ 1000; omega)), fun q hq => ?_⟩
          · have := congrArg List.length z
            rw [List.length_map] at this
            have h0 : b.length = 0 := this
            omega
          have s5 := same_new (o := .tup (b.map V.int ++ [.int (i : Nat)])) hq
          have s45 := s4.trans s5
          have gL5 := s45 _ _ gL2
          refine ⟨L, acc, k, k, rfl, rfl, gL5, ixn (by omega), acc.set k (.ref q), _, _, fun b' o e => (upd_ne (ne_of_none e hL)).trans (s45 b' o (s02 b' o e)), upd_same, ?_, rfl⟩
          rw [ts2]
          exact alI_off ((alI_mono al2 s45).set k ⟨q, rfl, by rw [List.map_append]; exact SqT.of upd_same⟩) gL5
      · rintro σ H1 ⟨acc, v2, v3, s1, gL, al, rfl⟩
        exact ⟨acc, v2, v3, s1, gL, al, rfl⟩
    rintro σ H1 ⟨acc, v2, v3, s1, gL, al, rfl⟩
    refine ⟨_, rfl, L, acc, rfl, .inl ⟨SqL.of gL, fun l hl => ?_⟩⟩
    have s2 := same_new (o := .tup acc) hl
    exact kk _ l (s1.trans s2) ⟨l, acc, rfl, SqT.of upd_same, alI_mono al s2⟩
end
end Rs


set_option Elab.async false
set_option linter.all false
set_option maxRecDepth 100000
set_option maxHeartbeats 1000000
namespace Pg
def gdB (p : Prt) : Bool := validB p && (turnOk p && ((turnP p).all (fun b => decide (b.length ≤ 7)) && decide (p.length ≤ 7)))
theorem all_gd : ∀ n ∈ [0, 1, 2, 3, 4, 5], (lawRows n).all gdB = true := by decide +kernel
theorem gd_at {p : Prt} (h : gdB p = true) : validB p = true ∧ turnOk p = true ∧ (∀ b ∈ turnP p, b.length ≤ 7) ∧ p.length ≤ 7 := by
  unfold gdB at h
  rw [Bool.and_eq_true, Bool.and_eq_true, Bool.and_eq_true, List.all_eq_true, decide_eq_true_eq] at h
  exact ⟨h.1, h.2.1, fun b hb => of_decide_eq_true (h.2.2.1 b hb), h.2.2.2⟩
end Pg
namespace Rs
open PySem L2 Bs LamX Pg RZ
abbrev sAllParts : Stmt := top 23
abbrev sIsOfKind : Stmt := top 24
abbrev sTurnedP : Stmt := top 26
abbrev sSigned : Stmt := top 27
abbrev sSignBy : Stmt := top 28
abbrev sPartSign : Stmt := top 29
abbrev sIPa : Stmt := inClass (top 5) 0
theorem comb_cat : ∀ m ∈ [1, 2, 3, 4, 5, 6, 7], PySem.W.mcComb (2 * (m : Nat) - 2 : Int) ((m : Nat) - 1 : Int) / (m : Nat) = cat m := by decide +kernel
theorem fac_fact : ∀ m ∈ [0, 1, 2, 3, 4, 5, 6], ((Builtin.Math.factorialNat m : Nat) : Int) = fact m := by decide +kernel
def rComb : List V → Hp → VK → Prop := fun vs H Q => ∃ a b : Int, vs = [.int a, .int b] ∧ 0 ≤ a ∧ 0 ≤ b ∧ a < 100 ∧ b < 100 ∧ Q (.int (PySem.W.mcComb a b)) H
def rFac : List V → Hp → VK → Prop := fun vs H Q => ∃ a : Int, vs = [.int a] ∧ 0 ≤ a ∧ a < 100 ∧ Q (.int ((Builtin.Math.factorialNat a.toNat : Nat) : Int)) H
section
variable {X : Cx}
theorem cr_comb : CallR X (.builtin "math.comb") rComb := by
  intro pins s σ H vs us Q I r h
  obtain ⟨a, b, rfl, h1, h2, h3, h4, q⟩ := h
  obtain ⟨t, u, rfl⟩ := Vals.int2 r
  exact PySem.W.mc_comb h1 h2 (by omega) (by omega) fun _ => ⟨.int _, H, I.tok _, ⟨_, rfl⟩, q⟩
theorem cr_fac : CallR X (.builtin "math.factorial") rFac := by
  intro pins s σ H vs us Q I r h
  obtain ⟨a, rfl, h1, h2, q⟩ := h
  obtain ⟨u, rfl, ru⟩ := vals1 r
  obtain ⟨t, rfl⟩ := ru
  exact PySem.W.mc_factorial h1 (by omega) fun _ => ⟨.int _, H, I.tok _, ⟨_, rfl⟩, q⟩
end
def spSigned : Sp := fun vs H Q _ => ∃ (x : Int) (m : Nat), vs = [.int x, .int (m : Nat)] ∧ Q (.int (sgn x m)) H
def spSignBy (K : PySem.W.Frag) : Sp := fun vs H Q _ => ∃ (k : Kd) (v : V) (p : Prt), vs = [.str (kdS k), v] ∧ Pt K H v p ∧ gdB p = true ∧ ∀ H', Same H H' → Q (.int (signB k p)) H'
def spAllParts (K : PySem.W.Frag) : Sp := fun vs H Q _ => ∃ (k : Kd) (m : Nat), vs = [.str (kdS k), .int (m : Nat)] ∧ szAll k m = true ∧ m ≤ 7 ∧ ∀ H' L ys, Same H H' → SqT K H' L ys → Al (Pt K H') ys (sortW (partsOf k m)) → Q (.ref L) H'
def spIsOfKind (K : PySem.W.Frag) : Sp := fun vs H Q _ => ∃ (k : Kd) (v : V) (p : Prt), vs = [.str (kdS k), v] ∧ Pt K H v p ∧ gdB p = true ∧ ∀ H', Same H H' → Q (.bl (hasK k p)) H'
def spTurnedP (K : PySem.W.Frag) : Sp := fun vs H Q _ => ∃ (v : V) (p : Prt), vs = [v] ∧ Pt K H v p ∧ gdB p = true ∧ ∀ H' L, Same H H' → Pt K H' (.ref L) (turnP p) → Q (.ref L) H'
def spPartSign (K : PySem.W.Frag) (C : Addr) : Sp := fun vs H Q E => ∃ (k : Kd) (v : V) (p : Prt), vs = [.str (kdS k), v] ∧ Pt K H v p ∧ gdB p = true ∧ (hasK k p = true → ∀ H', Same H H' → Q (.int (signB k p)) H') ∧ (hasK k p = false → ∀ H', Same H H' → Out E C v H')
abbrev NSb : List Str := ["kind", "parting", "whole", "block", "many"]
section
variable {P : Program} {w : World} {K : PySem.W.Frag} {mg : Str → Option Value} {base : Heap} {f : Addr} {fd : FuncData}
theorem scInitP : FnScope ["self", "given"] ["self", "given"] (defScope sIPa) := ⟨rfl, rfl, rfl, by decide +kernel, rfl, by decide +kernel, by decide +kernel⟩
theorem ok_initP {C : Addr} {q : Str} (F : Fun K "__init__" q sIPa f fd) (T : OexC K C) (no : PySem.W.findIn K (.ref C) "given" = some none) : FnOk P w K mg base CX0 1 f fd ["self", "given"] (spInit K C) := by
  refine F.ok scInitP (fun vs H Q E h => ?_) (fun cdv A outer s H vs Q E hr h => ?_)
  · obtain ⟨a, y, rfl, _⟩ := h
    rfl
  · obtain ⟨a, y, rfl, ha, k⟩ := h
    exact ⟨_, pss_one (ps_ost (pv 0) (pv 1)), _, rfl, _, rfl, a, C, rfl, T, no, .inl ⟨ha, fun dx n1 n2 => k dx n1 n2⟩⟩
theorem Err.okP {x q : Str} {C : Addr} (T : Err K mg x q sIPa C) : ErrOk P w K mg base x C := by
  obtain ⟨fI, fd, a, b, F, bi⟩ := T.ini
  exact ⟨T.gC, T.oex, fI, fd, a, b, ok_initP F T.oex T.no, bi⟩
theorem scAllParts : FnScope ["kind", "many"] ["kind", "many"] (defScope sAllParts) := ⟨rfl, rfl, rfl, by decide +kernel, rfl, by decide +kernel, by decide +kernel⟩
theorem ok_allParts (F : Fun K "all_partings" "all_partings" sAllParts f fd) (M : MostN mg) (NK : Cal P w K mg base 1 "need_kind" spNeedKind) (NB : Cal P w K mg base 3 "need_between" (spNeedB0 K)) (PO : Cal P w K mg base 4 "partings_of" (spPartsOf K)) : FnOk P w K mg base CX0 5 f fd ["kind", "many"] (spAllParts K) := by
  refine F.ok scAllParts (fun vs H Q E h => ?_) (fun cdv A outer s H vs Q E hr h => ?_)
  · obtain ⟨k, m, rfl, _⟩ := h
    rfl
  · obtain ⟨k, m, rfl, sz, m7, kk⟩ := h
    obtain ⟨t7, mm⟩ := M.ex
    refine ⟨_, pss_cons (ps_expr (pe_n NK hr (by decide) (by rfl) (pa_cons (pv 0) pa_nil)))
      (pss_one (ps_ret (pe_n PO hr (by decide) (by rfl) (pa_cons (pv 0) (pa_cons (pe_n NB hr (by decide) (by rfl) (pa_cons (pv 1) (pa_cons pe_int (pa_cons (pe_glob (v := .int 7) (by rfl) mm ⟨t7, rfl⟩) pa_nil)))) pa_nil))))), ?_⟩
    refine ⟨_, rfl, k, rfl, ?_⟩
    refine ⟨_, rfl, _, rfl, _, .int (m : Nat), 0, 7, rfl, .int _, ?_, k, m, rfl, sz, m7, kk⟩
    unfold betwD
    rw [Bool.and_eq_true, decide_eq_true_eq, decide_eq_true_eq]
    omega
theorem scIsOfKind : FnScope ["kind", "parting"] ["kind", "parting"] (defScope sIsOfKind) := ⟨rfl, rfl, rfl, by decide +kernel, rfl, by decide +kernel, by decide +kernel⟩
theorem ok_isOfKind (F : Fun K "is_of_kind" "is_of_kind" sIsOfKind f fd) (NK : Cal P w K mg base 1 "need_kind" spNeedKind) (NP : Cal P w K mg base 5 "need_parting" (spNeedPart K)) (HK : Cal P w K mg base 3 "has_kind" (spHasKind K)) : FnOk P w K mg base CX0 6 f fd ["kind", "parting"] (spIsOfKind K) := by
  refine F.ok scIsOfKind (fun vs H Q E h => ?_) (fun cdv A outer s H vs Q E hr h => ?_)
  · obtain ⟨k, v, p, rfl, _⟩ := h
    rfl
  · obtain ⟨k, v, p, rfl, pp, gd, kk⟩ := h
    obtain ⟨g1, g2, g3, g4⟩ := gd_at gd
    obtain ⟨t1, t2, t3⟩ := turnOk_at g2
    refine ⟨_, pss_cons (ps_expr (pe_n NK hr (by decide) (by rfl) (pa_cons (pv 0) pa_nil)))
      (pss_one (ps_ret (pe_n HK hr (by decide) (by rfl) (pa_cons (pv 0) (pa_cons (pe_n NP hr (by decide) (by rfl) (pa_cons (pv 1) pa_nil)) pa_nil))))), ?_⟩
    refine ⟨_, rfl, k, rfl, ?_⟩
    exact ⟨_, rfl, _, rfl, v, p, rfl, pp, g1, t2, fun H1 s1 => ⟨k, v, p, rfl, pp.mono s1, t2, fun H2 s2 => kk H2 (s1.trans s2)⟩⟩
theorem scTurnedP : FnScope ["parting"] ["parting"] (defScope sTurnedP) := ⟨rfl, rfl, rfl, by decide +kernel, rfl, by decide +kernel, by decide +kernel⟩
theorem ok_turnedP (F : Fun K "turned_parting" "turned_parting" sTurnedP f fd) (NP : Cal P w K mg base 5 "need_parting" (spNeedPart K)) (TU : Cal P w K mg base 2 "turned" (spTurned K)) : FnOk P w K mg base CX0 6 f fd ["parting"] (spTurnedP K) := by
  refine F.ok scTurnedP (fun vs H Q E h => ?_) (fun cdv A outer s H vs Q E hr h => ?_)
  · obtain ⟨v, p, rfl, _⟩ := h
    rfl
  · obtain ⟨v, p, rfl, pp, gd, kk⟩ := h
    obtain ⟨g1, g2, g3, g4⟩ := gd_at gd
    obtain ⟨t1, t2, t3⟩ := turnOk_at g2
    refine ⟨_, pss_one (ps_ret (pe_n TU hr (by decide) (by rfl) (pa_cons (pe_n NP hr (by decide) (by rfl) (pa_cons (pv 0) pa_nil)) pa_nil))), ?_⟩
    exact ⟨_, rfl, v, p, rfl, pp, g1, t2, fun H1 s1 => ⟨v, p, rfl, pp.mono s1, g2, fun H2 L s2 q => kk H2 L (s1.trans s2) q⟩⟩
theorem scSigned : FnScope ["whole", "many"] ["whole", "many"] (defScope sSigned) := ⟨rfl, rfl, rfl, by decide +kernel, rfl, by decide +kernel, by decide +kernel⟩
theorem ok_signed (F : Fun K "signed" "signed" sSigned f fd) : FnOk P w K mg base CX0 1 f fd ["whole", "many"] spSigned := by
  refine F.ok scSigned (fun vs H Q E h => ?_) (fun cdv A outer s H vs Q E hr h => ?_)
  · obtain ⟨x, m, rfl, _⟩ := h
    rfl
  · obtain ⟨x, m, rfl, kk⟩ := h
    refine ⟨_, pss_one (ps_ret (pe_ifExp (pt_truth (pe_op op_odd (pv 1) pe_int) (fun _ => rfl)) (pv 0) (pe_un un_neg (pv 0)))), ?_⟩
    refine ⟨_, rfl, m, rfl, rfl, _, rfl, ?_⟩
    unfold sgn at kk
    by_cases e : m % 2 = 1
    · rw [if_pos e] at kk
      rw [e]
      exact ⟨_, rfl, kk⟩
    · rw [if_neg e] at kk
      have e0 : m % 2 = 0 := by omega
      rw [e0]
      exact ⟨_, rfl, x, rfl, kk⟩
end
end Rs


set_option Elab.async false
set_option linter.all false
set_option maxRecDepth 100000
set_option maxHeartbeats 1000000
namespace Pg
theorem cat_small (m : Nat) : (cat m).natAbs ≤ 132 ∧ ∀ x, (sgn x m).natAbs = x.natAbs := by
  refine ⟨?_, fun x => ?_⟩
  · unfold cat
    split <;> decide
  · unfold sgn
    split
    · rfl
    · exact Int.natAbs_neg x
def foldS (w : Int) (b : Blk) : Int := w * sgn (cat b.length) b.length
theorem fold_small : ∀ (p : Prt) (w : Int), (p.foldl foldS w).natAbs ≤ w.natAbs * 132 ^ p.length
  | [], w => by simp
  | b :: p, w => by
    have h := fold_small p (foldS w b)
    have h2 : (foldS w b).natAbs ≤ w.natAbs * 132 := by
      unfold foldS
      rw [Int.natAbs_mul, (cat_small b.length).2]
      exact Nat.mul_le_mul_left _ (cat_small b.length).1
    rw [List.foldl_cons, List.length_cons, Nat.pow_succ]
    calc _ ≤ (foldS w b).natAbs * 132 ^ p.length := h
      _ ≤ w.natAbs * 132 * 132 ^ p.length := Nat.mul_le_mul_right _ h2
      _ = w.natAbs * (132 ^ p.length * 132) := by rw [Nat.mul_assoc, Nat.mul_comm 132]
end Pg
namespace Rs
open PySem L2 Bs LamX Pg RZ
section
variable {P : Program} {w : World} {K : PySem.W.Frag} {mg : Str → Option Value} {base : Heap} {f : Addr} {fd : FuncData}
theorem scSignBy : FnScope NSb ["kind", "parting"] (defScope sSignBy) := ⟨rfl, rfl, rfl, by decide +kernel, rfl, by decide +kernel, by decide +kernel⟩
theorem ok_signBy (F : Fun K "sign_by" "sign_by" sSignBy f fd) (T : Blt mg) (TU : Cal P w K mg base 2 "turned" (spTurned K)) (SG : Cal P w K mg base 1 "signed" spSigned) : FnOk P w K mg base CX0 3 f fd ["kind", "parting"] (spSignBy K) := by
  refine F.ok scSignBy (fun vs H Q E h => ?_) (fun cdv A outer s H vs Q E hr h => ?_)
  · obtain ⟨k, v, p, rfl, _⟩ := h
    rfl
  · obtain ⟨k, v, p, rfl, pp, gd, kk⟩ := h
    obtain ⟨g1, g2, g3, g4⟩ := gd_at gd
    obtain ⟨t1, t2, t3⟩ := turnOk_at g2
    refine ⟨_, pss_cons (ps_if (pt_cmpR op_eq (pv 0) pe_str (nomark _)) (pss_cons (ps_set (i := 2) scSignBy.nd rfl (Or.inl rfl) pe_int)
        (pss_cons (ps_for PassesOwn.never rfl (pi_tup (pe_n TU hr (by decide) (by rfl) (pa_cons (pv 1) pa_nil))) (pg_name (i := 3) scSignBy.nd rfl (Or.inl rfl))
          (pss_cons (ps_set (i := 4) scSignBy.nd rfl (Or.inl rfl) (pe_callB call_len_seq (by rfl) T.len (by decide +kernel) (pa_cons (pv 3) pa_nil)))
          (pss_one (ps_aug (i := 2) scSignBy.nd rfl (Or.inl rfl) (pe_n SG hr (by decide) (by rfl) (pa_cons (pe_op op_fdiv (pe_callBfun cr_comb (by rfl) T.comb (pa_cons (pe_op op_sub (pe_op op_mul pe_int (pv 4)) pe_int) (pa_cons (pe_op op_sub (pv 4) pe_int) pa_nil))) (pv 4)) (pa_cons (pv 4) pa_nil))) ip_mul))))
        (pss_one (ps_ret (pv 2))))) pss_nil)
      (C8.pss_cut (ps_set (i := 4) scSignBy.nd rfl (Or.inl rfl) (pe_callB call_len_seq (by rfl) T.len (by decide +kernel) (pa_cons (pv 1) pa_nil)))
      (pss_cons (ps_if (pt_cmpR op_eq (pv 4) pe_int (nomark _)) (pss_one (ps_ret pe_int)) pss_nil)
      (pss_one (ps_ret (pe_n SG hr (by decide) (by rfl) (pa_cons (pe_ifExp (pt_cmpR op_eq (pv 0) pe_str (nomark _)) (pe_callBfun cr_fac (by rfl) T.fac (pa_cons (pe_op op_sub (pv 4) pe_int) pa_nil)) pe_int) (pa_cons (pv 4) pa_nil))))))), ?_⟩
    refine ⟨_, rfl, rfl, _, rfl, ?_⟩
    by_cases ek : k = .free
    · subst ek
      refine ite2 (fun _ => ?_) (fun c => absurd (decide_eq_true rfl) c)
      refine ⟨_, rfl, v, p, rfl, pp, g2, fun H1 L s1 pt => ?_⟩
      obtain ⟨L', ys, e, sl, al⟩ := id pt
      cases e
      have ll := al.len
      obtain ⟨z8, zb⟩ := size_blk (t3 (total p) (Nat.le_refl _))
      refine ⟨L, rfl, ⟨_, sl⟩, for_tup (K := K) (a := L) (xs := ys) (fun i σ H2 => Same H1 H2 ∧ ∃ v3 v4, σ = [some (.str (kdS .free)), some v, some (.int (((turnP p).take i).foldl foldS 1)), v3, v4]) ⟨fun _ _ z => z, none, none, rfl⟩ (fun i σ H2 _ q => Bs.Same.t q.1 sl) ?_ ?_⟩
      · rintro i x σ H2 hx ⟨s2, v3, v4, rfl⟩
        obtain ⟨b, hb, c, rfl, sc⟩ := al.get hx
        have mb := List.mem_of_getElem? hb
        have b7 := g3 b mb
        have b1 := (zb b mb).2
        have lb : (b.map V.int).length = b.length := List.length_map ..
        refine ⟨_, rfl, c, _, rfl, .inr (Bs.Same.t s2 sc), ?_⟩
        rw [lb]
        have hi : i < (turnP p).length := (List.getElem?_eq_some_iff.mp hb).1
        have z9 : (turnP p).length ≤ 8 := z8
        have fs := fold_small ((turnP p).take i) 1
        have p8 : 132 ^ ((turnP p).take i).length ≤ 132 ^ 8 := Nat.pow_le_pow_right (by decide) (by rw [List.length_take]; omega)
        have cc := comb_cat b.length (by simp; omega)
        have f1 : foldS (((turnP p).take i).foldl foldS 1) b = ((turnP p).take (i + 1)).foldl foldS 1 := by
          rw [take_one hb, List.foldl_append]
          rfl
        have sm := cat_small b.length
        have sm2 := sm.2 (cat b.length)
        refine ⟨_, rfl, _, rfl, _, _, rfl, rfl, (.inl (by constructor <;> decide)), _, _, rfl, rfl, _, rfl, _, _, rfl, rfl, _, _, rfl, by omega, by omega, by omega, by omega, _, rfl, _, _, rfl, rfl, ⟨by omega, by omega⟩, _, rfl, _, b.length, rfl, _, _, rfl, rfl, ?_, s2, some (.ref c), some (.int (b.length : Nat)), ?_⟩
        · rw [cc]
          refine wide_mul (a := 64) (b := 8) ?_ ?_ (by decide) (by decide) (by decide)
          · rw [show Int.natAbs 1 = 1 from rfl, Nat.one_mul] at fs
            exact Nat.lt_of_le_of_lt (Nat.le_trans fs p8) (by decide)
          · rw [sm2]
            exact Nat.lt_of_le_of_lt sm.1 (by decide)
        · rw [cc]
          show [_, _, some (V.int (foldS _ b)), _, _] = _
          rw [f1]
      · rintro σ H2 ⟨s2, v3, v4, rfl⟩
        rw [ll, List.take_length]
        exact ⟨_, rfl, kk H2 (s1.trans s2)⟩
    · refine ite2 (fun c => absurd c (by cases k <;> first | exact absurd rfl ek | decide +kernel)) (fun _ => ?_)
      obtain ⟨a, xs, rfl, sx, al⟩ := id pp
      have lx := al.len
      refine ⟨fun σ H1 => Same H H1 ∧ σ = [some (.str (kdS k)), some (.ref a), none, none, some (.int (p.length : Nat))], ?_, ?_⟩
      · refine ⟨_, rfl, a, _, rfl, .inr sx, fun _ _ z => z, ?_⟩
        rw [lx]
        rfl
      rintro σ H1 ⟨s1, rfl⟩
      have k1 := kk H1 s1
      refine ⟨_, rfl, rfl, _, rfl, ?_⟩
      refine ite2 (fun c => ?_) (fun c => ?_)
      · have e0 : p.length = 0 := by
          have := of_decide_eq_true c
          have := V.int.inj this
          omega
        have e1 : signB k p = 1 := by
          cases k with
          | free => exact absurd rfl ek
          | all => show (if p.length = 0 then (1 : Int) else _) = 1; rw [if_pos e0]
          | str => show (if p.length = 0 then (1 : Int) else _) = 1; rw [if_pos e0]
        rw [e1] at k1
        exact k1
      · have e0 : p.length ≠ 0 := fun z => c (by rw [z]; rfl)
        refine ⟨_, rfl, rfl, _, rfl, ?_⟩
        cases k with
        | free => exact absurd rfl ek
        | all =>
          refine ite2 (fun _ => ?_) (fun c => absurd (decide_eq_true rfl) c)
          refine ⟨_, rfl, _, _, rfl, rfl, _, rfl, by omega, by omega, _, rfl, _, p.length, rfl, ?_⟩
          have ee : ((p.length : Nat) - 1 : Int).toNat = p.length - 1 := by omega
          have ff := fac_fact (p.length - 1) (by simp; omega)
          have k1 : Q (.int (if p.length = 0 then 1 else sgn (fact (p.length - 1)) p.length)) H1 := k1
          rw [if_neg e0] at k1
          rw [ee, ff]
          exact k1
        | str =>
          refine ite2 (fun c => absurd c (by decide +kernel)) (fun _ => ?_)
          have k1 : Q (.int (if p.length = 0 then 1 else sgn 1 p.length)) H1 := k1
          rw [if_neg e0] at k1
          exact ⟨_, rfl, _, p.length, rfl, k1⟩
theorem scPartSign : FnScope ["kind", "parting"] ["kind", "parting"] (defScope sPartSign) := ⟨rfl, rfl, rfl, by decide +kernel, rfl, by decide +kernel, by decide +kernel⟩
theorem ok_partSign {CP : Addr} (F : Fun K "parting_sign" "parting_sign" sPartSign f fd) (E_ : ErrOk P w K mg base "BadParting" CP) (NK : Cal P w K mg base 1 "need_kind" spNeedKind) (NP : Cal P w K mg base 5 "need_parting" (spNeedPart K)) (HK : Cal P w K mg base 3 "has_kind" (spHasKind K)) (SB : Cal P w K mg base 3 "sign_by" (spSignBy K)) :
    FnOk P w K mg base (L2.CX P w) 6 f fd ["kind", "parting"] (spPartSign K CP) := by
  refine F.okX scPartSign (fun vs H Q E h => ?_) (fun cdv A outer s H vs Q E hr h => ?_)
  · obtain ⟨k, v, p, rfl, _⟩ := h
    rfl
  · obtain ⟨k, v, p, rfl, pp, gd, k1, k2⟩ := h
    obtain ⟨g1, g2, g3, g4⟩ := gd_at gd
    obtain ⟨t1, t2, t3⟩ := turnOk_at g2
    refine ⟨_, pss_cons (ps_expr (pe_n NK hr (by decide) (by rfl) (pa_cons (pv 0) pa_nil)))
      (pss_cons (ps_if (pt_not (pt_val (pe_n HK hr (by decide) (by rfl) (pa_cons (pv 0) (pa_cons (pe_n NP hr (by decide) (by rfl) (pa_cons (pv 1) pa_nil)) pa_nil))))) (pss_one (ps_rz rfl E_ hr (by decide) (takes_of rfl rfl rfl rfl) (pv 1) (by rfl))) pss_nil)
      (pss_one (ps_ret (pe_n SB hr (by decide) (by rfl) (pa_cons (pv 0) (pa_cons (pv 1) pa_nil)))))), ?_⟩
    refine ⟨_, rfl, k, rfl, ?_⟩
    refine ⟨_, rfl, _, rfl, v, p, rfl, pp, g1, t2, fun H1 s1 => ⟨k, v, p, rfl, pp.mono s1, t2, fun H2 s2 => ⟨_, rfl, ?_⟩⟩⟩
    have s12 := s1.trans s2
    cases e : hasK k p with
    | true => exact iteF ⟨_, rfl, _, rfl, k, v, p, rfl, pp.mono s12, gd, fun H3 s3 => k1 e H3 (s12.trans s3)⟩
    | false => exact iteT ⟨_, rfl, k2 e H2 s12⟩
end
end Rs


set_option Elab.async false
set_option linter.all false
set_option maxRecDepth 100000
set_option maxHeartbeats 1000000
namespace Pg
def rowsOk (n : Nat) : Bool := (List.range (n + 1)).all fun m => decide ((lawRows m).length ≤ 500) && ((lawRows m).all sizeB && (decide (((lawRows m).flatMap fun p => withN p m).length ≤ 900) && (decide ((lawRows m).length ≤ 1) || (lawRows m).all fun p => !p.isEmpty)))
theorem all_rows : ∀ n ∈ [0, 1, 2, 3, 4, 5], rowsOk n = true := by decide +kernel
theorem rows_at {n m : Nat} (h : rowsOk n = true) (hm : m ≤ n) : (lawRows m).length ≤ 500 ∧ (∀ p ∈ lawRows m, sizeB p = true) ∧ ((lawRows m).flatMap fun p => withN p m).length ≤ 900 ∧ ((lawRows m).length ≤ 1 ∨ ∀ p ∈ lawRows m, p.isEmpty = false) := by
  unfold rowsOk at h
  have h2 := List.all_eq_true.mp h m (List.mem_range.mpr (by omega))
  rw [Bool.and_eq_true, Bool.and_eq_true, Bool.and_eq_true, Bool.or_eq_true, decide_eq_true_eq, decide_eq_true_eq, decide_eq_true_eq, List.all_eq_true, List.all_eq_true] at h2
  refine ⟨h2.1, h2.2.1, h2.2.2.1, h2.2.2.2.imp id fun z p hp => ?_⟩
  have := z p hp
  rw [Bool.not_eq_true'] at this
  exact this
end Pg
namespace Rs
open PySem L2 Bs LamX Pg RZ
abbrev sLParts : Stmt := top 35
abbrev NLp : List Str := ["many", "rows", "number", "longer", "blocks", "spot"]
def spLParts (K : PySem.W.Frag) : Sp := fun vs H Q _ => ∃ n : Nat, vs = [.int (n : Nat)] ∧ n ≤ 5 ∧ ∀ H' L ys, Same H H' → H L = none → H' L = some (.lst ys) → Al (Pt K H') ys (sortW (lawRows n)) → Q (.ref L) H'
section
variable {P : Program} {w : World} {K : PySem.W.Frag} {mg : Str → Option Value} {base : Heap} {f : Addr} {fd : FuncData}
theorem scLParts : FnScope NLp ["many"] (defScope sLParts) := ⟨rfl, rfl, rfl, by decide +kernel, rfl, by decide +kernel, by decide +kernel⟩
theorem ok_lparts (F : Fun K "_law_partings" "_law_partings" sLParts f fd) (T : Blt mg) (so : mg "sorted" = none) : FnOk P w K mg base CX0 1 f fd ["many"] (spLParts K) := by
  refine F.ok scLParts (fun vs H Q E h => ?_) (fun cdv A outer s H vs Q E hr h => ?_)
  · obtain ⟨n, rfl, _⟩ := h
    rfl
  · obtain ⟨n, rfl, n5, kk⟩ := h
    have ro := all_rows n (by simp; omega)
    refine ⟨_, pss_cons (ps_set (i := 1) scLParts.nd rfl (Or.inl rfl) (pe_lst (pa_cons (pe_tup pa_nil) pa_nil)))
      (C8.pss_cut (ps_for PassesOwn.never rfl (pi_range1 rfl T.range (pa_cons (pv 0) pa_nil)) (pg_name (i := 2) scLParts.nd rfl (Or.inl rfl))
        (pss_cons (ps_set (i := 3) scLParts.nd rfl (Or.inl rfl) (pe_lst pa_nil))
        (C8.pss_cut (ps_for PassesOwn.never rfl (pi_list (pv 1)) (pg_name (i := 4) scLParts.nd rfl (Or.inl rfl))
          (C8.pss_cut (ps_expr (pe_bm PySem.F.plainAttrs_list PySem.F.slot_list_append PySem.F.type_list_append mt_append (pv 3) (pa_cons (pe_op op_catA (pv 4) (pe_tup (pa_cons (pe_tup (pa_cons (pv 2) pa_nil)) pa_nil))) pa_nil)))
          (pss_one (ps_for PassesOwn.never rfl (pi_range1 rfl T.range (pa_cons (pe_callB call_len_seq (by rfl) T.len (by decide +kernel) (pa_cons (pv 4) pa_nil)) pa_nil)) (pg_name (i := 5) scLParts.nd rfl (Or.inl rfl))
            (pss_one (ps_expr (pe_bm PySem.F.plainAttrs_list PySem.F.slot_list_append PySem.F.type_list_append mt_append (pv 3) (pa_cons (pe_op op_catA (pe_op op_catA (pe_slice sl_tupA (pv 4) po_none (po_some (pv 5))) (pe_tup (pa_cons (pe_op op_catA (pe_ix ix_tup (pv 4) (pv 5) (fun _ _ => rfl)) (pe_tup (pa_cons (pv 2) pa_nil))) pa_nil))) (pe_slice sl_tupA (pv 4) (po_some (pe_op op_add (pv 5) pe_int)) po_none)) pa_nil))))))))
        (pss_one (ps_set (i := 1) scLParts.nd rfl (Or.inl rfl) (pe_callTy call_list_of (by rfl) T.list (by decide +kernel) (pa_cons (pv 3) pa_nil)))))))
      (pss_one (ps_ret (pe_callB (cr_sortedW hr.units) (by rfl) so (by decide +kernel) (pa_cons (pv 1) pa_nil))))), ?_⟩
    refine ⟨(by show 0 ≤ sizeLine; decide), fun p0 hp0 => ⟨(by show 1 ≤ sizeLine; decide), fun L0 hL0 => ?_⟩⟩
    have t1 := same_new (o := .tup []) hp0
    have t2 := same_new (o := .lst [.ref p0]) hL0
    have t12 := t1.trans t2
    have pt0 : Al (Pt K (upd (upd H p0 (.tup [])) L0 (.lst [.ref p0]))) [V.ref p0] (lawRows 0) := .cons ⟨p0, [], rfl, Bs.Same.t t2 (SqT.of upd_same), .nil⟩ .nil
    have gL0 : upd (upd H p0 (.tup [])) L0 (.lst [V.ref p0]) L0 = some (.lst [V.ref p0]) := upd_same
    generalize upd (upd H p0 (.tup [])) L0 (.lst [V.ref p0]) = H0 at *
    refine ⟨fun σ H1 => ∃ L acc v2 v3 v4 v5, Same H H1 ∧ H1 L = some (.lst acc) ∧ Al (Pt K H1) acc (lawRows n) ∧ σ = [some (.int (n : Nat)), some (.ref L), v2, v3, v4, v5], ?_, ?_⟩
    · refine ⟨_, rfl, _, rfl, by omega, by omega, for_range (n := ((n : Nat) : Int).toNat) (fun i σ H1 => ∃ L acc v2 v3 v4 v5, Same H H1 ∧ H1 L = some (.lst acc) ∧ Al (Pt K H1) acc (lawRows i) ∧ σ = [some (.int (n : Nat)), some (.ref L), v2, v3, v4, v5])
        ⟨L0, _, none, none, none, none, t12, gL0, pt0, rfl⟩ ?_ (fun σ H1 z => z)⟩
      rintro i σ H1 hi ⟨L, acc, v2, v3, v4, v5, s1, gL, al, rfl⟩
      obtain ⟨y1, y2, y3, y4⟩ := rows_at ro (show i ≤ n by omega)
      rw [Int.zero_add]
      refine ⟨(by show 0 ≤ sizeLine; decide), fun D hD => ?_⟩
      have s2 := same_new (o := .lst []) hD
      have gD0 : upd H1 D (.lst []) D = some (.lst []) := upd_same
      have gL1 := s2 _ _ gL
      have nL : L ≠ D := fun e => by
        rw [e, hD] at gL
        cases gL
      generalize upd H1 D (.lst []) = H2 at *
      refine ⟨fun σ H3 => ∃ bcc v4 v5, Same H1 H3 ∧ H3 D = some (.lst bcc) ∧ Al (Pt K H3) bcc (lawRows (i + 1)) ∧ σ = [some (.int (n : Nat)), some (.ref L), some (.int (i : Nat)), some (.ref D), v4, v5], ?_, ?_⟩
      · refine ⟨_, rfl, L, rfl, ⟨_, SqL.of gL1⟩, for_it (walk_list (K := K) (a := L) (xs := acc)) (fun j σ H3 => Same H1 H3 ∧ ∃ bcc v4 v5, H3 D = some (.lst bcc) ∧ Al (Pt K H3) bcc (((lawRows i).take j).flatMap fun p => withN p i) ∧ σ = [some (.int (n : Nat)), some (.ref L), some (.int (i : Nat)), some (.ref D), v4, v5])
          ⟨s2, [], v4, v5, gD0, .nil, rfl⟩ (fun j σ H3 _ q => SqL.of (q.1 _ _ gL)) ?_ ?_⟩
        · rintro j x σ H3' H3 hj ⟨s3, bcc, v4', v5', gD, ga, rfl⟩ ⟨e3, hx⟩
          subst e3
          obtain ⟨p, hp, a, xs, rfl, sx0, ai0⟩ := al.get hx
          have zp := size_blk (y2 p (List.mem_of_getElem? hp))
          have fl := flat_one (f := fun p => withN p (i : Int)) hp
          have ln := flat_take_len (f := fun p => withN p (i : Int)) (lawRows i) (j + 1)
          rw [fl, List.length_append] at ln
          have wl : (withN p (i : Int)).length = p.length + 1 := by
            unfold withN
            rw [List.length_cons, List.length_map, List.length_range]
          have sx := Bs.Same.t s3 sx0
          have ai : Al (It K H3) xs p := alI_mono ai0 s3
          have lx := ai.len
          have lb := ga.len
          refine ⟨fun σ H4 => ∃ bc2, Same H1 H4 ∧ H4 D = some (.lst bc2) ∧ Al (Pt K H4) bc2 (((lawRows i).take j).flatMap (fun p => withN p i) ++ [p ++ [[(i : Int)]]]) ∧ σ = [some (.int (n : Nat)), some (.ref L), some (.int (i : Nat)), some (.ref D), some (.ref a), v5'], ?_, ?_⟩
          · refine ⟨_, rfl, .inl ⟨rfl, _, SqL.of gD⟩, _, rfl, _, rfl, (by show 1 ≤ sizeLine; decide), fun p1 hp1 => ⟨(by show 1 ≤ sizeLine; decide), fun p2 hp2 => ?_⟩⟩
            have u1 := same_new (o := .tup [.int (i : Nat)]) hp1
            have u2 := same_new (o := .tup [.ref p1]) hp2
            have u12 := u1.trans u2
            refine cat_any (Bs.Same.t u12 sx) (SqT.of upd_same) (Nat.le_of_lt (small1000 (by show _ + 1 ≤ 1000; omega))) (fun c H5 u3 sc => ?_)
            have u13 := u12.trans u3
            have gD5 := u13 _ _ gD
            refine ⟨D, bcc, _, rfl, rfl, gD5, small1000 (by omega), bcc ++ [.ref c], fun b' o e => (upd_ne (ne_of_none e hD)).trans (u13 b' o (s3 b' o e)), upd_same, ?_, rfl⟩
            have pz : Pt K H5 (.ref c) (p ++ [[(i : Int)]]) := ⟨c, _, rfl, sc, (alI_mono ai u13).snoc ⟨p1, rfl, Bs.Same.t u3 (SqT.of (u2 _ _ upd_same))⟩⟩
            exact (alP_off (alP_mono ga u13) gD5).snoc (pz.off gD5)
          rintro σ H4 ⟨bc2, s4, gD4, ga4, rfl⟩
          have sx4 := Bs.Same.t s4 sx0
          refine ⟨_, rfl, a, xs, rfl, .inr sx4, _, rfl, by omega, by omega, for_range (n := ((xs.length : Nat) : Int).toNat) (fun l σ H5 => ∃ bc3 v5, Same H1 H5 ∧ H5 D = some (.lst bc3) ∧ Al (Pt K H5) bc3 (((lawRows i).take j).flatMap (fun p => withN p i) ++ ((p ++ [[(i : Int)]]) :: (List.range l).map (more p i))) ∧ σ = [some (.int (n : Nat)), some (.ref L), some (.int (i : Nat)), some (.ref D), some (.ref a), v5])
            ⟨bc2, v5', s4, gD4, ga4, rfl⟩ ?_ ?_⟩
          · rintro l σ H5 hl ⟨bc3, v5, s5, gD5, ga5, rfl⟩
            have ii : l < p.length := by omega
            have hb : p[l]? = some (p[l]) := List.getElem?_eq_getElem ii
            obtain ⟨y, hy, c, rfl, sc⟩ := ai0.at hb
            have bb := zp.2 _ (List.mem_of_getElem? hb)
            have gd := getD_some hb
            generalize p[l] = b at *
            have lb5 := ga5.len
            rw [List.length_append, List.length_cons, List.length_map, List.length_range] at lb5
            have sx5 := Bs.Same.t s5 sx0
            rw [Int.zero_add]
            refine ⟨_, rfl, .inl ⟨rfl, _, SqL.of gD5⟩, _, rfl, _, rfl, (l : Int), rfl, ?_⟩
            refine sl_cut sx5 (cut_to (by omega)) fun d1 H6 s6 sd1 => ?_
            have s56 := s5.trans s6
            refine ⟨_, rfl, _, rfl, a, xs, _, _, rfl, rfl, Bs.Same.t s56 sx0, atI_nat hy, _, rfl, (by show 1 ≤ sizeLine; decide), fun p5 hp5 => ?_⟩
            have s7 := same_new (o := .tup [.int (i : Nat)]) hp5
            have s57 := s56.trans s7
            refine cat_any (Bs.Same.t s57 sc) (SqT.of upd_same) (Nat.le_of_lt (small1000 (by rw [List.length_map]; show _ + 1 ≤ 1000; omega))) (fun d2 H8 s8 sd2 => ⟨(by show 1 ≤ sizeLine; decide), fun p7 hp7 => ?_⟩)
            have s9 := same_new (o := .tup [.ref d2]) hp7
            have s89 := s8.trans s9
            refine cat_any (Bs.Same.t (s7.trans s89) sd1) (SqT.of upd_same) (Nat.le_of_lt (small1000 (by rw [List.length_take]; show _ + 1 ≤ 1000; omega))) (fun d3 H10 s10 sd3 => ?_)
            have s610 := (s7.trans s89).trans s10
            refine ⟨_, rfl, _, rfl, _, _, rfl, rfl, (l : Int) + 1, rfl, ?_⟩
            unfold tNoPart
            refine sl_cut (ys := xs.drop (l + 1)) (Bs.Same.t (s56.trans s610) sx0) (by rw [show (l : Int) + 1 = ((l + 1 : Nat) : Int) by omega]; exact cut_from (by omega)) fun d4 H11 s11 sd4 => ?_
            refine cat_any (Bs.Same.t s11 sd3) sd4 (Nat.le_of_lt (small1000 (by rw [List.length_append, List.length_take, List.length_drop]; show _ + 1 + _ ≤ 1000; omega))) (fun d5 H12 s12 sd5 => ?_)
            have s1112 := s11.trans s12
            have s512 := (s6.trans s610).trans s1112
            have gD12 := s512 _ _ gD5
            refine ⟨D, bc3, _, rfl, rfl, gD12, small1000 (by omega), bc3 ++ [.ref d5], _, fun b' o e => (upd_ne (ne_of_none e hD)).trans (s512 b' o (s5 b' o e)), upd_same, ?_, rfl⟩
            have al12 := alI_mono ai0 (s5.trans s512)
            have i2 : It K H12 (.ref d2) (b ++ [(i : Int)]) := ⟨d2, rfl, Bs.Same.t (s9.trans (s10.trans s1112)) (by rw [List.map_append]; exact sd2)⟩
            have pm : Pt K H12 (.ref d5) (more p i l) := ⟨d5, _, rfl, sd5, by
              unfold more
              rw [gd]
              exact ((al12.take l).app (.cons i2 .nil)).app (al12.drop (l + 1))⟩
            rw [List.range_succ, List.map_append, ← List.cons_append, ← List.append_assoc]
            exact (alP_off (alP_mono ga5 s512) gD12).snoc (pm.off gD12)
          · rintro σ H5 ⟨bc3, v5, s5, gD5, ga5, rfl⟩
            rw [show ((xs.length : Nat) : Int).toNat = p.length by omega] at ga5
            refine ⟨s5, bc3, _, _, gD5, ?_, rfl⟩
            rw [fl]
            exact ga5
        · rintro σ H3 ⟨s3, bcc, v4, v5, gD, ga, rfl⟩
          rw [al.len, List.take_length] at ga
          exact ⟨bcc, v4, v5, s3, gD, ga, rfl⟩
      rintro σ H3 ⟨bcc, v4, v5, s3, gD, ga, rfl⟩
      refine ⟨_, rfl, D, bcc, rfl, .inl (SqL.of gD), fun L2 hL2 => ?_⟩
      have s4 := same_new (o := .lst bcc) hL2
      exact ⟨L2, bcc, _, _, _, _, (s1.trans s3).trans s4, upd_same, alP_mono ga s4, rfl⟩
    rintro σ H1 ⟨L, acc, v2, v3, v4, v5, s1, gL, al, rfl⟩
    obtain ⟨y1, y2, y3, y4⟩ := rows_at ro (Nat.le_refl n)
    refine ⟨_, rfl, L, acc, lawRows n, rfl, SqL.of gL, al, y4, fun ys p2 ai hp2 => ?_⟩
    have s2 := same_new (o := .lst ys) hp2
    exact kk _ p2 ys (s1.trans s2) (s1.free hp2) upd_same (alP_mono ai s2)
end
end Rs


set_option Elab.async false
set_option linter.all false
set_option maxRecDepth 100000
set_option maxHeartbeats 1000000
namespace Pg
def homesOk (p : Prt) : Bool := decide (total p ≤ 7) && ((List.range (total p)).all fun n : Nat => !(homes p n).isEmpty)
theorem all_homes : ∀ n ∈ [0, 1, 2, 3, 4, 5], (lawRows n).all homesOk = true := by decide +kernel
theorem homes_at {p : Prt} (h : homesOk p = true) : total p ≤ 7 ∧ ∀ n, n < total p → (homes p (n : Nat)) ≠ [] := by
  unfold homesOk at h
  rw [Bool.and_eq_true, decide_eq_true_eq, List.all_eq_true] at h
  refine ⟨h.1, fun n hn e => ?_⟩
  have := h.2 n (List.mem_range.mpr hn)
  rw [e] at this
  cases this
/-- what breaks freeness -/
def hitB (h : List Nat) (near spot late : Nat) : Bool := decide (h.getD near 0 = h.getD late 0) && (decide (h.getD late 0 ≠ h.getD spot 0) && (h.drop (late + 1)).contains (h.getD spot 0))
theorem freeB_true {h : List Nat} (z : ∀ near, near < h.length → ∀ spot, spot < h.length → near < spot → ∀ late, late < h.length → spot < late → hitB h near spot late = false) : freeB h = true := by
  unfold freeB
  rw [List.all_eq_true]
  intro near h1
  rw [List.all_eq_true]
  intro spot h2
  rw [List.all_eq_true]
  intro late h3
  rw [List.mem_range] at h1 h2 h3
  by_cases c1 : near < spot
  · by_cases c2 : spot < late
    · have := z near h1 spot h2 c1 late h3 c2
      unfold hitB at this
      rw [this]
      simp
    · simp [c2]
  · simp [c1]
theorem freeB_false {h : List Nat} {near spot late : Nat} (h1 : near < h.length) (h2 : spot < h.length) (h3 : late < h.length) (c1 : near < spot) (c2 : spot < late) (hit : hitB h near spot late = true) : freeB h = false := by
  rw [Bool.eq_false_iff]
  intro q
  unfold freeB at q
  have q1 := List.all_eq_true.mp q near (List.mem_range.mpr h1)
  have q2 := List.all_eq_true.mp q1 spot (List.mem_range.mpr h2)
  have q3 := List.all_eq_true.mp q2 late (List.mem_range.mpr h3)
  unfold hitB at hit
  rw [hit] at q3
  simp [c1, c2] at q3
end Pg
namespace Rs
open PySem L2 Bs LamX Pg RZ
abbrev sLHome : Stmt := top 36
abbrev sLFree : Stmt := top 37
abbrev NLh : List Str := ["parting", "number", "spot", "block"]
abbrev NLf : List Str := ["parting", "many", "homes", "number", "near", "spot", "late"]
def spLHome (K : PySem.W.Frag) : Sp := fun vs H Q _ => ∃ (v : V) (p : Prt) (n : Int), vs = [v, .int n] ∧ Pt K H v p ∧ sizeB p = true ∧ homes p n ≠ [] ∧ ∀ H', Same H H' → Q (.int (home p n : Nat)) H'
def spLFree (K : PySem.W.Frag) : Sp := fun vs H Q _ => ∃ (v : V) (p : Prt), vs = [v, .int (total p : Nat)] ∧ Pt K H v p ∧ sizeB p = true ∧ homesOk p = true ∧ ∀ H', Same H H' → Q (.bl (lawFree p)) H'
theorem flat_ints : ∀ b : List Int, (b.map V.int).all flatV = true
  | [] => rfl
  | x :: b => by
    rw [List.map_cons, List.all_cons, flat_ints b]
    rfl
theorem inV_ints (n : Int) : ∀ b : List Int, inV (.int n) (b.map V.int) = b.contains n
  | [] => rfl
  | x :: b => by
    have := inV_ints n b
    unfold inV at this ⊢
    rw [List.map_cons, List.any_cons, this, List.contains_cons]
    congr 1
    show decide _ = _
    by_cases e : n = x
    · subst e
      simp
    · simp [e, Ne.symm e]
section
variable {P : Program} {w : World} {K : PySem.W.Frag} {mg : Str → Option Value} {base : Heap} {f : Addr} {fd : FuncData}
theorem scLHome : FnScope NLh ["parting", "number"] (defScope sLHome) := ⟨rfl, rfl, rfl, by decide +kernel, rfl, by decide +kernel, by decide +kernel⟩
theorem ok_lhome (F : Fun K "_law_home" "_law_home" sLHome f fd) (en : mg "enumerate" = none) : FnOk P w K mg base CX0 1 f fd ["parting", "number"] (spLHome K) := by
  refine F.ok scLHome (fun vs H Q E h => ?_) (fun cdv A outer s H vs Q E hr h => ?_)
  · obtain ⟨v, p, n, rfl, _⟩ := h
    rfl
  · obtain ⟨v, p, n, rfl, ⟨a, xs, rfl, sx, al⟩, sz, ne, kk⟩ := h
    obtain ⟨l8, bl⟩ := size_blk sz
    have lx := al.len
    refine ⟨_, pss_one (ps_ret (pe_ix ix_list (pe_lc (own := [("spot", 2), ("block", 3)]) (g := gTup K 2 (gCons (gName 2) (gCons (gName 3) gNil))) rfl scLHome.nd
          (EnT.pi_enumT (by rfl) en (pa_cons (pv 0) pa_nil)) (blkOk_by (N := NLh) (sc := defScope sLHome) (by decide +kernel))
          (fun _ _ _ _ _ => pg_tup rfl (pgs_cons (pg_name (i := 2) scLHome.nd rfl (Or.inl rfl)) (pgs_cons (pg_name (i := 3) scLHome.nd rfl (Or.inl rfl)) pgs_nil)))
          (fun _ _ _ _ _ => pts_one (pt_cmpR (r := rIn K false) op_in_seq (pv 1) (pv 3) (by rfl)))
          (fun _ _ _ _ _ => pv 2)) pe_int (fun _ _ => rfl))), ?_⟩
    refine ⟨_, rfl, a, xs, rfl, sx, fun D hD => ?_⟩
    refine lc_it (walk_enumT (xs := xs)) (fun j H2 => Same H H2 ∧ H2 D = some (.lst (((List.range j).filter fun k => (p.getD k []).contains n).map fun k : Nat => V.int (k : Nat)))) ⟨same_new hD, upd_same⟩ (fun j H2 _ z => Bs.Same.t z.1 sx) ?_ ?_
    · rintro j x H2 H3 hj ⟨s2, hD2⟩ ⟨T', x', y', rfl, hT, rfl, h1, h2⟩
      cases h1
      have h2' : xs[j]? = some y' := h2
      obtain ⟨b, hb, c, rfl, sc⟩ := al.get h2'
      have s3 := same_new (o := .tup [.int (j : Nat), .ref c]) hT
      have s13 := s2.trans s3
      have lf := List.length_filter_le (fun k => (p.getD k []).contains n) (List.range j)
      rw [List.length_range] at lf
      refine ⟨T', _, rfl, SqT.of upd_same, rfl, _, _, rfl, _, _, rfl, rfl, rfl, ?_⟩
      have gD3 := s3 _ _ hD2
      generalize upd H2 T' (.tup [.int (j : Nat), .ref c]) = H3 at *
      have eb : p.getD j [] = b := getD_some hb
      have fr : (List.range (j + 1)).filter (fun k => (p.getD k []).contains n) = (List.range j).filter (fun k => (p.getD k []).contains n) ++ (if (b.contains n) = true then [j] else []) := by
        rw [List.range_succ, List.filter_append, List.filter_cons, eb]
        rfl
      refine ⟨_, rfl, _, rfl, c, _, rfl, .inr (Bs.Same.t s13 sc), rfl, flat_ints b, _, rfl, ?_⟩
      rw [fr]
      show (if inV (.int n) (b.map V.int) = true then _ else _)
      rw [inV_ints]
      refine ite2 (fun c => ?_) (fun c => ?_)
      · refine ⟨_, rfl, _, gD3, small1000 (by rw [List.length_map]; omega), fun c o e => (upd_ne (ne_of_none e hD)).trans (s13 c o e), ?_⟩
        rw [upd_same, if_pos c, List.map_append]
        rfl
      · rw [if_neg c, List.append_nil]
        exact ⟨s13, gD3⟩
    · rintro H2 ⟨s2, hD2⟩
      rw [lx] at hD2
      have e : home p n = (homes p n).headD 0 := rfl
      cases eh : homes p n with
      | nil => exact absurd eh ne
      | cons k ks =>
        rw [eh] at e
        have k1 := kk H2 s2
        rw [e] at k1
        have eh2 : (List.range p.length).filter (fun k => (p.getD k []).contains n) = k :: ks := eh
        rw [eh2] at hD2
        exact ⟨D, _, _, _, rfl, rfl, SqL.of hD2, atI_nat (j := 0) rfl, k1⟩
end
end Rs


set_option Elab.async false
set_option linter.all false
set_option maxRecDepth 100000
set_option maxHeartbeats 1000000
namespace Rs
open PySem L2 Bs LamX Pg RZ
theorem flat_nats : ∀ b : List Nat, (b.map fun k : Nat => V.int (k : Nat)).all flatV = true
  | [] => rfl
  | x :: b => by
    rw [List.map_cons, List.all_cons, flat_nats b]
    rfl
theorem inV_nats (n : Nat) : ∀ b : List Nat, inV (.int (n : Nat)) (b.map fun k : Nat => V.int (k : Nat)) = b.contains n
  | [] => rfl
  | x :: b => by
    have := inV_nats n b
    unfold inV at this ⊢
    rw [List.map_cons, List.any_cons, this, List.contains_cons]
    congr 1
    show decide _ = _
    by_cases e : n = x
    · subst e
      simp
    · have e2 : (x : Int) ≠ (n : Int) := fun z => e (by omega)
      simp [e, e2]
theorem nat_get {hs : List Nat} {k : Nat} (h : k < hs.length) : (hs.map fun k : Nat => V.int (k : Nat))[k]? = some (V.int (hs.getD k 0 : Nat)) := by
  rw [List.getElem?_map, List.getElem?_eq_getElem h, List.getD_eq_getElem?_getD, List.getElem?_eq_getElem h]
  rfl
theorem take_map_range {α : Type} {f : Nat → α} (i : Nat) : (List.range (i + 1)).map f = (List.range i).map f ++ [f i] := by
  rw [List.range_succ, List.map_append]
  rfl
section
variable {P : Program} {w : World} {K : PySem.W.Frag} {mg : Str → Option Value} {base : Heap} {f : Addr} {fd : FuncData}
theorem scLFree : FnScope NLf ["parting", "many"] (defScope sLFree) := ⟨rfl, rfl, rfl, by decide +kernel, rfl, by decide +kernel, by decide +kernel⟩
theorem ok_lfree (F : Fun K "_law_is_free" "_law_is_free" sLFree f fd) (T : Blt mg) (HO_ : Cal P w K mg base 1 "_law_home" (spLHome K)) : FnOk P w K mg base CX0 2 f fd ["parting", "many"] (spLFree K) := by
  refine F.ok scLFree (fun vs H Q E h => ?_) (fun cdv A outer s H vs Q E hr h => ?_)
  · obtain ⟨v, p, rfl, _⟩ := h
    rfl
  · obtain ⟨v, p, rfl, pp, sz, ho, kk⟩ := h
    obtain ⟨m7, hne⟩ := homes_at ho
    refine ⟨_, C8.pss_cut (ps_setLc (i := 2) (own := [("number", 3)]) (g := gName 3) (tt := tYes) (by rfl) scLFree.nd rfl rfl (sw_true rfl rfl rfl (by decide +kernel)) (pi_range1 rfl T.range (pa_cons (pv 1) pa_nil)) (blkOk_by (N := NLf) (sc := defScope sLFree) (by decide +kernel))
        (fun _ _ _ _ _ => pg_name (i := 3) scLFree.nd rfl (Or.inl rfl)) (fun _ _ _ _ _ => pts_nil)
        (fun _ _ _ _ _ => pe_n HO_ hr (by decide) (by rfl) (pa_cons (pv 0) (pa_cons (pv 3) pa_nil))))
      (C8.pss_cut (ps_for PassesOwn.never rfl (pi_range1 rfl T.range (pa_cons (pv 1) pa_nil)) (pg_name (i := 4) scLFree.nd rfl (Or.inl rfl))
        (pss_one (ps_for PassesOwn.never rfl (pi_range2 rfl T.range (pa_cons (pe_op op_add (pv 4) pe_int) (pa_cons (pv 1) pa_nil))) (pg_name (i := 5) scLFree.nd rfl (Or.inl rfl))
          (pss_one (ps_for PassesOwn.never rfl (pi_range2 rfl T.range (pa_cons (pe_op op_add (pv 5) pe_int) (pa_cons (pv 1) pa_nil))) (pg_name (i := 6) scLFree.nd rfl (Or.inl rfl))
            (pss_one (ps_if (PW.pt (pw_and (pt_chain op_eq op_ne (pe_ix ix_list (pv 2) (pv 4) (fun _ _ => rfl)) (pe_ix ix_list (pv 2) (pv 6) (fun _ _ => rfl)) (pe_ix ix_list (pv 2) (pv 5) (fun _ _ => rfl)))
                (pw_and1 (pt_cmpR op_in_seq (pe_ix ix_list (pv 2) (pv 5) (fun _ _ => rfl)) (pe_slice sl_list (pv 2) (po_some (pe_op op_add (pv 6) pe_int)) po_none) (by rfl))))) (pss_one (ps_ret pe_bl)) pss_nil)))))))
      (pss_one (ps_ret pe_bl))), ?_⟩
    have lfe : lawFree p = freeB ((List.range (total p)).map fun n : Nat => home p n) := rfl
    have hl : ((List.range (total p)).map fun n : Nat => home p n).length = total p := by rw [List.length_map, List.length_range]
    refine ⟨fun σ H1 => ∃ L, Same H H1 ∧ H1 L = some (.lst (((List.range (total p)).map fun n : Nat => home p n).map fun k : Nat => V.int (k : Nat))) ∧ σ = [some v, some (.int (total p : Nat)), some (.ref L), none, none, none, none], ?_, ?_⟩
    · refine ⟨_, rfl, _, rfl, by omega, by omega, fun D hD => ?_⟩
      refine lc_it (walk_range (n := ((total p : Nat) : Int).toNat)) (fun i H2 => Same H H2 ∧ H2 D = some (.lst (((List.range i).map fun n : Nat => home p n).map fun k : Nat => V.int (k : Nat)))) ⟨same_new hD, upd_same⟩ (fun _ _ _ _ => trivial) ?_ ?_
      · rintro i x H2' H2 hi ⟨s2, hD2⟩ ⟨e2, ex⟩
        subst e2
        have ex2 : x = V.int (i : Nat) := by
          rw [ex]
          show V.int (0 + (i : Int)) = _
          rw [Int.zero_add]
        subst ex2
        have im : i < total p := by omega
        refine ⟨rfl, ?_⟩
        refine iteT (B := Same H H2 ∧ H2 D = some (.lst (((List.range (i + 1)).map fun n : Nat => home p n).map fun k : Nat => V.int (k : Nat)))) ?_
        refine ⟨_, rfl, _, rfl, v, p, (i : Nat), rfl, pp.mono s2, sz, hne i im, fun H3 s3 => ?_⟩
        refine ⟨_, s3 _ _ hD2, small1000 (by rw [List.length_map, List.length_map, List.length_range]; omega), fun c o e => (upd_ne (ne_of_none e hD)).trans (s3 c o (s2 c o e)), ?_⟩
        rw [upd_same, take_map_range, List.map_append]
        rfl
      · rintro H2 ⟨s2, hD2⟩
        exact ⟨D, s2, hD2, rfl⟩
    rintro σ H1 ⟨L, s1, gL, rfl⟩
    rw [lfe] at kk
    generalize ((List.range (total p)).map fun n : Nat => home p n) = hs at *
    generalize total p = m at *
    refine ⟨fun σ H2 => Same H1 H2 ∧ freeB hs = true, ?_, ?_⟩
    · refine ⟨_, rfl, _, rfl, by omega, by omega, for_range (n := ((m : Nat) : Int).toNat) (fun i σ H2 => Same H1 H2 ∧ (∀ near, near < i → ∀ spot, spot < m → near < spot → ∀ late, late < m → spot < late → hitB hs near spot late = false) ∧ ∃ v4 v5 v6, σ = [some v, some (.int (m : Nat)), some (.ref L), none, v4, v5, v6])
        ⟨fun _ _ z => z, fun _ c => absurd c (by omega), none, none, none, rfl⟩ ?_ ?_⟩
      · rintro near σ H2 hn ⟨u2, no, v4, v5, v6, rfl⟩
        rw [Int.zero_add]
        refine ⟨_, rfl, _, _, rfl, rfl, _, rfl, _, _, rfl, ⟨by omega, by omega, by omega, by omega⟩, for_range (lo := (near : Int) + 1) (n := ((m : Int) - ((near : Int) + 1)).toNat) (fun j σ H3 => Same H1 H3 ∧ (∀ spot, spot < near + 1 + j → near < spot → ∀ late, late < m → spot < late → hitB hs near spot late = false) ∧ ∃ v5 v6, σ = [some v, some (.int (m : Nat)), some (.ref L), none, some (.int (near : Nat)), v5, v6])
          ⟨u2, fun _ c1 c2 => absurd c1 (by omega), v5, v6, rfl⟩ ?_ ?_⟩
        · rintro j σ H3 hj ⟨u3, no2, v5, v6, rfl⟩
          have es : (near : Int) + 1 + (j : Nat) = ((near + 1 + j : Nat) : Int) := by omega
          rw [es]
          have sm : near + 1 + j < m := by omega
          have sn : near < near + 1 + j := by omega
          generalize esp : near + 1 + j = spot at *
          refine ⟨_, rfl, _, _, rfl, rfl, _, rfl, _, _, rfl, ⟨by omega, by omega, by omega, by omega⟩, for_range (lo := (spot : Int) + 1) (n := ((m : Int) - ((spot : Int) + 1)).toNat) (fun l σ H4 => Same H1 H4 ∧ (∀ late, late < spot + 1 + l → spot < late → hitB hs near spot late = false) ∧ ∃ v6, σ = [some v, some (.int (m : Nat)), some (.ref L), none, some (.int (near : Nat)), some (.int (spot : Nat)), v6])
            ⟨u3, fun _ c1 c2 => absurd c1 (by omega), v6, rfl⟩ ?_ ?_⟩
          · rintro l σ H4 hl2 ⟨u4, no3, v6, rfl⟩
            have es : (spot : Int) + 1 + (l : Nat) = ((spot + 1 + l : Nat) : Int) := by omega
            rw [es]
            have lm : spot + 1 + l < m := by omega
            have lsp : spot < spot + 1 + l := by omega
            have nxt : hitB hs near spot (spot + 1 + l) = false → ∀ late, late < spot + 1 + (l + 1) → spot < late → hitB hs near spot late = false := fun c1 late c2 c3 => by
              by_cases e : late = spot + 1 + l
              · rw [e]; exact c1
              · exact no3 late (by omega) c3
            have bad : hitB hs near spot (spot + 1 + l) = true → ∀ H5, Same H1 H5 → Q (.bl false) H5 := fun c H5 u5 => by
              have k1 := kk H5 (s1.trans u5)
              rw [freeB_false (by omega) (by omega) (by omega) sn lsp c] at k1
              exact k1
            generalize elt : spot + 1 + l = late at *
            have e1 := nat_get (hs := hs) (k := near) (by omega)
            have e2 := nat_get (hs := hs) (k := late) (by omega)
            have e3 := nat_get (hs := hs) (k := spot) (by omega)
            have g1 := SqL.of (K := K) (u4 _ _ gL)
            unfold hitB at nxt bad
            refine ⟨_, rfl, _, rfl, L, _, _, _, rfl, rfl, g1, atI_nat e1, _, rfl, _, rfl, L, _, _, _, rfl, rfl, g1, atI_nat e2, rfl, _, rfl, ?_⟩
            refine ite2 (fun c1 => ?_) (fun c1 => ?_)
            · have d1 : hs.getD near 0 = hs.getD late 0 := by
                have := V.int.inj (of_decide_eq_true c1)
                omega
              refine ⟨_, rfl, _, rfl, L, _, _, _, rfl, rfl, g1, atI_nat e3, rfl, _, rfl, ?_⟩
              refine ite2 (fun c2 => ?_) (fun c2 => ?_)
              · have d2 : hs.getD late 0 ≠ hs.getD spot 0 := fun z => by
                  rw [z] at c2
                  simp at c2
                refine ⟨_, rfl, _, rfl, L, _, _, _, rfl, rfl, g1, atI_nat e3, _, rfl, _, rfl, _, _, rfl, rfl, _, rfl, L, _, rfl, g1, fun q hq => ?_⟩
                have u5 := same_new (o := .lst (cutV (hs.map fun k : Nat => V.int (k : Nat)) (some ((late : Int) + 1)) none)) hq
                have ec : cutV (hs.map fun k : Nat => V.int (k : Nat)) (some ((late : Int) + 1)) none = (hs.drop (late + 1)).map fun k : Nat => V.int (k : Nat) := by
                  rw [show (late : Int) + 1 = ((late + 1 : Nat) : Int) by omega, cut_from (by rw [List.length_map]; omega), List.map_drop]
                rw [ec] at u5 ⊢
                refine ⟨q, _, rfl, .inl (SqL.of upd_same), rfl, flat_nats _, _, rfl, ?_⟩
                show (if inV _ _ = true then _ else _)
                rw [inV_nats]
                rw [decide_eq_true d1, decide_eq_true d2, Bool.true_and, Bool.true_and] at nxt bad
                refine ite2 (fun c3 => ?_) (fun c3 => ?_)
                · exact bad c3 _ (u4.trans u5)
                · exact ⟨u4.trans u5, nxt (Bool.eq_false_iff.mpr c3), _, rfl⟩
              · have d2 : hs.getD late 0 = hs.getD spot 0 := Decidable.byContradiction fun z => c2 (by
                  rw [Bool.not_eq_true', decide_eq_false_iff_not]
                  intro y
                  exact z (by have := V.int.inj y; omega))
                exact ⟨u4, nxt (by rw [decide_eq_false (p := hs.getD late 0 ≠ hs.getD spot 0) (fun z => z d2), Bool.false_and, Bool.and_false]), _, rfl⟩
            · have d1 : hs.getD near 0 ≠ hs.getD late 0 := fun z => c1 (by rw [z]; exact decide_eq_true rfl)
              exact ⟨_, rfl, u4, nxt (by rw [decide_eq_false d1, Bool.false_and]), _, rfl⟩
          · rintro σ H4 ⟨u4, no3, v6, rfl⟩
            refine ⟨u4, fun spot' c1 c2 late c3 c4 => ?_, _, _, rfl⟩
            by_cases e : spot' = spot
            · subst e
              exact no3 late (by omega) c4
            · exact no2 spot' (by omega) c2 late c3 c4
        · rintro σ H3 ⟨u3, no2, v5, v6, rfl⟩
          refine ⟨u3, fun near' c1 spot c2 c3 late c4 c5 => ?_, _, _, _, rfl⟩
          by_cases e : near' = near
          · subst e
            exact no2 spot (by omega) c3 late c4 c5
          · exact no near' (by omega) spot c2 c3 late c4 c5
      · rintro σ H2 ⟨u2, no, v4, v5, v6, rfl⟩
        exact ⟨u2, freeB_true fun near c1 spot c2 c3 late c4 c5 => no near (by omega) spot (by omega) c3 late (by omega) c5⟩
    rintro σ H2 ⟨u2, e⟩
    have k1 := kk H2 (s1.trans u2)
    rw [e] at k1
    exact k1
end
end Rs


set_option Elab.async false
set_option linter.all false
set_option maxRecDepth 100000
set_option maxHeartbeats 1000000
namespace Rs
open PySem L2 Bs LamX Pg RZ
abbrev sLKind : Stmt := top 38
abbrev sLOfKind : Stmt := top 39
abbrev NLk : List Str := ["kind", "parting", "many", "block"]
def spLKind (K : PySem.W.Frag) : Sp := fun vs H Q _ => ∃ (k : Kd) (v : V) (p : Prt), vs = [.str (kdS k), v] ∧ Pt K H v p ∧ sizeB p = true ∧ homesOk p = true ∧ ∀ H', Same H H' → Q (.bl (lawKind k p)) H'
def spLOfKind (K : PySem.W.Frag) : Sp := fun vs H Q _ => ∃ (k : Kd) (n : Nat), vs = [.str (kdS k), .int (n : Nat)] ∧ n ≤ 5 ∧ ∀ H' L ys, Same H H' → H' L = some (.lst ys) → Al (Pt K H') ys ((sortW (lawRows n)).filter (lawKind k)) → Q (.ref L) H'
theorem sum_len (p : Prt) : (p.map fun b => (b.length : Int)).sum = (total p : Int) := by
  unfold total
  induction p with
  | nil => rfl
  | cons b p ih =>
    rw [List.map_cons, List.sum_cons, ih, List.map_cons, List.sum_cons]
    omega
theorem eqv_empty (ns : List Int) : PyData.eqv (.list (ns.map PyData.int)) (.list []) = ns.isEmpty := by
  cases ns <;> simp [PyData.eqv, PyData.eqvAll]
theorem row_ok {n : Nat} (hn : n ≤ 5) {p : Prt} (h : p ∈ lawRows n) : sizeB p = true ∧ homesOk p = true ∧ gdB p = true ∧ oneB p = true := by
  have hm : n ∈ [0, 1, 2, 3, 4, 5] := by simp; omega
  exact ⟨(rows_at (all_rows n hm) (Nat.le_refl n)).2.1 p h, List.all_eq_true.mp (all_homes n hm) p h, List.all_eq_true.mp (all_gd n hm) p h, List.all_eq_true.mp (all_one n hm) p h⟩
section
variable {P : Program} {w : World} {K : PySem.W.Frag} {mg : Str → Option Value} {base : Heap} {f : Addr} {fd : FuncData}
theorem scLKind : FnScope NLk ["kind", "parting"] (defScope sLKind) := ⟨rfl, rfl, rfl, by decide +kernel, rfl, by decide +kernel, by decide +kernel⟩
theorem ok_lkind (F : Fun K "_law_is_kind" "_law_is_kind" sLKind f fd) (T : Blt mg) (su : mg "sum" = none) (LF : Cal P w K mg base 2 "_law_is_free" (spLFree K)) : FnOk P w K mg base CX0 3 f fd ["kind", "parting"] (spLKind K) := by
  refine F.ok scLKind (fun vs H Q E h => ?_) (fun cdv A outer s H vs Q E hr h => ?_)
  · obtain ⟨k, v, p, rfl, _⟩ := h
    rfl
  · obtain ⟨k, v, p, rfl, pp, sz, ho, kk⟩ := h
    refine ⟨_, C8.pss_cut (ps_set (i := 2) scLKind.nd rfl (Or.inl rfl) (pe_callB (cr_sum rfl) (by rfl) su (by decide +kernel) (pa_cons (pe_lc (own := [("block", 3)]) (g := gName 3) (tt := tYes) rfl scLKind.nd (pi_tup (pv 1)) (blkOk_by (N := NLk) (sc := defScope sLKind) (by decide +kernel))
          (fun _ _ _ _ _ => pg_name (i := 3) scLKind.nd rfl (Or.inl rfl)) (fun _ _ _ _ _ => pts_nil)
          (fun _ _ _ _ _ => pe_callB (id := "len") (r := rLenK K) call_len_seq (by rfl) T.len (by decide +kernel) (pa_cons (pv 3) pa_nil))) pa_nil)))
      (pss_cons (ps_if (pt_cmpR op_eq (pv 0) pe_str (nomark _)) (pss_one (ps_ret (pe_n LF hr (by decide) (by rfl) (pa_cons (pv 1) (pa_cons (pv 2) pa_nil))))) pss_nil)
      (pss_one (ps_ret (pe_or (pe_cmpR op_eq (pv 0) pe_str (nomark _)) (pe_one (pe_cmpR (op_eqD hr.units) (pe_lc (own := [("block", 3)]) (g := gName 3) rfl scLKind.nd (pi_tup (pv 1)) (blkOk_by (N := NLk) (sc := defScope sLKind) (by decide +kernel))
          (fun _ _ _ _ _ => pg_name (i := 3) scLKind.nd rfl (Or.inl rfl))
          (fun _ _ _ _ _ => pts_one (pt_cmpR op_ge (pe_op (r := rSub) op_sub (pe_ix (r := rIxT K) ix_tup (pv 3) (pe_un (r := rU fun i => V.int (-i)) un_neg pe_int) (fun _ _ => rfl)) (pe_ix (r := rIxT K) ix_tup (pv 3) pe_int (fun _ _ => rfl))) (pe_callB (id := "len") (r := rLenK K) call_len_seq (by rfl) T.len (by decide +kernel) (pa_cons (pv 3) pa_nil)) (nomark _)))
          (fun _ _ _ _ _ => pe_int)) (pe_lst pa_nil) (nomark _))))))), ?_⟩
    obtain ⟨a, xs, rfl, sx, all⟩ := id pp
    obtain ⟨l8, bl⟩ := size_blk sz
    have lx := all.len
    refine ⟨fun σ H1 => Same H H1 ∧ σ = [some (.str (kdS k)), some (.ref a), some (.int (total p : Nat)), none], ?_, ?_⟩
    · refine ⟨_, rfl, a, rfl, ⟨_, sx⟩, fun D hD => lc_tup (K := K) (a := a) (xs := xs) (fun i H2 => Same H H2 ∧ H2 D = some (.lst (((p.take i).map fun b => (b.length : Int)).map V.int))) ⟨same_new hD, upd_same⟩ (fun i H2 _ z => Bs.Same.t z.1 sx) ?_ ?_⟩
      · rintro i x H2 hx ⟨s2, hD2⟩
        obtain ⟨b, hb, c, rfl, sc⟩ := all.get hx
        refine ⟨rfl, ?_⟩
        refine iteT (B := Same H H2 ∧ H2 D = some (.lst (((p.take (i + 1)).map fun b => (b.length : Int)).map V.int))) ?_
        refine ⟨_, rfl, c, _, rfl, .inr (Bs.Same.t s2 sc), _, hD2, small1000 (by rw [List.length_map, List.length_map, List.length_take]; omega), fun c o e => (upd_ne (ne_of_none e hD)).trans (s2 c o e), ?_⟩
        rw [upd_same, take_one hb, List.map_append, List.map_append, List.length_map]
        rfl
      · rintro H2 ⟨s2, hD2⟩
        rw [lx, List.take_length] at hD2
        refine ⟨D, _, rfl, SqL.of hD2, s2, ?_⟩
        rw [sum_len]
        rfl
    rintro σ H1 ⟨s1, rfl⟩
    have sx1 := Bs.Same.t s1 sx
    refine ⟨_, rfl, rfl, _, rfl, ?_⟩
    cases k with
    | free =>
      refine ite2 (fun _ => ?_) (fun c => absurd (decide_eq_true rfl) c)
      exact ⟨_, rfl, _, rfl, _, p, rfl, pp.mono s1, sz, ho, fun H2 s2 => kk H2 (s1.trans s2)⟩
    | all =>
      refine ite2 (fun c => absurd c (by decide +kernel)) (fun _ => ?_)
      refine ⟨_, rfl, rfl, _, rfl, ?_⟩
      refine ite2 (fun _ => ?_) (fun c => absurd (decide_eq_true rfl) c)
      exact kk H1 s1
    | str =>
      refine ite2 (fun c => absurd c (by decide +kernel)) (fun _ => ?_)
      refine ⟨_, rfl, rfl, _, rfl, ?_⟩
      refine ite2 (fun c => absurd c (by decide +kernel)) (fun _ => ?_)
      refine ⟨_, rfl, a, rfl, ⟨_, sx1⟩, fun D hD => lc_tup (K := K) (a := a) (xs := xs) (fun i H2 => Same H1 H2 ∧ H2 D = some (.lst ((((p.take i).filter fun b => decide ((b.length : Int) ≤ ltI b - hdI b)).map fun _ => (1 : Int)).map V.int))) ⟨same_new hD, upd_same⟩ (fun i H2 _ z => Bs.Same.t z.1 sx1) ?_ ?_⟩
      · rintro i x H2 hx ⟨s2, hD2⟩
        obtain ⟨b, hb, ib⟩ := all.get hx
        have bb := bl b (List.mem_of_getElem? hb)
        obtain ⟨c, rfl, sc⟩ := id ib
        have sc2 := Bs.Same.t (s1.trans s2) sc
        have ne : b.map V.int ≠ [] := fun z => by
          have := congrArg List.length z
          rw [List.length_map] at this
          have h0 : b.length = 0 := this
          omega
        have g0 : (b.map V.int)[0]? = some (V.int (hdI b)) := by rw [List.getElem?_map, hd_at bb.2]; rfl
        have g1 : (b.map V.int)[(b.map V.int).length - 1]? = some (V.int (ltI b)) := by rw [List.length_map, List.getElem?_map, lt_at bb.2]; rfl
        have lf := List.length_filter_le (fun b : Blk => decide ((b.length : Int) ≤ ltI b - hdI b)) (p.take i)
        rw [List.length_take] at lf
        refine ⟨rfl, ?_⟩
        refine ⟨_, rfl, _, rfl, c, _, _, _, rfl, rfl, sc2, atI_neg1 ne g1, _, rfl, c, _, _, _, rfl, rfl, sc2, atI_nat (j := 0) g0, _, _, rfl, rfl, _, rfl, c, _, rfl, .inr sc2, _, _, rfl, rfl, _, rfl, ?_⟩
        rw [take_one hb, List.filter_append, List.map_append, List.map_append, List.length_map]
        refine ite2 (fun c => ?_) (fun c => ?_)
        · refine ⟨_, hD2, small1000 (by rw [List.length_map, List.length_map]; omega), fun c o e => (upd_ne (ne_of_none e hD)).trans (s2 c o e), ?_⟩
          rw [upd_same, List.filter_cons_of_pos (p := fun b : Blk => decide ((b.length : Int) ≤ ltI b - hdI b)) c]
          rfl
        · rw [List.filter_cons_of_neg (p := fun b : Blk => decide ((b.length : Int) ≤ ltI b - hdI b)) c]
          show _ ∧ _ = some (HO.lst (_ ++ []))
          rw [List.append_nil]
          exact ⟨s2, hD2⟩
      · rintro H2 ⟨s2, hD2⟩
        rw [lx, List.take_length] at hD2
        refine ⟨(by show 0 ≤ sizeLine; decide), fun q hq => ?_⟩
        have s3 := same_new (o := .lst []) hq
        refine ⟨_, _, .lst (SqL.of (s3 _ _ hD2)) (dpInts _), .lst (SqL.of upd_same) .nil, shaped_ints _, rfl, ?_⟩
        rw [eqv_empty]
        have e : ((p.filter fun b => decide ((b.length : Int) ≤ ltI b - hdI b)).map fun _ => (1 : Int)).isEmpty = lawKind .str p := by
          rw [List.isEmpty_map]
          show _ = p.all fun b => !decide (ltI b - hdI b ≥ b.length)
          clear hD2 sx1 sx all lx kk pp sz ho l8 bl
          induction p with
          | nil => rfl
          | cons b p ih =>
            rw [List.filter_cons, List.all_cons, ← ih]
            by_cases c : (b.length : Int) ≤ ltI b - hdI b
            · rw [if_pos (decide_eq_true c), decide_eq_true (p := ltI b - hdI b ≥ b.length) c]
              rfl
            · rw [if_neg (by simpa using c), decide_eq_false (p := ltI b - hdI b ≥ b.length) c]
              rfl
        rw [e]
        exact kk _ ((s1.trans s2).trans s3)
theorem scLOfKind : FnScope ["kind", "many", "parting"] ["kind", "many"] (defScope sLOfKind) := ⟨rfl, rfl, rfl, by decide +kernel, rfl, by decide +kernel, by decide +kernel⟩
theorem ok_lofKind (F : Fun K "_law_of_kind" "_law_of_kind" sLOfKind f fd) (LP : Cal P w K mg base 1 "_law_partings" (spLParts K)) (LK : Cal P w K mg base 3 "_law_is_kind" (spLKind K)) : FnOk P w K mg base CX0 4 f fd ["kind", "many"] (spLOfKind K) := by
  refine F.ok scLOfKind (fun vs H Q E h => ?_) (fun cdv A outer s H vs Q E hr h => ?_)
  · obtain ⟨k, n, rfl, _⟩ := h
    rfl
  · obtain ⟨k, n, rfl, n5, kk⟩ := h
    refine ⟨_, pss_one (ps_ret (pe_lc (own := [("parting", 2)]) (g := gName 2) rfl scLOfKind.nd (pi_list (pe_n LP hr (by decide) (by rfl) (pa_cons (pv 1) pa_nil))) (blkOk_by (N := ["kind", "many", "parting"]) (sc := defScope sLOfKind) (by decide +kernel))
          (fun _ _ _ _ _ => pg_name (i := 2) scLOfKind.nd rfl (Or.inl rfl))
          (fun _ _ _ _ _ => pts_one (pt_val (pe_n LK hr (by decide) (by rfl) (pa_cons (pv 0) (pa_cons (pv 2) pa_nil)))))
          (fun _ _ _ _ _ => pv 2))), ?_⟩
    refine ⟨_, rfl, n, rfl, n5, fun H1 L xs s1 nL gL al => ?_⟩
    have lx := al.len
    rw [(sortW_perm _).length_eq] at lx
    have rw5 := (rows_at (all_rows n (by simp; omega)) (Nat.le_refl n)).1
    refine ⟨L, rfl, ⟨_, SqL.of gL⟩, fun D hD => lc_list (K := K) (a := L) (xs := xs) (fun j H3 => Same H1 H3 ∧ ∃ cc, H3 D = some (.lst cc) ∧ Al (Pt K H3) cc (((sortW (lawRows n)).take j).filter (lawKind k))) ⟨same_new hD, [], upd_same, .nil⟩ (fun j H3 _ q => SqL.of (q.1 _ _ gL)) ?_ ?_⟩
    · rintro j x H3 hx ⟨s3, cc, hD3, gc⟩
      obtain ⟨q, hq, iq⟩ := al.get hx
      have mq : q ∈ lawRows n := (sortW_perm _).mem_iff.mp (List.mem_of_getElem? hq)
      obtain ⟨r1, r2, r3, r4⟩ := row_ok n5 mq
      have lc := gc.len
      have lf := List.length_filter_le (lawKind k) ((sortW (lawRows n)).take j)
      have lt := List.length_take_le' j (sortW (lawRows n))
      rw [(sortW_perm _).length_eq] at lt
      refine ⟨rfl, ?_⟩
      refine ⟨_, rfl, _, rfl, k, x, q, rfl, iq.mono s3, r1, r2, fun H4 s4 => ?_⟩
      refine ⟨_, rfl, ?_⟩
      have e := take_one hq
      refine ite2 (fun c => ?_) (fun c => ?_)
      · refine ⟨_, rfl, cc, s4 _ _ hD3, small1000 (by omega), fun c o e => (upd_ne (ne_of_none e hD)).trans (s4 c o (s3 c o e)), cc ++ [x], upd_same, ?_⟩
        rw [e, List.filter_append, List.filter_cons_of_pos c]
        exact (alP_off (alP_mono gc s4) (s4 _ _ hD3)).snoc ((iq.mono (s3.trans s4)).off (s4 _ _ hD3))
      · refine ⟨s3.trans s4, cc, s4 _ _ hD3, ?_⟩
        rw [e, List.filter_append, List.filter_cons_of_neg c]
        show Al _ _ (_ ++ [])
        rw [List.append_nil]
        exact alP_mono gc s4
    · rintro H3 ⟨s3, cc, hD3, gc⟩
      rw [al.len, List.take_length] at gc
      exact kk H3 D cc (s1.trans s3) hD3 gc
end
end Rs


set_option Elab.async false
set_option linter.all false
set_option maxRecDepth 100000
set_option maxHeartbeats 1000000
namespace Pg
def lturnOk (p : Prt) : Bool := decide (total p ≤ 8) && (sizeB p && (List.range (total p + 1)).all fun m => sizeB (lawTurnTo p m))
theorem all_lturn : ∀ n ∈ [0, 1, 2, 3, 4, 5], (lawRows n).all lturnOk = true := by decide +kernel
theorem lturnOk_at {p : Prt} (h : lturnOk p = true) : total p ≤ 8 ∧ sizeB p = true ∧ ∀ m, m ≤ total p → sizeB (lawTurnTo p m) = true := by
  unfold lturnOk at h
  rw [Bool.and_eq_true, Bool.and_eq_true, decide_eq_true_eq, List.all_eq_true] at h
  exact ⟨h.1, h.2.1, fun m hm => h.2.2 m (List.mem_range.mpr (by omega))⟩
/-- what of a block lies behind another one's first up to late -/
def inB (b : Blk) (late : Int) (n : Int) : Bool := decide (hdI b < n) && decide (n ≤ late)
theorem lawCut_eq (b : Blk) (late : Int) (own : Blk) : lawCut b late own = (decide (0 < (own.filter (inB b late)).length) && decide ((own.filter (inB b late)).length < own.length)) := rfl
end Pg
namespace Rs
open PySem L2 Bs LamX Pg RZ
/-- a list of whole numbers other than the one at D -/
def LiD (D : Addr) (H : Hp) (v : V) (ns : List Int) : Prop := ∃ a, v = .ref a ∧ a ≠ D ∧ H a = some (.lst (ns.map V.int))
theorem liD_mono {D : Addr} {H H' : Hp} {vs : List V} {ps : List (List Int)} (h : Al (LiD D H) vs ps) (e : Same H H') : Al (LiD D H') vs ps := h.imp fun _ _ ⟨a, e1, n, g⟩ => ⟨a, e1, n, e _ _ g⟩
theorem liD_off {D : Addr} {H : Hp} {vs : List V} {ps : List (List Int)} {o : HO} (h : Al (LiD D H) vs ps) : Al (LiD D (upd H D o)) vs ps := h.imp fun _ _ ⟨a, e1, n, g⟩ => ⟨a, e1, n, (upd_ne n).trans g⟩
theorem walk_mix {K : PySem.W.Frag} {a b : Addr} {xs ys : List V} {n : Nat} (hn : n = min xs.length ys.length) : Walk (MxZ.ItzM K a b) n (fun H => SqL K H a xs ∧ SqT K H b ys) (YPair (fun i => xs[i]?) (fun i => ys[i]?)) := by
  rw [hn]
  refine ⟨fun i _ hi q => ?_, fun _ q => ⟨xs, ys, q.1, q.2, by omega, by omega, by omega⟩, fun i H v H' _ q y => ?_⟩
  · have h1 : i < xs.length := by omega
    have h2 : i < ys.length := by omega
    exact ⟨xs, ys, xs[i], ys[i], q.1, q.2, List.getElem?_eq_getElem h1, List.getElem?_eq_getElem h2⟩
  · obtain ⟨T, x, z, e1, e2, e3, e4, e5⟩ := y
    exact ⟨T, x, z, e1, e2, e3, e4 xs q.1, e5 ys q.2⟩
theorem any_filter {α : Type} {f : α → Bool} (l : List α) : ((l.filter f).map fun _ => (1 : Int)).isEmpty = !l.any f := by
  rw [List.isEmpty_map]
  induction l with
  | nil => rfl
  | cons x l ih =>
    rw [List.filter_cons, List.any_cons]
    cases f x with
    | true => rfl
    | false => rw [if_neg (by decide), ih, Bool.false_or]
abbrev sLTurned : Stmt := top 40
abbrev NLt : List Str := ["parting", "many", "found", "late", "homes", "spot", "block", "inner", "own", "number", "some"]
def spLTurned (K : PySem.W.Frag) : Sp := fun vs H Q _ => ∃ (v : V) (p : Prt), vs = [v] ∧ Pt K H v p ∧ lturnOk p = true ∧ ∀ H' L, Same H H' → Pt K H' (.ref L) (lawTurn p) → Q (.ref L) H'
section
variable {P : Program} {w : World} {K : PySem.W.Frag} {mg : Str → Option Value} {base : Heap} {f : Addr} {fd : FuncData}
theorem scLTurned : FnScope NLt ["parting"] (defScope sLTurned) := ⟨rfl, rfl, rfl, by decide +kernel, rfl, by decide +kernel, by decide +kernel⟩
theorem ok_lturned (F : Fun K "_law_turned" "_law_turned" sLTurned f fd) (T : Blt mg) (en : mg "enumerate" = none) (zp : mg "zip" = none) (su : mg "sum" = none) : FnOk P w K mg base CX0 1 f fd ["parting"] (spLTurned K) := by
  refine F.ok scLTurned (fun vs H Q E h => ?_) (fun cdv A outer s H vs Q E hr h => ?_)
  · obtain ⟨v, p, rfl, _⟩ := h
    rfl
  · obtain ⟨v, p, rfl, pp, ok, kk⟩ := h
    refine ⟨_, C8.pss_cut (ps_par (i := 1) (j := 2) (by rfl) scLTurned.nd rfl rfl (by decide) rfl rfl (pa_cons (pe_callB (cr_sum rfl) (by rfl) su (by decide +kernel) (pa_cons (pe_lc (own := [("block", 6)]) (g := gName 6) (tt := tYes) rfl scLTurned.nd (pi_tup (pv 0)) (blkOk_by (N := NLt) (sc := defScope sLTurned) (by decide +kernel))
          (fun _ _ _ _ _ => pg_name (i := 6) scLTurned.nd rfl (Or.inl rfl)) (fun _ _ _ _ _ => pts_nil)
          (fun _ _ _ _ _ => pe_callB (id := "len") (r := rLenK K) call_len_seq (by rfl) T.len (by decide +kernel) (pa_cons (pv 6) pa_nil))) pa_nil)) (pa_cons (pe_lst pa_nil) pa_nil)) (by rfl))
      (C8.pss_cut (ps_for PassesOwn.never rfl (pi_range1 rfl T.range (pa_cons (pv 1) pa_nil)) (pg_name (i := 3) scLTurned.nd rfl (Or.inr rfl))
        (pss_cons (ps_set (i := 4) scLTurned.nd rfl (Or.inl rfl) (pe_lst pa_nil))
        (C8.pss_cut (ps_for PassesOwn.never rfl (pi_enum (by rfl) en (pa_cons (pv 2) pa_nil)) (pg_tup rfl (pgs_cons (pg_name (i := 5) scLTurned.nd rfl (.inl rfl)) (pgs_cons (pg_name (i := 6) scLTurned.nd rfl (.inr rfl)) pgs_nil)))
          (C8.pss_cut (ps_setLc (i := 7) (own := [("own", 8)]) (g := gName 8) (tt := tYes) (te := tLc (iTup K (tVar 8)) (gName 9) (tTest (tChain (rI0 fun i j => V.bl (decide (i < j))) (rI0 fun i j => V.bl (decide (i ≤ j))) (tOp (rIxT K) (tVar 6) (tC (.int 0))) (tVar 9) (tVar 3))) (tVar 9) [9]) (by rfl) scLTurned.nd rfl rfl (sw_true rfl rfl rfl (by decide +kernel)) (pi_tup (pv 0)) (blkOk_by (N := NLt) (sc := defScope sLTurned) (by decide +kernel))
              (fun _ _ _ _ _ => pg_name (i := 8) scLTurned.nd rfl (Or.inl rfl)) (fun _ _ _ _ _ => pts_nil)
              (fun _ _ _ _ _ => pe_lc (own := [("number", 9)]) (g := gName 9) (by rfl) scLTurned.nd (pi_tup (pv 8)) (blkOk_by (by rfl))
                (fun _ _ _ _ _ => pg_name (i := 9) scLTurned.nd rfl (Or.inl rfl)) (fun _ _ _ _ _ => pts_one (pt_chain op_lt op_le (pe_ix (r := rIxT K) ix_tup (pv 6) pe_int (fun _ _ => rfl)) (pv 9) (pv 3)))
                (fun _ _ _ _ _ => pv 9)))
          (pss_one (ps_if (pt_cmpR (op_eqD hr.units) (pe_lc (own := [("some", 10), ("own", 8)]) (g := gTup K 2 (gCons (gName 10) (gCons (gName 8) gNil))) (by rfl) scLTurned.nd (MxZ.pi_mix (by rfl) zp (pa_cons (pv 7) (pa_cons (pv 0) pa_nil))) (blkOk_by (N := NLt) (sc := defScope sLTurned) (by decide +kernel))
              (fun _ _ _ _ _ => pg_tup rfl (pgs_cons (pg_name (i := 10) scLTurned.nd rfl (Or.inl rfl)) (pgs_cons (pg_name (i := 8) scLTurned.nd rfl (Or.inl rfl)) pgs_nil)))
              (fun _ _ _ _ _ => pts_one (pt_chain op_lt op_lt pe_int (pe_callB (id := "len") (r := rLenK K) call_len_seq (by rfl) T.len (by decide +kernel) (pa_cons (pv 10) pa_nil)) (pe_callB (id := "len") (r := rLenK K) call_len_seq (by rfl) T.len (by decide +kernel) (pa_cons (pv 8) pa_nil))))
              (fun _ _ _ _ _ => pe_int)) (pe_lst pa_nil) (nomark _))
            (pss_one (ps_expr (pe_bm PySem.F.plainAttrs_list PySem.F.slot_list_append PySem.F.type_list_append mt_append (pv 4) (pa_cons (pv 5) pa_nil)))) pss_nil))))
        (pss_one (ps_if (pt_cmpR (op_eqD hr.units) (pv 4) (pe_lst pa_nil) (nomark _))
          (pss_one (ps_expr (pe_bm PySem.F.plainAttrs_list PySem.F.slot_list_append PySem.F.type_list_append mt_append (pv 2) (pa_cons (pe_tup (pa_cons (pv 3) pa_nil)) pa_nil))))
          (pss_one (ps_asg (pe_op op_catA (pe_ix ix_list (pv 2) (pe_ix ix_list (pv 4) pe_int (fun _ _ => rfl)) (fun _ _ => rfl)) (pe_tup (pa_cons (pv 3) pa_nil))) (pg_sub (pv 2) (pe_ix ix_list (pv 4) pe_int (fun _ _ => rfl)) set_list))))))))
      (pss_one (ps_ret (pe_callTy call_tuple_of (by rfl) T.tuple (by decide +kernel) (pa_cons (pv 2) pa_nil))))), ?_⟩
    obtain ⟨t8, szp, szm⟩ := lturnOk_at ok
    obtain ⟨a, xs, rfl, sx, all⟩ := id pp
    obtain ⟨l8, bl⟩ := size_blk szp
    have lx := all.len
    refine ⟨fun σ H1 => ∃ F, Same H H1 ∧ H F = none ∧ H1 F = some (.lst []) ∧ σ = [some (.ref a), some (.int (total p : Nat)), some (.ref F), none, none, none, none, none, none, none, none], ?_, ?_⟩
    · refine ⟨_, rfl, a, rfl, ⟨_, sx⟩, fun D hD => lc_tup (K := K) (a := a) (xs := xs) (fun i H2 => Same H H2 ∧ H2 D = some (.lst (((p.take i).map fun b => (b.length : Int)).map V.int))) ⟨same_new hD, upd_same⟩ (fun i H2 _ z => Bs.Same.t z.1 sx) ?_ ?_⟩
      · rintro i x H2 hx ⟨s2, hD2⟩
        obtain ⟨b, hb, c, rfl, sc⟩ := all.get hx
        refine ⟨rfl, ?_⟩
        refine iteT (B := Same H H2 ∧ H2 D = some (.lst (((p.take (i + 1)).map fun b => (b.length : Int)).map V.int))) ?_
        refine ⟨_, rfl, c, _, rfl, .inr (Bs.Same.t s2 sc), _, hD2, small1000 (by rw [List.length_map, List.length_map, List.length_take]; omega), fun c o e => (upd_ne (ne_of_none e hD)).trans (s2 c o e), ?_⟩
        rw [upd_same, take_one hb, List.map_append, List.map_append, List.length_map]
        rfl
      · rintro H2 ⟨s2, hD2⟩
        rw [lx, List.take_length] at hD2
        refine ⟨D, _, rfl, SqL.of hD2, ?_⟩
        rw [sum_len]
        refine ⟨(by show 0 ≤ sizeLine; decide), fun F hF => ⟨_, _, rfl, F, s2.trans (same_new hF), s2.free hF, upd_same, rfl⟩⟩
    rintro σ H0 ⟨F, s0, nF, gF0, rfl⟩
    refine ⟨fun σ H1 => ∃ acc v3 v4 v5 v6 v7, Same H H1 ∧ H1 F = some (.lst acc) ∧ Al (It K H1) acc (lawTurnTo p (total p)) ∧ σ = [some (.ref a), some (.int (total p : Nat)), some (.ref F), v3, v4, v5, v6, v7, none, none, none], ?_, ?_⟩
    · refine ⟨_, rfl, _, rfl, by omega, by omega, for_range (n := ((total p : Nat) : Int).toNat) (fun i σ H1 => ∃ acc v3 v4 v5 v6 v7, Same H H1 ∧ H1 F = some (.lst acc) ∧ Al (It K H1) acc (lawTurnTo p i) ∧ σ = [some (.ref a), some (.int (total p : Nat)), some (.ref F), v3, v4, v5, v6, v7, none, none, none])
        ⟨[], none, none, none, none, none, s0, gF0, .nil, rfl⟩ ?_ (fun σ H1 z => z)⟩
      rintro late σ H1 hi ⟨acc, v3, v4, v5, v6, v7, s1, gF, al, rfl⟩
      have im : late < total p := by omega
      obtain ⟨c8, cl⟩ := size_blk (szm late (by omega))
      have la := al.len
      have ts : lawTurnTo p (late + 1) = lawTurnS p (lawTurnTo p late) late := rfl
      unfold lawTurnS at ts
      rw [Int.zero_add]
      refine ⟨(by show 0 ≤ sizeLine; decide), fun Hm hHm => ?_⟩
      have u2 := same_new (o := .lst []) hHm
      have gH0 : upd H1 Hm (.lst []) Hm = some (.lst []) := upd_same
      have gF2 := u2 _ _ gF
      generalize upd H1 Hm (.lst []) = H2 at *
      refine ⟨fun σ H3 => ∃ v5 v6 v7, Same H1 H3 ∧ H3 Hm = some (.lst (((lawBeside p (lawTurnTo p late) late).map fun k : Nat => (k : Int)).map V.int)) ∧ σ = [some (.ref a), some (.int (total p : Nat)), some (.ref F), some (.int (late : Nat)), some (.ref Hm), v5, v6, v7, none, none, none], ?_, ?_⟩
      · refine ⟨_, rfl, F, acc, rfl, SqL.of gF2, for_it (walk_enum (xs := acc)) (fun j σ H3 => Same H1 H3 ∧ H3 Hm = some (.lst ((((List.range j).filter fun k => !(p.any (lawCut ((lawTurnTo p late).getD k []) late))).map fun k : Nat => (k : Int)).map V.int)) ∧ ∃ v5 v6 v7, σ = [some (.ref a), some (.int (total p : Nat)), some (.ref F), some (.int (late : Nat)), some (.ref Hm), v5, v6, v7, none, none, none])
          ⟨u2, gH0, v5, v6, v7, rfl⟩ (fun j σ H3 _ z => SqL.of (z.1 _ _ gF)) ?_ ?_⟩
        · rintro j x σ H3 H4 hj ⟨u3, gH, v5, v6, v7, rfl⟩ ⟨T', x', y', rfl, hT, rfl, h1, h2⟩
          cases h1
          have h2' : acc[j]? = some y' := h2
          obtain ⟨b, hb, c, rfl, sc⟩ := al.get h2'
          have bb := cl b (List.mem_of_getElem? hb)
          have u4 := same_new (o := .tup [.int (j : Nat), .ref c]) hT
          have u14 := u3.trans u4
          have gH4 := u4 _ _ gH
          have g0 : (b.map V.int)[0]? = some (V.int (hdI b)) := by rw [List.getElem?_map, hd_at bb.2]; rfl
          have lf := List.length_filter_le (fun k => !(p.any (lawCut ((lawTurnTo p late).getD k []) late))) (List.range j)
          rw [List.length_range] at lf
          have eb : (lawTurnTo p late).getD j [] = b := getD_some hb
          have fr : (List.range (j + 1)).filter (fun k => !(p.any (lawCut ((lawTurnTo p late).getD k []) late))) = (List.range j).filter (fun k => !(p.any (lawCut ((lawTurnTo p late).getD k []) late))) ++ (if (!(p.any (lawCut b late))) = true then [j] else []) := by
            rw [List.range_succ, List.filter_append, List.filter_cons, eb]
            rfl
          refine ⟨T', _, rfl, SqT.of upd_same, rfl, _, _, rfl, _, _, rfl, rfl, ?_⟩
          generalize upd H3 T' (.tup [.int (j : Nat), .ref c]) = H4 at *
          have s04 := s1.trans u14
          have sx4 := Bs.Same.t s04 sx
          refine ⟨fun σ H5 => ∃ I inn, Same H4 H5 ∧ H5 I = some (.lst inn) ∧ Al (LiD I H5) inn (p.map fun own => own.filter (inB b late)) ∧ σ = [some (.ref a), some (.int (total p : Nat)), some (.ref F), some (.int (late : Nat)), some (.ref Hm), some (.int (j : Nat)), some (.ref c), some (.ref I), none, none, none], ?_, ?_⟩
          · refine ⟨_, rfl, a, rfl, ⟨_, sx4⟩, fun D1 hD1 => ?_⟩
            refine lc_tup (K := K) (a := a) (xs := xs) (fun i H5 => Same H4 H5 ∧ ∃ inn, H5 D1 = some (.lst inn) ∧ Al (LiD D1 H5) inn ((p.take i).map fun own => own.filter (inB b late))) ⟨same_new hD1, [], upd_same, .nil⟩ (fun i H5 _ z => Bs.Same.t z.1 sx4) ?_ ?_
            · rintro i x H5 hx ⟨s5, inn, gD1, li⟩
              obtain ⟨own, hown, c2, rfl, sc2⟩ := all.get hx
              have bo := bl own (List.mem_of_getElem? hown)
              have sc5 := Bs.Same.t (s04.trans s5) sc2
              have ll := li.len
              rw [List.length_map, List.length_take] at ll
              refine ⟨rfl, ?_⟩
              refine iteT (B := Same H4 H5 ∧ ∃ inn, H5 D1 = some (.lst inn) ∧ Al (LiD D1 H5) inn ((p.take (i + 1)).map fun own => own.filter (inB b late))) ?_
              refine ⟨_, rfl, c2, rfl, ⟨_, sc5⟩, fun D2 hD2 => ?_⟩
              have nD : D2 ≠ D1 := fun e => by
                rw [e, gD1] at hD2
                cases hD2
              refine lc_tup (K := K) (a := c2) (xs := own.map V.int) (fun l H6 => Same H5 H6 ∧ H6 D2 = some (.lst (((own.take l).filter (inB b late)).map V.int))) ⟨same_new hD2, upd_same⟩ (fun l H6 _ z => Bs.Same.t z.1 sc5) ?_ ?_
              · rintro l y H6 hy ⟨s6, gD2⟩
                obtain ⟨t, ht, rfl⟩ := some_int hy
                have lf2 := List.length_filter_le (inB b late) (own.take l)
                rw [List.length_take] at lf2
                have goF : inB b late t = false → Same H5 H6 ∧ H6 D2 = some (.lst (((own.take (l + 1)).filter (inB b late)).map V.int)) := fun e => by
                  refine ⟨s6, ?_⟩
                  rw [gD2, take_one ht, List.filter_append, List.map_append, List.filter_cons_of_neg (by rw [e]; decide)]
                  show _ = some (HO.lst (_ ++ []))
                  rw [List.append_nil]
                refine ⟨rfl, ?_⟩
                refine ⟨_, rfl, c, _, _, _, rfl, rfl, Bs.Same.t ((u14.trans s5).trans s6) sc, atI_nat (j := 0) g0, _, rfl, _, _, rfl, rfl, _, rfl, ?_⟩
                refine ite2 (fun c1 => ?_) (fun c1 => ?_)
                · refine ⟨_, rfl, _, _, rfl, rfl, _, rfl, ?_⟩
                  refine ite2 (fun c2 => ?_) (fun c2 => ?_)
                  · refine ⟨_, rfl, _, gD2, small1000 (by rw [List.length_map]; omega), fun b' o e => (upd_ne (ne_of_none e hD2)).trans (s6 b' o e), ?_⟩
                    rw [upd_same, take_one ht, List.filter_append, List.map_append, List.filter_cons_of_pos (by unfold inB; rw [c1, c2]; rfl)]
                    rfl
                  · exact goF (by unfold inB; rw [c1, Bool.eq_false_iff.mpr c2]; rfl)
                · exact ⟨_, rfl, goF (by unfold inB; rw [Bool.eq_false_iff.mpr c1]; rfl)⟩
              · rintro H6 ⟨s6, gD2⟩
                rw [List.length_map, List.take_length] at gD2
                have gD6 := s6 _ _ gD1
                refine ⟨inn, gD6, small1000 (by omega), fun b' o e => (upd_ne (ne_of_none e hD1)).trans (s6 b' o (s5 b' o e)), inn ++ [.ref D2], upd_same, ?_⟩
                rw [take_one hown, List.map_append]
                exact (liD_off (liD_mono li s6)).snoc ⟨D2, rfl, nD, (upd_ne nD).trans gD2⟩
            · rintro H5 ⟨s5, inn, gD1, li⟩
              rw [lx, List.take_length] at li
              exact ⟨D1, inn, s5, gD1, li, rfl⟩
          rintro σ H5 ⟨I, inn, u5, gI, li, rfl⟩
          have ln := li.len
          rw [List.length_map] at ln
          have s05 := s04.trans u5
          have sx5 := Bs.Same.t s05 sx
          refine ⟨_, rfl, _, rfl, I, a, _, _, rfl, SqL.of gI, sx5, fun D hD => ?_⟩
          refine lc_it (walk_mix (xs := inn) (ys := xs) (n := p.length) (by omega)) (fun i H6 => Same H5 H6 ∧ H6 D = some (.lst ((((p.take i).filter (lawCut b late)).map fun _ => (1 : Int)).map V.int))) ⟨same_new hD, upd_same⟩ (fun i H6 _ z => ⟨SqL.of (z.1 _ _ gI), Bs.Same.t z.1 sx5⟩) ?_ ?_
          · rintro i x H6 H7 hi ⟨s6, gD⟩ ⟨T2, x2, y2, rfl, hT2, rfl, k1, k2⟩
            have k1' : inn[i]? = some x2 := k1
            have k2' : xs[i]? = some y2 := k2
            obtain ⟨ns, hns, a2, rfl, na2, ga2⟩ := li.get k1'
            obtain ⟨own, hown, c2, rfl, sc2⟩ := all.get k2'
            have ens : ns = own.filter (inB b late) := by
              rw [List.getElem?_map, hown] at hns
              exact (Option.some.inj hns).symm
            subst ens
            have u7 := same_new (o := .tup [.ref a2, .ref c2]) hT2
            have s67 := s6.trans u7
            have gD7 := u7 _ _ gD
            refine ⟨T2, _, rfl, SqT.of upd_same, rfl, _, _, rfl, _, _, rfl, rfl, rfl, ?_⟩
            generalize upd H6 T2 (.tup [.ref a2, .ref c2]) = H7 at *
            have lf2 := List.length_filter_le (lawCut b late) (p.take i)
            rw [List.length_take] at lf2
            have e1 : (((own.filter (inB b late)).map V.int).length : Int) = ((own.filter (inB b late)).length : Nat) := by rw [List.length_map]
            have e2 : ((own.map V.int).length : Int) = (own.length : Nat) := by rw [List.length_map]
            have goF : lawCut b late own = false → Same H5 H7 ∧ H7 D = some (.lst ((((p.take (i + 1)).filter (lawCut b late)).map fun _ => (1 : Int)).map V.int)) := fun e => by
              refine ⟨s67, ?_⟩
              rw [gD7, take_one hown, List.filter_append, List.map_append, List.map_append, List.filter_cons_of_neg (by rw [e]; decide)]
              show _ = some (HO.lst (_ ++ []))
              rw [List.append_nil]
            rw [lawCut_eq] at goF
            refine ⟨_, rfl, a2, _, rfl, .inl (SqL.of (s67 _ _ ga2)), _, _, rfl, rfl, _, rfl, ?_⟩
            refine ite2 (fun c1 => ?_) (fun c1 => ?_)
            · have d1 := of_decide_eq_true c1
              have d1' : decide (0 < (own.filter (inB b late)).length) = true := decide_eq_true (by omega)
              refine ⟨_, rfl, c2, _, rfl, .inr (Bs.Same.t (s05.trans s67) sc2), _, _, rfl, rfl, _, rfl, ?_⟩
              refine ite2 (fun c2 => ?_) (fun c2 => ?_)
              · have d2 := of_decide_eq_true c2
                refine ⟨_, gD7, small1000 (by rw [List.length_map, List.length_map]; omega), fun b' o e => (upd_ne (ne_of_none e hD)).trans (s67 b' o e), ?_⟩
                rw [upd_same, take_one hown, List.filter_append, List.map_append, List.map_append, List.filter_cons_of_pos (by rw [lawCut_eq, d1', decide_eq_true (by omega)]; rfl)]
                rfl
              · exact goF (by rw [d1', decide_eq_false (fun z => c2 (decide_eq_true (by omega)))]; rfl)
            · exact ⟨_, rfl, goF (by rw [decide_eq_false (fun z => c1 (decide_eq_true (by omega)))]; rfl)⟩
          · rintro H6 ⟨s6, gD⟩
            rw [List.take_length] at gD
            refine ⟨(by show 0 ≤ sizeLine; decide), fun q hq => ?_⟩
            have s7 := same_new (o := .lst []) hq
            refine ⟨_, _, .lst (SqL.of (s7 _ _ gD)) (dpInts _), .lst (SqL.of upd_same) .nil, shaped_ints _, rfl, _, rfl, ?_⟩
            rw [eqv_empty, any_filter, fr]
            have s57 := (u5.trans s6).trans s7
            have gH7 := s57 _ _ gH4
            refine ite2 (fun c => ?_) (fun c => ?_)
            · refine ⟨_, rfl, .inl ⟨rfl, _, SqL.of gH7⟩, _, rfl, Hm, _, _, rfl, rfl, gH7, small1000 (by rw [List.length_map, List.length_map]; omega), fun b' o e => (upd_ne (ne_of_none e hHm)).trans (s57 b' o (u14 b' o e)), ?_, _, _, _, rfl⟩
              rw [upd_same, if_pos c, List.map_append, List.map_append]
              rfl
            · rw [if_neg c, List.append_nil]
              exact ⟨u14.trans s57, gH7, _, _, _, rfl⟩
        · rintro σ H3 ⟨u3, gH, v5, v6, v7, rfl⟩
          rw [la] at gH
          exact ⟨v5, v6, v7, u3, gH, rfl⟩
      rintro σ H3 ⟨v5, v6, v7, u3, gH, rfl⟩
      have s13 := s1.trans u3
      have gF3 := u3 _ _ gF
      refine ⟨_, rfl, (by show 0 ≤ sizeLine; decide), fun q hq => ?_⟩
      have u4 := same_new (o := .lst []) hq
      have gH4 := u4 _ _ gH
      have gF4 := u4 _ _ gF3
      have s14 := s13.trans u4
      have al4 := alI_mono al (u3.trans u4)
      refine ⟨_, _, .lst (SqL.of gH4) (dpInts _), .lst (SqL.of upd_same) .nil, shaped_ints _, rfl, _, rfl, ?_⟩
      rw [eqv_empty]
      generalize upd H3 q (.lst []) = H4 at *
      cases eb : lawBeside p (lawTurnTo p late) late with
      | nil =>
        rw [eb] at ts gH4
        refine iteT ?_
        refine ⟨_, rfl, .inl ⟨rfl, _, SqL.of gF4⟩, _, rfl, (by show 1 ≤ sizeLine; decide), fun p4 hp4 => ?_⟩
        have s5 := same_new (o := .tup [.int (late : Nat)]) hp4
        have gF5 := s5 _ _ gF4
        refine ⟨F, acc, _, rfl, rfl, gF5, small1000 (by omega), acc ++ [.ref p4], _, _, _, _, _, fun b' o e => (upd_ne (ne_of_none e nF)).trans (s5 b' o (s14 b' o e)), upd_same, ?_, rfl⟩
        have ts2 : lawTurnTo p (late + 1) = lawTurnTo p late ++ [[(late : Int)]] := ts
        rw [ts2]
        exact alI_off ((alI_mono al4 s5).snoc ⟨p4, rfl, SqT.of upd_same⟩) gF5
      | cons k ks =>
        rw [eb] at ts gH4
        have ts2 : lawTurnTo p (late + 1) = (lawTurnTo p late).set k ((lawTurnTo p late).getD k [] ++ [(late : Int)]) := ts
        have kb : k ∈ lawBeside p (lawTurnTo p late) late := by rw [eb]; exact List.mem_cons_self
        unfold lawBeside at kb
        have kl : k < (lawTurnTo p late).length := List.mem_range.mp (List.mem_filter.mp kb).1
        have hb : (lawTurnTo p late)[k]? = some ((lawTurnTo p late)[k]) := List.getElem?_eq_getElem kl
        obtain ⟨x, hx, ix⟩ := al4.at hb
        have bb := cl _ (List.mem_of_getElem? hb)
        rw [getD_some hb] at ts2
        generalize (lawTurnTo p late)[k] = b at *
        obtain ⟨c, rfl, sc⟩ := id ix
        refine iteF ?_
        refine ⟨_, rfl, _, rfl, Hm, _, _, _, rfl, rfl, SqL.of gH4, atI_nat (j := 0) rfl, F, acc, _, _, rfl, rfl, SqL.of gF4, atI_nat hx, _, rfl, (by show 1 ≤ sizeLine; decide), fun p4 hp4 => ?_⟩
        have s5 := same_new (o := .tup [.int (late : Nat)]) hp4
        refine cat_any (Bs.Same.t s5 sc) (SqT.of upd_same) (Nat.le_of_lt (small1000 (by rw [List.length_map]; show _ + 1 ≤ 1000; omega))) (fun d H6 s6 sd => ?_)
        have s56 := s5.trans s6
        have gF6 := s56 _ _ gF4
        have gH6 := s56 _ _ gH4
        refine ⟨_, rfl, _, rfl, Hm, _, _, _, rfl, rfl, SqL.of gH6, atI_nat (j := 0) rfl, F, acc, k, k, rfl, rfl, gF6, ixn (by omega), acc.set k (.ref d), _, _, _, _, _, fun b' o e => (upd_ne (ne_of_none e nF)).trans (s56 b' o (s14 b' o e)), upd_same, ?_, rfl⟩
        rw [ts2]
        exact alI_off ((alI_mono al4 s56).set k ⟨d, rfl, by rw [List.map_append]; exact sd⟩) gF6
    rintro σ H1 ⟨acc, v3, v4, v5, v6, v7, s1, gF, al, rfl⟩
    refine ⟨_, rfl, F, acc, rfl, .inl ⟨SqL.of gF, fun l hl => ?_⟩⟩
    have s2 := same_new (o := .tup acc) hl
    exact kk _ l (s1.trans s2) ⟨l, acc, rfl, SqT.of upd_same, alI_mono al s2⟩
end
end Rs


set_option Elab.async false
set_option linter.all false
set_option maxRecDepth 100000
set_option maxHeartbeats 1000000
namespace Pg
theorem sg_at {m : Nat} (h0 : 0 < m) (h7 : m ≤ 7) : ([L2.V.int 1, .int (-1), .int 2, .int (-5), .int 14, .int (-42), .int 132])[m - 1]? = some (L2.V.int ([1, -1, 2, -5, 14, -42, 132].getD (m - 1) 0)) := by
  have : m = 1 ∨ m = 2 ∨ m = 3 ∨ m = 4 ∨ m = 5 ∨ m = 6 ∨ m = 7 := by omega
  rcases this with rfl | rfl | rfl | rfl | rfl | rfl | rfl <;> rfl
theorem sg_small (m : Nat) : -200 < ([1, -1, 2, -5, 14, -42, 132] : List Int).getD (m - 1) 0 ∧ ([1, -1, 2, -5, 14, -42, 132] : List Int).getD (m - 1) 0 < 200 := by
  rcases (by omega : m - 1 = 0 ∨ m - 1 = 1 ∨ m - 1 = 2 ∨ m - 1 = 3 ∨ m - 1 = 4 ∨ m - 1 = 5 ∨ m - 1 = 6 ∨ 7 ≤ m - 1) with e | e | e | e | e | e | e | e
  case inr.inr.inr.inr.inr.inr.inr =>
    rw [List.getD_eq_getElem?_getD, List.getElem?_eq_none (by simpa using e)]
    decide
  all_goals rw [e]; decide
theorem one_at {p : Prt} (h : oneB p = true) : validB p = true ∧ sizeB p = true ∧ sizeB (turnP p) = true ∧ total p ≤ 7 ∧ (∀ k : Kd, hasK k p = lawKind k p ∧ (lawKind k p = true → signB k p = lawSign k p)) ∧ turnP p = lawTurn p ∧ lawKind .free (turnP p) = true ∧ (lawKind .free p = true → (turnP p).length + p.length = total p + (if total p = 0 then 0 else 1)) := by
  unfold oneB at h
  simp only [Bool.and_eq_true, decide_eq_true_eq, List.all_eq_true, beq_iff_eq, Bool.or_eq_true, Bool.not_eq_true'] at h
  obtain ⟨h1, h2, h3, h4, h5, h6, h7, h8⟩ := h
  refine ⟨h1, h2, h3, h4, fun k => ?_, h6, h7, fun e => ?_⟩
  · have := h5 k (by cases k <;> decide)
    refine ⟨this.1, fun e => ?_⟩
    rcases this.2 with z | z
    · rw [e] at z
      cases z
    · exact z
  · rcases h8 with z | z
    · rw [e] at z
      cases z
    · exact z
end Pg
namespace Rs
open PySem L2 Bs LamX Pg RZ
abbrev sLSign : Stmt := top 41
abbrev NLg : List Str := ["kind", "parting", "found", "block", "k"]
def spLSign (K : PySem.W.Frag) : Sp := fun vs H Q _ => ∃ (k : Kd) (v : V) (p : Prt), vs = [.str (kdS k), v] ∧ Pt K H v p ∧ gdB p = true ∧ oneB p = true ∧ lturnOk p = true ∧ ∀ H', Same H H' → Q (.int (lawSign k p)) H'
section
variable {P : Program} {w : World} {K : PySem.W.Frag} {mg : Str → Option Value} {base : Heap} {f : Addr} {fd : FuncData}
theorem scLSign : FnScope NLg ["kind", "parting"] (defScope sLSign) := ⟨rfl, rfl, rfl, by decide +kernel, rfl, by decide +kernel, by decide +kernel⟩
theorem ok_lsign (F : Fun K "_law_sign" "_law_sign" sLSign f fd) (T : Blt mg) (LT : Cal P w K mg base 1 "_law_turned" (spLTurned K)) : FnOk P w K mg base CX0 2 f fd ["kind", "parting"] (spLSign K) := by
  refine F.ok scLSign (fun vs H Q E h => ?_) (fun cdv A outer s H vs Q E hr h => ?_)
  · obtain ⟨k, v, p, rfl, _⟩ := h
    rfl
  · obtain ⟨k, v, p, rfl, pp, gd, on, lo, kk⟩ := h
    obtain ⟨g1, g2, g3, g4⟩ := gd_at gd
    obtain ⟨t1, t2, t3⟩ := turnOk_at g2
    obtain ⟨-, -, -, m7, -, tt, -, -⟩ := one_at on
    refine ⟨_, pss_cons (ps_set (i := 2) scLSign.nd rfl (Or.inl rfl) pe_int)
      (pss_cons (ps_if (pt_cmpR op_eq (pv 0) pe_str (nomark _))
        (pss_cons (ps_for PassesOwn.never rfl (pi_tup (pe_n LT hr (by decide) (by rfl) (pa_cons (pv 1) pa_nil))) (pg_name (i := 3) scLSign.nd rfl (Or.inl rfl))
          (pss_one (ps_set (i := 2) scLSign.nd rfl (Or.inl rfl) (pe_op op_mul (pv 2) (pe_ix ix_tup (pe_tup (pa_cons pe_int (pa_cons (pe_un un_neg pe_int) (pa_cons pe_int (pa_cons (pe_un un_neg pe_int) (pa_cons pe_int (pa_cons (pe_un un_neg pe_int) (pa_cons pe_int pa_nil)))))))) (pe_op op_sub (pe_callB call_len_seq (by rfl) T.len (by decide +kernel) (pa_cons (pv 3) pa_nil)) pe_int) (fun _ _ => rfl))))))
        (pss_one (ps_ret (pv 2)))) pss_nil)
      (pss_cons (ps_for PassesOwn.never rfl (pi_range2 rfl T.range (pa_cons pe_int (pa_cons (pe_callB call_len_seq (by rfl) T.len (by decide +kernel) (pa_cons (pv 1) pa_nil)) pa_nil))) (pg_name (i := 4) scLSign.nd rfl (Or.inl rfl))
        (pss_one (ps_set (i := 2) scLSign.nd rfl (Or.inl rfl) (pe_op op_mul (pv 2) (pe_ifExp (pt_cmpR op_eq (pv 0) pe_str (nomark _)) (pe_op op_sub pe_int (pv 4)) (pe_un un_neg pe_int))))))
      (pss_one (ps_ret (pv 2))))), ?_⟩
    refine ⟨_, rfl, rfl, _, rfl, ?_⟩
    by_cases ek : k = .free
    · subst ek
      refine ite2 (fun _ => ?_) (fun c => absurd (decide_eq_true rfl) c)
      refine ⟨_, rfl, v, p, rfl, pp, lo, fun H1 L s1 pt => ?_⟩
      obtain ⟨L', ys, e, sl, al⟩ := id pt
      cases e
      have ll := al.len
      refine ⟨L, rfl, ⟨_, sl⟩, for_tup (K := K) (a := L) (xs := ys) (fun i σ H2 => Same H1 H2 ∧ ∃ v3, σ = [some (.str (kdS .free)), some v, some (.int (((lawTurn p).take i).foldl (fun w b => w * sg b) 1)), v3, none]) ⟨fun _ _ z => z, none, rfl⟩ (fun i σ H2 _ q => Bs.Same.t q.1 sl) ?_ ?_⟩
      · rintro i x σ H2 hx ⟨s2, v3, rfl⟩
        obtain ⟨b, hb, c, rfl, sc⟩ := al.get hx
        have mb := List.mem_of_getElem? hb
        have b7 := g3 b (by rw [tt]; exact mb)
        have b1 : 0 < b.length := (size_blk (t3 (total p) (Nat.le_refl _))).2 b (by
          show b ∈ turnP p
          rw [tt]
          exact mb) |>.2
        have f1 : ((lawTurn p).take i).foldl (fun w b => w * sg b) 1 * sg b = ((lawTurn p).take (i + 1)).foldl (fun w b => w * sg b) 1 := by
          rw [take_one hb, List.foldl_append]
          rfl
        have e1 : ((b.map V.int).length : Int) - 1 = ((b.length - 1 : Nat) : Int) := by rw [List.length_map]; omega
        have sm := sg_small b.length
        refine ⟨_, rfl, _, rfl, _, rfl, _, rfl, (by show 7 ≤ sizeLine; decide), fun q hq => ?_⟩
        have s3 := same_new (o := .tup [.int 1, .int (-1), .int 2, .int (-5), .int 14, .int (-42), .int 132]) hq
        refine ⟨_, rfl, c, _, rfl, .inr (Bs.Same.t (s2.trans s3) sc), _, _, rfl, rfl, q, _, _, _, rfl, rfl, SqT.of upd_same, by rw [e1]; exact atI_nat (sg_at b1 b7), _, _, rfl, rfl, .inr ⟨by omega, by omega⟩, s2.trans s3, some (.ref c), ?_⟩
        show [_, _, some (V.int (_ * sg b)), _, _] = _
        rw [f1]
      · rintro σ H2 ⟨s2, v3, rfl⟩
        rw [ll, List.take_length]
        exact ⟨_, rfl, kk H2 (s1.trans s2)⟩
    · refine ite2 (fun c => absurd c (by cases k <;> first | exact absurd rfl ek | decide +kernel)) (fun _ => ?_)
      obtain ⟨a, xs, rfl, sx, al⟩ := id pp
      have lx := al.len
      refine ⟨_, rfl, a, xs, rfl, .inr sx, _, _, rfl, ⟨by omega, by omega, by omega, by omega⟩, for_range (lo := 1) (n := ((xs.length : Int) - 1).toNat) (fun i σ H2 => Same H H2 ∧ ∃ v4, σ = [some (.str (kdS k)), some (.ref a), some (.int ((List.range i).foldl (fun w i => w * (if k = .all then (0 - ((1 + i : Nat) : Int)) else -1)) 1)), none, v4]) ⟨fun _ _ z => z, none, rfl⟩ ?_ ?_⟩
      · rintro i σ H2 hi ⟨s2, v4, rfl⟩
        have es : (1 : Int) + (i : Nat) = ((1 + i : Nat) : Int) := by omega
        rw [es]
        have f1 : (List.range (i + 1)).foldl (fun w i => w * (if k = .all then (0 - ((1 + i : Nat) : Int)) else -1)) 1 = (List.range i).foldl (fun w i => w * (if k = .all then (0 - ((1 + i : Nat) : Int)) else -1)) 1 * (if k = .all then (0 - ((1 + i : Nat) : Int)) else -1) := by
          rw [List.range_succ, List.foldl_append]
          rfl
        rw [f1]
        generalize (List.range i).foldl (fun w i => w * (if k = .all then (0 - ((1 + i : Nat) : Int)) else -1)) 1 = acc
        refine ⟨_, rfl, _, rfl, rfl, _, rfl, ?_⟩
        cases k with
        | free => exact absurd rfl ek
        | all =>
          refine ite2 (fun _ => ?_) (fun c => absurd (decide_eq_true rfl) c)
          rw [if_pos rfl]
          exact ⟨_, rfl, _, _, rfl, rfl, _, _, rfl, rfl, .inr ⟨by omega, by omega⟩, s2, _, rfl⟩
        | str =>
          refine ite2 (fun c => absurd c (by decide +kernel)) (fun _ => ?_)
          rw [if_neg (by decide)]
          exact ⟨_, rfl, _, _, rfl, rfl, .inr ⟨by decide, by decide⟩, s2, _, rfl⟩
      · rintro σ H2 ⟨s2, v4, rfl⟩
        refine ⟨_, rfl, ?_⟩
        have k1 := kk H2 s2
        have en : ((xs.length : Int) - 1).toNat = p.length - 1 := by omega
        rw [en]
        cases k with
        | free => exact absurd rfl ek
        | all =>
          have e1 : lawSign .all p = (List.range (p.length - 1)).foldl (fun w i => w * (if Kd.all = .all then (0 - ((1 + i : Nat) : Int)) else -1)) 1 := by
            simp only [if_pos (show Kd.all = .all from rfl)]
            rfl
          rw [← e1]
          exact k1
        | str =>
          have e1 : lawSign .str p = (List.range (p.length - 1)).foldl (fun w i => w * (if Kd.str = .all then (0 - ((1 + i : Nat) : Int)) else -1)) 1 := by
            simp only [if_neg (show ¬ Kd.str = .all by decide)]
            rfl
          rw [← e1]
          exact k1
end
end Rs


set_option Elab.async false
set_option linter.all false
set_option maxRecDepth 100000
set_option maxHeartbeats 1000000
namespace Rs
open PySem L2 Bs LamX Pg RZ
/-! ### what may be compared and shown -/
theorem can_dIs : ∀ ws : List (List Int), PyData.canLayAll0 (ws.map dI) = true
  | [] => by simp [PyData.canLayAll0]
  | w :: ws => by
    have := can_dIs ws
    have h := can_ints w
    simp [PyData.canLayAll0, PyData.canLay0, dI, this, h]
theorem dep_dIs : ∀ ws : List (List Int), PyData.depthAll (ws.map dI) ≤ 2
  | [] => by simp [PyData.depthAll]
  | w :: ws => by
    have := dep_dIs ws
    have h := dep_ints w
    simp only [List.map_cons, PyData.depthAll, PyData.depth, dI]
    omega
theorem shaped_dW (ws : Prt) : SeqAt.shaped (dW ws) = true := by
  unfold SeqAt.shaped
  rw [Bool.and_eq_true_iff]
  refine ⟨?_, decide_eq_true ?_⟩
  · simpa [dW, PyData.canLay0] using can_dIs ws
  · have := dep_dIs ws
    simp only [dW, PyData.depth]
    omega
theorem eqv_dWr (ws : Prt) : PyData.eqv (dW ws) (dW ws) = true := by
  show PyData.eqvAll (ws.map dI) (ws.map dI) = true
  induction ws with
  | nil => rfl
  | cons q qs ih =>
    show (PyData.eqv (dI q) (dI q) && PyData.eqvAll (qs.map dI) (qs.map dI)) = true
    rw [eqv_dI, ih, decide_eq_true rfl]
    rfl
/-- repr of a truth -/
theorem call_repr_bl {X : Cx} : CallR X (.builtin "repr") (fun xs H Q => ∃ b, xs = [.bl b] ∧ Q (.str (if b then "True" else "False")) H) := by
  intro pins s σ H xs us Q I r h
  obtain ⟨b, rfl, q⟩ := h
  obtain ⟨u, rfl, r1⟩ := vals1 r
  obtain rfl : u = .bool b := r1
  exact PySem.P.repr_of_bool ⟨.str _, H, I.tok _, ⟨_, rfl⟩, q⟩
def ftB (k n : Nat) (d : PyData) : Bool := d.showable && (!d.hasDict && (decide (d.depth ≤ k) && (d.leavesShort 500 && decide (d.weight ≤ n))))
theorem ft_ok {k n : Nat} {d : PyData} (h : ftB k n d = true) (hk : k ≤ 60) (hn : n ≤ 33000) : Sh.Ok d := by
  unfold ftB at h
  simp only [Bool.and_eq_true, decide_eq_true_eq, Bool.not_eq_true'] at h
  obtain ⟨h1, h2, h3, h4, h5⟩ := h
  refine ⟨h1, h2, Nat.le_trans h3 hk, ?_⟩
  have := PyData.shown_le 500 (by decide) d h4
  have e : sizeLine = 16777216 := sizeLine_eq
  have : (500 + 2) * d.weight ≤ 502 * 33000 := Nat.mul_le_mul (Nat.le_refl _) (Nat.le_trans h5 hn)
  omega
theorem ft_all {k n : Nat} : ∀ {ds : List PyData}, (∀ d ∈ ds, ftB k n d = true) → PyData.showableAll ds = true ∧ PyData.hasDictAll ds = false ∧ PyData.depthAll ds ≤ k ∧ PyData.leavesShortAll 500 ds = true ∧ PyData.weightAll ds ≤ (n + 1) * ds.length
  | [], _ => ⟨rfl, rfl, Nat.zero_le _, rfl, Nat.zero_le _⟩
  | d :: ds, h => by
    have a := h d List.mem_cons_self
    obtain ⟨b1, b2, b3, b4, b5⟩ := ft_all (ds := ds) fun e he => h e (List.mem_cons_of_mem _ he)
    unfold ftB at a
    simp only [Bool.and_eq_true, decide_eq_true_eq, Bool.not_eq_true'] at a
    obtain ⟨h1, h2, h3, h4, h5⟩ := a
    refine ⟨?_, ?_, ?_, ?_, ?_⟩
    · simp only [PyData.showableAll, h1, b1, Bool.and_self]
    · simp only [PyData.hasDictAll, h2, b2, Bool.or_self]
    · simp only [PyData.depthAll]
      omega
    · simp only [PyData.leavesShortAll, h4, b4, Bool.and_self]
    · simp only [PyData.weightAll, List.length_cons, Nat.mul_succ]
      omega
theorem ft_tup {k n m : Nat} {ds : List PyData} (h : ∀ d ∈ ds, ftB k n d = true) (e : (n + 1) * ds.length ≤ m) : ftB (k + 1) m (.tuple ds) = true := by
  obtain ⟨b1, b2, b3, b4, b5⟩ := ft_all h
  unfold ftB
  simp only [Bool.and_eq_true, decide_eq_true_eq, Bool.not_eq_true']
  refine ⟨b1, b2, ?_, b4, Nat.le_trans b5 e⟩
  simp only [PyData.depth]
  omega
theorem ft_list {k n m : Nat} {ds : List PyData} (h : ∀ d ∈ ds, ftB k n d = true) (e : (n + 1) * ds.length ≤ m) : ftB (k + 1) m (.list ds) = true := by
  obtain ⟨b1, b2, b3, b4, b5⟩ := ft_all h
  unfold ftB
  simp only [Bool.and_eq_true, decide_eq_true_eq, Bool.not_eq_true']
  refine ⟨b1, b2, ?_, b4, Nat.le_trans b5 e⟩
  simp only [PyData.depth]
  omega
def shOne (p : Prt) : Bool := ftB 2 100 (dW p) && (ftB 2 100 (dW (lawTurn p)) && (kds.all (fun k => ftB 0 20 (.int (lawSign k p))) && (sizeB (lawTurn p) && homesOk (lawTurn p))))
theorem all_sh : ∀ n ∈ [0, 1, 2, 3, 4, 5], (lawRows n).all shOne = true := by decide +kernel
abbrev sLHeard : Stmt := top 42
/-- what is told of a sign -/
def hrd (b : Bool) (x : Int) : List V := if b = true then [.int x] else []
def hrdD (b : Bool) (x : Int) : PyData := .list (if b = true then [.int x] else [])
theorem hrd_dp {K : PySem.W.Frag} {H : Hp} {L : Addr} {b : Bool} {x : Int} (h : H L = some (.lst (hrd b x))) : Dp K H (.ref L) (hrdD b x) := by
  cases b with
  | true => exact .lst (SqL.of h) (.cons (.int _) .nil)
  | false => exact .lst (SqL.of h) .nil
def spLHeard (K : PySem.W.Frag) : Sp := fun vs H Q _ => ∃ (k : Kd) (v : V) (p : Prt), vs = [.str (kdS k), v] ∧ Pt K H v p ∧ gdB p = true ∧ ∀ H' L, Same H H' → H' L = some (.lst (hrd (hasK k p) (signB k p))) → Q (.ref L) H'
section
variable {P : Program} {w : World} {K : PySem.W.Frag} {mg : Str → Option Value} {base : Heap} {f : Addr} {fd : FuncData} {CP : Addr}
theorem scLHeard : FnScope ["kind", "parting", "error"] ["kind", "parting"] (defScope sLHeard) := ⟨rfl, rfl, rfl, by decide +kernel, rfl, by decide +kernel, by decide +kernel⟩
theorem ok_lheard (F : Fun K "_law_heard" "_law_heard" sLHeard f fd) (M : Err K mg "BadParting" "BadParting.__init__" sIPa CP) (xe : PySem.W.exmOne K (.ref CP) (.ref CP) = some true) (PS_ : CalX P w K mg base 6 "parting_sign" (spPartSign K CP)) : FnOk P w K mg base CX0 7 f fd ["kind", "parting"] (spLHeard K) := by
  refine F.ok scLHeard (fun vs H Q E h => ?_) (fun cdv A outer s H vs Q E hr h => ?_)
  · obtain ⟨k, v, p, rfl, _⟩ := h
    rfl
  · obtain ⟨k, v, p, rfl, pp, gd, kk⟩ := h
    obtain ⟨g, gfd, gps, FF, gm, gk, gb⟩ := PS_.ex
    refine ⟨_, pss_one (ps_try_as (i := 2) rfl rfl scLHeard.nd rfl rfl ⟨by rfl, by decide, .inl M.gC⟩ L2.takes0
      (fun W pn xe tk _ => pss_one (ps_ret (pe_lst (pa_cons (pe_callS FF hr (by rfl) gm gk gb (fun σ => passAt tk σ) (pa_cons (pv 0) (pa_cons (pv 1) pa_nil))) pa_nil))))
      (fun a oe cls d pn hz hf => pss_one (ps_ret (pe_ifExp (pt_cmpR (r := rEqD K) (op_eqD hr.units) (pe_xf M.xf M.no hz hf (pv 2)) (pv 1) (nomark _)) (pe_lst pa_nil) pe_non)))), ?_⟩
    refine ⟨_, rfl, _, rfl, k, v, p, rfl, pp, gd, fun e H1 s1 => ?_, fun e H1 s1 d hd => ?_⟩
    · refine ⟨(by show 1 ≤ sizeLine; decide), fun L hL => ?_⟩
      refine kk _ _ (s1.trans (same_new hL)) ?_
      rw [e]
      exact upd_same
    · have s2 := same_new (o := .xd [("given", v)]) hd
      have pd := (pp.mono (s1.trans s2)).dp
      refine ⟨true, xe, fun _ a ha => ?_, fun z => by cases z⟩
      refine ⟨_, rfl, rfl, rfl, d, _, v, rfl, upd_same, rfl, _, rfl, dW p, dW p, pd, pd, shaped_dW p, shaped_dW p, _, rfl, ?_⟩
      rw [eqv_dWr]
      refine iteT ⟨(by show 0 ≤ sizeLine; decide), fun L hL => ?_⟩
      refine kk _ _ (s1.trans (s2.trans (same_new hL))) ?_
      rw [e]
      exact upd_same
end
end Rs


set_option Elab.async false
set_option linter.all false
set_option maxRecDepth 100000
set_option maxHeartbeats 1000000
namespace Rs
open PySem L2 Bs LamX Pg RZ
theorem sh_at {p : Prt} (h : shOne p = true) : ftB 2 100 (dW p) = true ∧ ftB 2 100 (dW (lawTurn p)) = true ∧ (∀ k, ftB 0 20 (.int (lawSign k p)) = true) ∧ sizeB (lawTurn p) = true ∧ homesOk (lawTurn p) = true := by
  unfold shOne at h
  simp only [Bool.and_eq_true, List.all_eq_true] at h
  exact ⟨h.1, h.2.1, fun k => h.2.2.1 k (by cases k <;> decide), h.2.2.2.1, h.2.2.2.2⟩
theorem sh_hrd {b : Bool} {x : Int} (h : ftB 0 20 (.int x) = true) : Sh.Ok (hrdD b x) := by
  cases b with
  | true =>
    have e : ftB 1 21 (.list [.int x]) = true := ft_list (n := 20) (fun d hd => by
      rw [List.mem_singleton.mp hd]
      exact h) (Nat.le_refl 21)
    exact ft_ok (d := .list [.int x]) e (by decide) (by decide)
  | false =>
    have e : ftB 1 0 (.list []) = true := by decide +kernel
    exact ft_ok (d := .list []) e (by decide) (by decide)
theorem kinds_at {i : Nat} {x : V} (h : [V.str "all", V.str "free", V.str "stretch"][i]? = some x) : ∃ k : Kd, x = .str (kdS k) := by
  match i, h with
  | 0, h => exact ⟨.all, by cases h; rfl⟩
  | 1, h => exact ⟨.free, by cases h; rfl⟩
  | 2, h => exact ⟨.str, by cases h; rfl⟩
  | n + 3, h => simp at h
abbrev sLOne : Stmt := top 43
abbrev NOr : List Str := ["parting", "kind", "due", "turned_v", "many", "block"]
def allGood (p : Prt) : Prop := sizeB p = true ∧ homesOk p = true ∧ gdB p = true ∧ oneB p = true ∧ lturnOk p = true ∧ shOne p = true
theorem good_row {n : Nat} (hn : n ≤ 5) {p : Prt} (h : p ∈ lawRows n) : allGood p := by
  have hm : n ∈ [0, 1, 2, 3, 4, 5] := by simp; omega
  obtain ⟨a, b, c, d⟩ := row_ok hn h
  exact ⟨a, b, c, d, List.all_eq_true.mp (all_lturn n hm) p h, List.all_eq_true.mp (all_sh n hm) p h⟩
def spLOne (K : PySem.W.Frag) : Sp := fun vs H Q _ => ∃ (v : V) (p : Prt), vs = [v] ∧ Pt K H v p ∧ allGood p ∧ ∀ H', Same H H' → Q (.bl true) H'
section
variable {P : Program} {w : World} {K : PySem.W.Frag} {mg : Str → Option Value} {base : Heap} {f : Addr} {fd : FuncData}
theorem scLOne : FnScope NOr ["parting"] (defScope sLOne) := ⟨rfl, rfl, rfl, by decide +kernel, rfl, by decide +kernel, by decide +kernel⟩
theorem ok_lone (F : Fun K "_law_one_right" "_law_one_right" sLOne f fd) (T : Blt mg) (su : mg "sum" = none) (LK : Cal P w K mg base 3 "_law_is_kind" (spLKind K)) (IK : Cal P w K mg base 6 "is_of_kind" (spIsOfKind K)) (LH : Cal P w K mg base 7 "_law_heard" (spLHeard K)) (LS : Cal P w K mg base 2 "_law_sign" (spLSign K)) (LT : Cal P w K mg base 1 "_law_turned" (spLTurned K)) (TP : Cal P w K mg base 6 "turned_parting" (spTurnedP K)) : FnG P w K mg base 8 f fd ["parting"] (spLOne K) := by
  refine FnG.ok F scLOne (fun vs H Q E h => ?_) (fun cdv A outer s H vs Q E hgd hr h => ?_)
  · obtain ⟨v, p, rfl, _⟩ := h
    rfl
  · obtain ⟨v, p, rfl, pp, ⟨sz, ho, gd, on, lo, sh⟩, kk⟩ := h
    obtain ⟨-, -, -, m7, hk, tt, fr, cnt⟩ := one_at on
    obtain ⟨sh1, sh2, sh3, szt, hot⟩ := sh_at sh
    have shT := ft_ok sh2 (by decide) (by decide)
    refine ⟨_, C8.pss_cut (ps_for PassesOwn.never rfl (pi_tup (pe_tup (pa_cons pe_str (pa_cons pe_str (pa_cons pe_str pa_nil))))) (pg_name (i := 1) scLOne.nd rfl (Or.inl rfl))
        (pss_cons (ps_set (i := 2) scLOne.nd rfl (Or.inl rfl) (pe_n LK hr (by decide) (by rfl) (pa_cons (pv 1) (pa_cons (pv 0) pa_nil))))
        (pss_cons (ps_if (pt_cmpR op_ne (pe_callB call_repr_bl (by rfl) T.repr (by decide +kernel) (pa_cons (pe_n IK hr (by decide) (by rfl) (pa_cons (pv 1) (pa_cons (pv 0) pa_nil))) pa_nil)) (pe_callB call_repr_bl (by rfl) T.repr (by decide +kernel) (pa_cons (pv 2) pa_nil)) (nomark _)) (pss_one (ps_ret pe_bl)) pss_nil)
        (pss_one (ps_if (pt_cmpR op_ne (pe_callB (call_repr hgd hr.units) (by rfl) T.repr (by decide +kernel) (pa_cons (pe_n LH hr (by decide) (by rfl) (pa_cons (pv 1) (pa_cons (pv 0) pa_nil))) pa_nil)) (pe_callB (call_repr hgd hr.units) (by rfl) T.repr (by decide +kernel) (pa_cons (pe_ifExp (pt_val (pv 2)) (pe_lst (pa_cons (pe_n LS hr (by decide) (by rfl) (pa_cons (pv 1) (pa_cons (pv 0) pa_nil))) pa_nil)) (pe_lst pa_nil)) pa_nil)) (nomark _)) (pss_one (ps_ret pe_bl)) pss_nil)))))
      (C8.pss_cut (ps_set (i := 3) scLOne.nd rfl (Or.inl rfl) (pe_n LT hr (by decide) (by rfl) (pa_cons (pv 0) pa_nil)))
      (C8.pss_cut (ps_if (PW.pt (pw_or (pt_cmpR op_ne (pe_callB (call_repr hgd hr.units) (by rfl) T.repr (by decide +kernel) (pa_cons (pe_n TP hr (by decide) (by rfl) (pa_cons (pv 0) pa_nil)) pa_nil)) (pe_callB (call_repr hgd hr.units) (by rfl) T.repr (by decide +kernel) (pa_cons (pv 3) pa_nil)) (nomark _))
          (pw_or1 (pt_not (pt_val (pe_n LK hr (by decide) (by rfl) (pa_cons pe_str (pa_cons (pv 3) pa_nil)))))))) (pss_one (ps_ret pe_bl)) pss_nil)
      (C8.pss_cut (ps_set (i := 4) scLOne.nd rfl (Or.inl rfl) (pe_callB (cr_sum rfl) (by rfl) su (by decide +kernel) (pa_cons (pe_lc (own := [("block", 5)]) (g := gName 5) (tt := tYes) rfl scLOne.nd (pi_tup (pv 0)) (blkOk_by (N := NOr) (sc := defScope sLOne) (by decide +kernel))
          (fun _ _ _ _ _ => pg_name (i := 5) scLOne.nd rfl (Or.inl rfl)) (fun _ _ _ _ _ => pts_nil)
          (fun _ _ _ _ _ => pe_callB (id := "len") (r := rLenK K) call_len_seq (by rfl) T.len (by decide +kernel) (pa_cons (pv 5) pa_nil))) pa_nil)))
      (pss_one (ps_ret (pe_or (pe_not (pe_n LK hr (by decide) (by rfl) (pa_cons pe_str (pa_cons (pv 0) pa_nil)))) (pe_one (pe_cmpR op_eq (pe_op op_add (pe_callB call_len_seq (by rfl) T.len (by decide +kernel) (pa_cons (pv 3) pa_nil)) (pe_callB call_len_seq (by rfl) T.len (by decide +kernel) (pa_cons (pv 0) pa_nil))) (pe_op op_add (pv 4) (pe_callTy call_int1 (by rfl) T.int (by decide +kernel) (pa_cons (pe_cmpR op_gt (pv 4) pe_int (nomark _)) pa_nil))) (nomark _))))))))), ?_⟩
    obtain ⟨a, xs, rfl, sx, all⟩ := id pp
    obtain ⟨l8, bl⟩ := size_blk sz
    have lx := all.len
    refine ⟨fun σ H1 => Same H H1 ∧ ∃ v1 v2, σ = [some (.ref a), v1, v2, none, none, none], ?_, ?_⟩
    · refine ⟨(by show 3 ≤ sizeLine; decide), fun t ht => ⟨t, rfl, ⟨_, SqT.of upd_same⟩, for_tup (K := K) (a := t) (xs := [.str "all", .str "free", .str "stretch"]) (fun i σ H2 => Same (upd H t (.tup [.str "all", .str "free", .str "stretch"])) H2 ∧ ∃ v1 v2, σ = [some (.ref a), v1, v2, none, none, none]) ⟨fun _ _ z => z, none, none, rfl⟩ (fun i σ H2 _ q => Bs.Same.t q.1 (SqT.of upd_same)) ?_ ?_⟩⟩
      · rintro i x σ H2 hx ⟨s2, v1, v2, rfl⟩
        obtain ⟨k, rfl⟩ := kinds_at hx
        have s02 := (same_new (o := .tup [.str "all", .str "free", .str "stretch"]) ht).trans s2
        have pp2 := pp.mono s02
        have shH := sh_hrd (b := lawKind k p) (sh3 k)
        refine ⟨_, rfl, _, rfl, k, _, p, rfl, pp2, sz, ho, fun H3 s3 => ?_⟩
        refine ⟨_, rfl, _, rfl, k, _, p, rfl, pp2.mono s3, gd, fun H4 s4 => ⟨_, rfl, _, rfl, _, rfl, ?_⟩⟩
        refine ⟨rfl, false, by rw [(hk k).1]; simp, ?_⟩
        have s24 := s3.trans s4
        refine ⟨_, rfl, _, rfl, k, _, p, rfl, pp2.mono s24, gd, fun H5 L s5 gL => ?_⟩
        have dL := hrd_dp (K := K) gL
        have eh : hrdD (hasK k p) (signB k p) = hrdD (lawKind k p) (lawSign k p) := by
          rw [(hk k).1]
          unfold hrdD
          cases e : lawKind k p with
          | true => rw [(hk k).2 e]
          | false => rfl
        rw [eh] at dL
        refine ⟨L, _, rfl, dL, shH.s, shH.n, shH.dep, shH.l, ?_⟩
        refine ⟨_, rfl, _, rfl, ?_⟩
        have s25 := s24.trans s5
        cases e : lawKind k p with
        | true =>
          rw [e] at shH
          refine iteT ⟨_, rfl, _, rfl, k, _, p, rfl, pp2.mono s25, gd, on, lo, fun H6 s6 => ⟨(by show 1 ≤ sizeLine; decide), fun L2 hL2 => ?_⟩⟩
          refine ⟨L2, hrdD true (lawSign k p), rfl, .lst (SqL.of upd_same) (.cons (.int _) .nil), shH.s, shH.n, shH.dep, shH.l, ?_⟩
          exact ⟨rfl, false, by simp, (s2.trans s25).trans (s6.trans (same_new hL2)), _, _, rfl⟩
        | false =>
          rw [e] at shH
          refine iteF ⟨(by show 0 ≤ sizeLine; decide), fun L2 hL2 => ?_⟩
          refine ⟨L2, hrdD false (lawSign k p), rfl, .lst (SqL.of upd_same) .nil, shH.s, shH.n, shH.dep, shH.l, ?_⟩
          exact ⟨rfl, false, by simp, (s2.trans s25).trans (same_new hL2), _, _, rfl⟩
      · rintro σ H2 ⟨s2, v1, v2, rfl⟩
        exact ⟨(same_new ht).trans s2, v1, v2, rfl⟩
    rintro σ H1 ⟨s1, v1, v2, rfl⟩
    refine ⟨fun σ H2 => ∃ c, Same H H2 ∧ Pt K H2 (.ref c) (lawTurn p) ∧ σ = [some (.ref a), v1, v2, some (.ref c), none, none], ?_, ?_⟩
    · exact ⟨_, rfl, _, p, rfl, pp.mono s1, lo, fun H2 L s2 q => ⟨L, s1.trans s2, q, rfl⟩⟩
    rintro σ H2 ⟨c, s2, pt, rfl⟩
    refine ⟨fun σ H3 => Same H2 H3 ∧ σ = [some (.ref a), v1, v2, some (.ref c), none, none], ?_, ?_⟩
    · refine ⟨_, rfl, _, p, rfl, pp.mono s2, gd, fun H3 L s3 q => ?_⟩
      rw [tt] at q
      refine ⟨L, dW (lawTurn p), rfl, q.dp, shT.s, shT.n, shT.dep, shT.l, ?_⟩
      refine ⟨_, rfl, c, dW (lawTurn p), rfl, (pt.mono s3).dp, shT.s, shT.n, shT.dep, shT.l, ?_⟩
      refine ⟨rfl, false, by simp, ?_⟩
      refine ⟨_, rfl, .free, _, lawTurn p, rfl, pt.mono s3, szt, hot, fun H4 s4 => ⟨_, rfl, ?_⟩⟩
      rw [← tt, fr]
      exact iteF ⟨s3.trans s4, rfl⟩
    rintro σ H3 ⟨s3, rfl⟩
    have s03 := s2.trans s3
    have sx3 := Bs.Same.t s03 sx
    refine ⟨fun σ H4 => Same H3 H4 ∧ σ = [some (.ref a), v1, v2, some (.ref c), some (.int (total p : Nat)), none], ?_, ?_⟩
    · refine ⟨_, rfl, a, rfl, ⟨_, sx3⟩, fun D hD => lc_tup (K := K) (a := a) (xs := xs) (fun i H4 => Same H3 H4 ∧ H4 D = some (.lst (((p.take i).map fun b => (b.length : Int)).map V.int))) ⟨same_new hD, upd_same⟩ (fun i H4 _ z => Bs.Same.t z.1 sx3) ?_ ?_⟩
      · rintro i x H4 hx ⟨s4, hD4⟩
        obtain ⟨b, hb, c, rfl, sc⟩ := all.get hx
        refine ⟨rfl, ?_⟩
        refine iteT (B := Same H3 H4 ∧ H4 D = some (.lst (((p.take (i + 1)).map fun b => (b.length : Int)).map V.int))) ?_
        refine ⟨_, rfl, c, _, rfl, .inr (Bs.Same.t (s03.trans s4) sc), _, hD4, small1000 (by rw [List.length_map, List.length_map, List.length_take]; omega), fun c o e => (upd_ne (ne_of_none e hD)).trans (s4 c o e), ?_⟩
        rw [upd_same, take_one hb, List.map_append, List.map_append, List.length_map]
        rfl
      · rintro H4 ⟨s4, hD4⟩
        rw [lx, List.take_length] at hD4
        refine ⟨D, _, rfl, SqL.of hD4, ?_⟩
        rw [sum_len]
        exact ⟨s4, rfl⟩
    rintro σ H4 ⟨s4, rfl⟩
    have s04 := s03.trans s4
    refine ⟨_, rfl, .free, _, p, rfl, pp.mono s04, sz, ho, fun H5 s5 => ⟨_, rfl, _, rfl, ?_⟩⟩
    have s05 := s04.trans s5
    cases e : lawKind .free p with
    | false => exact iteT (kk _ s05)
    | true =>
      have cn := cnt e
      obtain ⟨c', ys, ec, sy, aly⟩ := id pt
      cases ec
      have ly := aly.len
      refine iteF ⟨_, rfl, c, _, rfl, .inr (Bs.Same.t (s3.trans (s4.trans s5)) sy), _, rfl, a, _, rfl, .inr (Bs.Same.t s05 sx), _, _, rfl, rfl, _, rfl, _, rfl, _, _, rfl, rfl, .inr ⟨_, rfl, _, _, rfl, rfl, rfl, ?_⟩⟩
      have : ((ys.length : Int) + (xs.length : Int)) = (total p : Int) + (if decide (0 < (total p : Int)) = true then 1 else 0) := by
        rw [ly, lx, ← tt]
        by_cases z : total p = 0
        · rw [if_pos z] at cn
          rw [decide_eq_false (by omega)]
          simp
          omega
        · rw [if_neg z] at cn
          rw [decide_eq_true (by omega)]
          simp
          omega
      have k1 := kk _ s05
      show Q (.bl (decide (V.int ((ys.length : Int) + (xs.length : Int)) = V.int ((total p : Int) + (if decide (0 < (total p : Int)) = true then 1 else 0))))) _
      rw [← this, decide_eq_true rfl]
      exact k1
end
end Rs


set_option Elab.async false
set_option linter.all false
set_option maxRecDepth 100000
set_option maxHeartbeats 400000
/-! displays of data: one step each -/
namespace Dd
open PySem L2 Bs
def tD (K : PySem.W.Frag) (d : PyData) : TE := fun _ H Q => ∀ v H', Same H H' → Dp K H' v d → Q v H'
def tDs (K : PySem.W.Frag) (ds : List PyData) : TA := fun _ H Q => ∀ vs H', Same H H' → DpAll K H' vs ds → Q vs H'
mutual
theorem dp_same {K : PySem.W.Frag} {H H' : Hp} (e : Same H H') : ∀ (d : PyData) (v : V), Dp K H v d → Dp K H' v d
  | .none, _, .non => .non
  | .bool _, _, .bl b => .bl b
  | .int _, _, .int i => .int i
  | .str _, _, .str x => .str x
  | .list ds, _, .lst s a => .lst (e.seq s) (dps_same e ds _ a)
  | .tuple ds, _, .tup s a => .tup (Bs.Same.t e s) (dps_same e ds _ a)
theorem dps_same {K : PySem.W.Frag} {H H' : Hp} (e : Same H H') : ∀ (ds : List PyData) (vs : List V), DpAll K H vs ds → DpAll K H' vs ds
  | [], _, .nil => .nil
  | d :: ds, _, .cons a b => .cons (dp_same e d _ a) (dps_same e ds _ b)
end
theorem dps_len {K : PySem.W.Frag} {H : Hp} : ∀ {ds : List PyData} {vs : List V}, DpAll K H vs ds → vs.length = ds.length
  | [], _, .nil => rfl
  | _ :: _, _, .cons _ b => congrArg (· + 1) (dps_len b)
section
variable {X : Cx} {e : Expr} {es : List Expr} {d : PyData} {ds : List PyData} {pos : Pos}
theorem pe_to {t t' : TE} (he : PE X e t) (h : ∀ σ H Q, t' σ H Q → t σ H Q) : PE X e t' := ⟨fun pins s σ H Q I q => he.run pins s σ H Q I (h _ _ _ q)⟩
theorem pa_to {t t' : TA} (he : PA X es t) (h : ∀ σ H Q, t' σ H Q → t σ H Q) : PA X es t' := ⟨fun pos pins s σ H Q I q => he.run pos pins s σ H Q I (h _ _ _ q)⟩
theorem pd_int {i j} : PE X (.Constant (.int i) j pos) (tD X.K (.int i)) := pe_to pe_int fun _ H _ h => h _ H (fun _ _ z => z) (.int i)
theorem pd_neg {i j p} : PE X (.UnaryOp .USub (.Constant (.int i) j pos) p) (tD X.K (.int (-i))) := pe_to (pe_un un_neg pe_int) fun _ H _ h => ⟨i, rfl, h _ H (fun _ _ z => z) (.int (-i))⟩
theorem pd_bl {b j} : PE X (.Constant (.bool b) j pos) (tD X.K (.bool b)) := pe_to pe_bl fun _ H _ h => h _ H (fun _ _ z => z) (.bl b)
theorem pd_non {j} : PE X (.Constant .none j pos) (tD X.K .none) := pe_to pe_non fun _ H _ h => h _ H (fun _ _ z => z) .non
theorem pd_str {x j} : PE X (.Constant (.str x) j pos) (tD X.K (.str x)) := pe_to pe_str fun _ H _ h => h _ H (fun _ _ z => z) (.str x)
theorem pd_nil : PA X [] (tDs X.K []) := pa_to pa_nil fun _ H _ h => h _ H (fun _ _ z => z) .nil
theorem pd_cons (he : PE X e (tD X.K d)) (hr : PA X es (tDs X.K ds)) (hs : starEach (e :: es) X.env = (false, eval e X.env) :: starEach es X.env := by rfl) : PA X (e :: es) (tDs X.K (d :: ds)) :=
  pa_to (pa_cons he hr hs) fun _ _ _ h => fun x _ s1 dx => fun xs H2 s2 dxs => h (x :: xs) H2 (s1.trans s2) (.cons (dp_same s2 d x dx) dxs)
theorem pd_tup {x1} (ha : PA X es (tDs X.K ds)) (hl : ds.length ≤ 1000 := by decide) : PE X (.Tuple es x1 pos) (tD X.K (.tuple ds)) :=
  pe_to (pe_tup ha) fun _ _ _ h => fun xs H1 s1 dxs => ⟨by rw [dps_len dxs]; have e : sizeLine = 16777216 := sizeLine_eq; omega, fun p hp => h (.ref p) _ (s1.trans (same_new hp)) (.tup (SqT.of upd_same) (dps_same (same_new hp) ds xs dxs))⟩
theorem pd_lst (ha : PA X es (tDs X.K ds)) (hl : ds.length ≤ 1000 := by decide) : PE X (.List es pos) (tD X.K (.list ds)) :=
  pe_to (pe_lst ha) fun _ _ _ h => fun xs H1 s1 dxs => ⟨by rw [dps_len dxs]; have e : sizeLine = 16777216 := sizeLine_eq; omega, fun p hp => h (.ref p) _ (s1.trans (same_new hp)) (.lst (SqL.of upd_same) (dps_same (same_new hp) ds xs dxs))⟩
end
/-! data without lists stays where a list is changed -/
mutual
def noL : PyData → Bool
  | .none => true
  | .bool _ => true
  | .int _ => true
  | .str _ => true
  | .tuple ds => noLs ds
  | .list _ => false
  | .dict _ => false
def noLs : List PyData → Bool
  | [] => true
  | d :: ds => noL d && noLs ds
end
theorem sqT_upd {K : PySem.W.Frag} {H : Hp} {a D : Addr} {xs acc : List V} {o : HO} (hD : H D = some (.lst acc)) (s : SqT K H a xs) : SqT K (upd H D o) a xs := by
  rcases s with (s | ⟨o', s⟩) | s
  · exact .inl (.inl ((upd_ne (ne_of s hD (by intro z; cases z))).trans s))
  · exact .inl (.inr ⟨o', (upd_ne (ne_of s hD (by intro z; cases z))).trans s⟩)
  · exact .inr s
mutual
theorem dp_upd {K : PySem.W.Frag} {H : Hp} {L : Addr} {acc : List V} {o : HO} (hL : H L = some (.lst acc)) : ∀ (d : PyData) (v : V), noL d = true → Dp K H v d → Dp K (upd H L o) v d
  | .none, _, _, .non => .non
  | .bool _, _, _, .bl b => .bl b
  | .int _, _, _, .int i => .int i
  | .str _, _, _, .str x => .str x
  | .list ds, _, z, _ => by cases z
  | .tuple ds, _, z, .tup s a => .tup (sqT_upd hL s) (dps_upd hL ds _ (by rw [noL] at z; exact z) a)
theorem dps_upd {K : PySem.W.Frag} {H : Hp} {L : Addr} {acc : List V} {o : HO} (hL : H L = some (.lst acc)) : ∀ (ds : List PyData) (vs : List V), noLs ds = true → DpAll K H vs ds → DpAll K (upd H L o) vs ds
  | [], _, _, .nil => .nil
  | d :: ds, _, z, .cons a b => by
    rw [noLs, Bool.and_eq_true] at z
    exact .cons (dp_upd hL d _ z.1 a) (dps_upd hL ds _ z.2 b)
end
theorem dps_app {K : PySem.W.Frag} {H : Hp} : ∀ {vs us : List V} {ds es : List PyData}, DpAll K H vs ds → DpAll K H us es → DpAll K H (vs ++ us) (ds ++ es)
  | _, _, _, _, .nil, h => h
  | _, _, _, _, .cons a b, h => .cons a (dps_app b h)
/-! data without lists moves with the tuples -/
mutual
theorem dp_t {K : PySem.W.Frag} {H H' : Hp} (f : ∀ a xs, SqT K H a xs → SqT K H' a xs) : ∀ (d : PyData) (v : V), noL d = true → Dp K H v d → Dp K H' v d
  | .none, _, _, .non => .non
  | .bool _, _, _, .bl b => .bl b
  | .int _, _, _, .int i => .int i
  | .str _, _, _, .str x => .str x
  | .list ds, _, z, _ => by cases z
  | .tuple ds, _, z, .tup s a => .tup (f _ _ s) (dps_t f ds _ (by rw [noL] at z; exact z) a)
theorem dps_t {K : PySem.W.Frag} {H H' : Hp} (f : ∀ a xs, SqT K H a xs → SqT K H' a xs) : ∀ (ds : List PyData) (vs : List V), noLs ds = true → DpAll K H vs ds → DpAll K H' vs ds
  | [], _, _, .nil => .nil
  | d :: ds, _, z, .cons a b => by
    rw [noLs, Bool.and_eq_true] at z
    exact .cons (dp_t f d _ z.1 a) (dps_t f ds _ z.2 b)
end
/-- a list that is being told, new since B -/
def Tl (K : PySem.W.Frag) (B H : Hp) (L : Addr) (ds : List PyData) : Prop := B L = none ∧ Same B H ∧ ∃ xs, H L = some (.lst xs) ∧ DpAll K H xs ds
section
variable {K : PySem.W.Frag} {B H H' : Hp} {L M q : Addr} {ds es : List PyData} {xs zs : List V}
theorem Tl.new (s : Same B H) (hq : H q = none) (d : DpAll K H zs es) : Tl K B (upd H q (.lst zs)) q es := ⟨s.free hq, s.trans (same_new hq), zs, upd_same, dps_same (same_new hq) es zs d⟩
theorem Tl.mono (h : Tl K B H L ds) (s : Same H H') : Tl K B H' L ds := by
  obtain ⟨a, b, xs, g, d⟩ := h
  exact ⟨a, b.trans s, xs, s _ _ g, dps_same s ds xs d⟩
theorem Tl.dp (h : Tl K B H L ds) : Dp K H (.ref L) (.list ds) := by
  obtain ⟨a, b, xs, g, d⟩ := h
  exact .lst (SqL.of g) d
theorem small_line {n : Nat} (h : n ≤ 1000) : n < sizeLine := by
  have e : sizeLine = 16777216 := sizeLine_eq
  omega
theorem Tl.cat {Q : VK} (h : Tl K B H L ds) (g : Tl K B H M es) (hl : ds.length + es.length ≤ 1000) (k : ∀ L2 H2, Same H H2 → Tl K B H2 L2 (ds ++ es) → Q (.ref L2) H2) : rCat (.ref L) (.ref M) H Q := by
  obtain ⟨a, b, xs, gx, d⟩ := h
  obtain ⟨_, _, zs, gz, e⟩ := g
  refine ⟨L, M, xs, zs, rfl, rfl, gx, gz, Nat.le_of_lt (small_line (by rw [dps_len d, dps_len e]; exact hl)), fun q hq => k q _ (same_new hq) (Tl.new b hq (dps_app d e))⟩
theorem Tl.push {v : V} {d : PyData} (h : Tl K B H L ds) (n1 : noLs ds = true) (n2 : noL d = true) (dv : Dp K H v d) (hl : ds.length ≤ 1000) : ∃ xs, H L = some (.lst xs) ∧ xs.length < sizeLine ∧ Tl K B (upd H L (.lst (xs ++ [v]))) L (ds ++ [d]) := by
  obtain ⟨a, b, xs, g, e⟩ := h
  refine ⟨xs, g, small_line (by rw [dps_len e]; exact hl), a, fun c o z => (upd_ne (ne_of_none z a)).trans (b c o z), xs ++ [v], upd_same, dps_app (dps_upd g ds xs n1 e) (.cons (dp_upd g d v n2 dv) .nil)⟩
theorem Tl.get (h : Tl K B H L ds) : ∃ xs, H L = some (.lst xs) ∧ DpAll K H xs ds := h.2.2
end
end Dd


set_option Elab.async false
set_option linter.all false
set_option maxRecDepth 100000
set_option maxHeartbeats 400000
namespace Rs
open PySem L2 Bs Fq
theorem Kp.lst {K : PySem.W.Frag} {H H' : Hp} {p c l b : Addr} {n : Nat} {t : Int} {xs : List V} (k : Kp p l H H') (S : Sta H p c l n t) (h : SqL K H b xs) (nb : b ≠ l) : SqL K H' b xs := by
  rcases h with (s | ⟨o, s⟩) | s
  · exact .inl (.inl (k b _ s (ne_of s S.d (by intro z; cases z)) nb))
  · exact .inl (.inr ⟨o, k b _ s (ne_of s S.d (by intro z; cases z)) nb⟩)
  · exact .inr s
section
variable {P : Program} {w : World} {K : PySem.W.Frag} {mg : Str → Option Value} {base : Heap} {f : Addr} {fd : FuncData}
theorem scOf : FnScope ["state", "some"] ["state", "some"] (defScope sOf) := ⟨rfl, rfl, rfl, by decide +kernel, rfl, by decide +kernel, by decide +kernel⟩
theorem ok_of (F : Fun K "_law_of" "_law_of" sOf f fd) (T : Blt mg) (D : Cal P w K mg base 2 "_law_draw" spDraw) : FnOk P w K mg base CX0 3 f fd ["state", "some"] (spOf K) := by
  refine F.ok scOf (fun vs H Q E h => ?_) (fun cdv A outer s H vs Q E hr h => ?_)
  · obtain ⟨p, c, l, b, n, t, xs, rfl, _⟩ := h
    rfl
  · obtain ⟨p, c, l, b, n, t, xs, rfl, S, t1, hS, x1, x2, nb, k⟩ := h
    refine ⟨_, pss_one (ps_ret (pe_ix ix_list (pv 1) (pe_n D hr (by decide) (by rfl) (pa_cons (pv 0) (pa_cons (pe_callB call_len_seq (by rfl) T.len PySem.boot_len (pa_cons (pv 1) pa_nil)) pa_nil))) (fun _ _ => rfl))), ?_⟩
    refine ⟨_, rfl, _, rfl, _, rfl, b, _, rfl, .inl hS, p, c, l, n, t, _, rfl, S, t1, by omega, by omega, fun H' r r0 r1 S' kp => ?_⟩
    obtain ⟨i, rfl⟩ : ∃ i : Nat, r = (i : Int) := ⟨r.toNat, by omega⟩
    have hi : i < xs.length := by omega
    have hx : xs[i]? = some xs[i] := List.getElem?_eq_getElem hi
    exact ⟨b, xs, _, _, rfl, rfl, kp.lst S hS nb, atI_nat hx, k H' _ (List.getElem_mem hi) S' kp⟩
end
end Rs


set_option Elab.async false
set_option linter.all false
set_option maxRecDepth 100000
set_option maxHeartbeats 1000000
namespace Rs
open PySem L2 Bs LamX Pg RZ Dd
abbrev sLaw : Stmt := top 44
abbrev NLa : List Str := ["script", "state", "many", "kind", "due", "twice", "some", "k", "told"]
def spLaw (K : PySem.W.Frag) : Sp := fun vs H Q _ => ∃ (a : Addr) (ns : List Int), vs = [.ref a] ∧ SqL K H a (ns.map V.int) ∧ ns.length ≤ 63 ∧ ∀ H', Q (.bl true) H'
theorem scLaw : FnScope NLa ["script"] (defScope sLaw) := ⟨rfl, rfl, rfl, by decide +kernel, rfl, by decide +kernel, by decide +kernel⟩
theorem sqT_kp {K : PySem.W.Frag} {H H' : Hp} {p c l : Addr} {n : Nat} {t : Int} {a : Addr} {xs : List V} (k : Kp p l H H') (S : Sta H p c l n t) (s : SqT K H a xs) : SqT K H' a xs := by
  obtain ⟨ls, b1, _⟩ := S.ls
  rcases s with (s | ⟨o, s⟩) | s
  · exact .inl (.inl (k a _ s (ne_of s S.d (by intro z; cases z)) (ne_of s b1 (by intro z; cases z))))
  · exact .inl (.inr ⟨o, k a _ s (ne_of s S.d (by intro z; cases z)) (ne_of s b1 (by intro z; cases z))⟩)
  · exact .inr s
theorem Pt.kp {K : PySem.W.Frag} {H H' : Hp} {p c l : Addr} {n : Nat} {t : Int} {v : V} {q : Prt} (k : Kp p l H H') (S : Sta H p c l n t) (h : Pt K H v q) : Pt K H' v q := by
  obtain ⟨a, vs, rfl, s, al⟩ := h
  exact ⟨a, vs, rfl, sqT_kp k S s, al.imp fun _ _ ⟨b, e, z⟩ => ⟨b, e, sqT_kp k S z⟩⟩
theorem dps_it {K : PySem.W.Frag} {H : Hp} : ∀ {vs : List V} {w : List Int}, DpAll K H vs (w.map PyData.int) → vs = w.map V.int
  | _, [], .nil => rfl
  | _, q :: qs, .cons (.int _) b => by rw [dps_it b]; rfl
theorem dp_it {K : PySem.W.Frag} {H : Hp} {v : V} {w : List Int} (h : Dp K H v (dI w)) : It K H v w := by
  cases h with
  | tup s f =>
    rw [dps_it f] at s
    exact ⟨_, rfl, s⟩
theorem dps_al {K : PySem.W.Frag} {H : Hp} : ∀ {vs : List V} {p : Prt}, DpAll K H vs (p.map dI) → Al (It K H) vs p
  | _, [], .nil => .nil
  | _, _ :: _, .cons a b => .cons (dp_it a) (dps_al b)
theorem dp_pt {K : PySem.W.Frag} {H : Hp} {v : V} {p : Prt} (h : Dp K H v (dW p)) : Pt K H v p := by
  cases h with
  | tup s f => exact ⟨_, _, rfl, s, dps_al f⟩
theorem Al.mem {α : Type} {R : V → α → Prop} : ∀ {vs : List V} {qs : List α}, Al R vs qs → ∀ v ∈ vs, ∃ q ∈ qs, R v q
  | _, _, .nil, v, h => by cases h
  | _, _, .cons a b, v, h => by
    rcases List.mem_cons.mp h with rfl | h
    · exact ⟨_, List.mem_cons_self, a⟩
    · obtain ⟨q, hq, r⟩ := Al.mem b v h
      exact ⟨q, List.mem_cons_of_mem _ hq, r⟩
theorem rows_len : ∀ n ∈ [0, 1, 2, 3, 4, 5], decide ((lawRows n).length ≤ 60) = true ∧ decide (1 ≤ (lawRows n).length) = true := by decide +kernel
theorem sz_any {k : Kd} {n : Nat} (h : n ≤ 5) : szAll k n = true := by
  have h6 : n ∈ [0, 1, 2, 3, 4, 5] := by simp; omega
  have h8 : n ∈ [0, 1, 2, 3, 4, 5, 6, 7] := by simp; omega
  cases k with
  | all => exact szA_all n h6
  | free => exact szA_free n h8
  | str => exact szA_str n h8
theorem sh_rows {k : Kd} {n : Nat} (h : n ≤ 5) : Sh.Ok (.tuple (((sortW (lawRows n)).filter (lawKind k)).map dW)) := by
  have h6 : n ∈ [0, 1, 2, 3, 4, 5] := by simp; omega
  have l := of_decide_eq_true (rows_len n h6).1
  refine ft_ok (ft_tup (k := 2) (n := 100) (m := 6060) (fun d hd => ?_) ?_) (by decide) (by decide)
  · obtain ⟨p, hp, rfl⟩ := List.mem_map.mp hd
    have mp : p ∈ lawRows n := (sortW_perm _).mem_iff.mp (List.mem_filter.mp hp).1
    exact (sh_at (good_row h mp).2.2.2.2.2).1
  · have := List.length_filter_le (lawKind k) (sortW (lawRows n))
    rw [(sortW_perm _).length_eq] at this
    rw [List.length_map]
    omega
theorem dp_kinds {K : PySem.W.Frag} {H : Hp} {v : V} {x y z : Str} (h : Dp K H v (.tuple [.str x, .str y, .str z])) : ∃ t, v = .ref t ∧ SqT K H t [.str x, .str y, .str z] := by
  cases h with
  | @tup t xs _ st dx =>
    cases dx with
    | cons a1 b1 => cases b1 with
      | cons a2 b2 => cases b2 with
        | cons a3 b3 =>
          cases a1
          cases a2
          cases a3
          cases b3
          exact ⟨t, rfl, st⟩
abbrev dTold : List PyData := [.tuple [dW [[0], [1], [2]], dW [[0], [1, 2]], dW [[0, 1], [2]], dW [[0, 1, 2]]], dW [[0], [1], [2]], dW [[0, 1, 2]], .bool false, .int 2, dW [], .int 132, .int 32, .int 2]
/-- a promise of parting_sign where the parting is of the kind -/
def spPartSign0 (K : PySem.W.Frag) : Sp := fun vs H Q _ => ∃ (k : Kd) (v : V) (p : Prt), vs = [.str (kdS k), v] ∧ Pt K H v p ∧ gdB p = true ∧ hasK k p = true ∧ ∀ H', Same H H' → Q (.int (signB k p)) H'
section
variable {P : Program} {w : World} {K : PySem.W.Frag} {mg : Str → Option Value} {base : Heap} {f : Addr} {fd : FuncData}
theorem ok_partSign0 (F : Fun K "parting_sign" "parting_sign" sPartSign f fd) (NK : Cal P w K mg base 1 "need_kind" spNeedKind) (NP : Cal P w K mg base 5 "need_parting" (spNeedPart K)) (HK : Cal P w K mg base 3 "has_kind" (spHasKind K)) (SB : Cal P w K mg base 3 "sign_by" (spSignBy K)) :
    FnOk P w K mg base CX0 6 f fd ["kind", "parting"] (spPartSign0 K) := by
  refine F.ok scPartSign (fun vs H Q E h => ?_) (fun cdv A outer s H vs Q E hr h => ?_)
  · obtain ⟨k, v, p, rfl, _⟩ := h
    rfl
  · obtain ⟨k, v, p, rfl, pp, gd, e, k1⟩ := h
    obtain ⟨g1, g2, g3, g4⟩ := gd_at gd
    obtain ⟨t1, t2, t3⟩ := turnOk_at g2
    refine ⟨_, pss_cons (ps_expr (pe_n NK hr (by decide) (by rfl) (pa_cons (pv 0) pa_nil)))
      (pss_cons (ps_if (pt_not (pt_val (pe_n HK hr (by decide) (by rfl) (pa_cons (pv 0) (pa_cons (pe_n NP hr (by decide) (by rfl) (pa_cons (pv 1) pa_nil)) pa_nil))))) (pss_one ps_never) pss_nil)
      (pss_one (ps_ret (pe_n SB hr (by decide) (by rfl) (pa_cons (pv 0) (pa_cons (pv 1) pa_nil)))))), ?_⟩
    refine ⟨_, rfl, k, rfl, ?_⟩
    refine ⟨_, rfl, _, rfl, v, p, rfl, pp, g1, t2, fun H1 s1 => ⟨k, v, p, rfl, pp.mono s1, t2, fun H2 s2 => ⟨_, rfl, ?_⟩⟩⟩
    rw [e]
    exact iteF ⟨_, rfl, _, rfl, k, v, p, rfl, pp.mono (s1.trans s2), gd, fun H3 s3 => k1 H3 ((s1.trans s2).trans s3)⟩
theorem ok_law (F : Fun K "law" "law" sLaw f fd) (T : Blt mg) (BG : Cal P w K mg base 2 "_law_begin" (spBegin K)) (DR : Cal P w K mg base 2 "_law_draw" spDraw) (OF : Cal P w K mg base 3 "_law_of" (spOf K)) (LOK : Cal P w K mg base 4 "_law_of_kind" (spLOfKind K)) (AP : Cal P w K mg base 5 "all_partings" (spAllParts K)) (LP : Cal P w K mg base 1 "_law_partings" (spLParts K))
    (OR : CalG P w K mg base 8 "_law_one_right" (spLOne K)) (TP : Cal P w K mg base 6 "turned_parting" (spTurnedP K)) (IK : Cal P w K mg base 6 "is_of_kind" (spIsOfKind K)) (P0 : Cal P w K mg base 6 "parting_sign" (spPartSign0 K)) :
    FnG P w K mg base 9 f fd ["script"] (spLaw K) := by
  refine FnG.ok F scLaw (fun vs H Q E h => ?_) (fun cdv A outer s H vs Q E hgd hr h => ?_)
  · obtain ⟨a, ns, rfl, _⟩ := h
    rfl
  · obtain ⟨a, ns, rfl, sq, ln, kk⟩ := h
    refine ⟨_, C8.pss_cut (ps_set (i := 1) scLaw.nd rfl (Or.inl rfl) (pe_n BG hr (by decide) (by rfl) (pa_cons (pv 0) pa_nil)))
      (C8.pss_cut (ps_set (i := 2) scLaw.nd rfl (Or.inl rfl) (pe_n DR hr (by decide) (by rfl) (pa_cons (pv 1) (pa_cons pe_int pa_nil))))
      (C8.pss_cut (ps_for PassesOwn.never rfl (pi_tup (pd_tup (pd_cons pd_str (pd_cons pd_str (pd_cons pd_str pd_nil))))) (pg_name (i := 3) scLaw.nd rfl (Or.inl rfl))
      (pss_cons (ps_set (i := 4) scLaw.nd rfl (Or.inl rfl) (pe_callTy call_tuple_of (by rfl) T.tuple (by decide +kernel) (pa_cons (pe_n LOK hr (by decide) (by rfl) (pa_cons (pv 3) (pa_cons (pv 2) pa_nil))) pa_nil)))
        (pss_one (ps_for PassesOwn.never rfl (pi_range1 rfl T.range (pa_cons pe_int pa_nil)) (pg_name (i := 5) scLaw.nd rfl (Or.inl rfl))
        (pss_one (ps_if (pt_cmpR op_ne (pe_callB (call_repr hgd hr.units) (by rfl) T.repr (by decide +kernel) (pa_cons (pe_n AP hr (by decide) (by rfl) (pa_cons (pv 3) (pa_cons (pv 2) pa_nil))) pa_nil)) (pe_callB (call_repr hgd hr.units) (by rfl) T.repr (by decide +kernel) (pa_cons (pv 4) pa_nil)) (nomark _)) (pss_one (ps_ret pe_bl)) pss_nil))))))
      (C8.pss_cut (ps_set (i := 6) scLaw.nd rfl (Or.inl rfl) (pe_n LP hr (by decide) (by rfl) (pa_cons (pv 2) pa_nil)))
      (C8.pss_cut (ps_for PassesOwn.never rfl (pi_range1 rfl T.range (pa_cons (pe_op op_add pe_int (pe_callB (call_min2 rfl) (by rfl) T.min (by decide +kernel) (pa_cons (pe_callB call_len_seq (by rfl) T.len (by decide +kernel) (pa_cons (pv 0) pa_nil)) (pa_cons pe_int pa_nil)))) pa_nil)) (pg_name (i := 7) scLaw.nd rfl (Or.inl rfl))
      (pss_one (ps_if (pt_not (pt_val (pe_g OR hgd hr (by decide) (by rfl) (pa_cons (pe_n OF hr (by decide) (by rfl) (pa_cons (pv 1) (pa_cons (pv 6) pa_nil))) pa_nil)))) (pss_one (ps_ret pe_bl)) pss_nil)))
      (C8.pss_cut (ps_set (i := 8) scLaw.nd rfl (Or.inl rfl) (pe_lst (pa_cons (pe_n AP hr (by decide) (by rfl) (pa_cons pe_str (pa_cons pe_int pa_nil))) (pa_cons (pe_n TP hr (by decide) (by rfl) (pa_cons (pd_tup (pd_cons (pd_tup (pd_cons pd_int (pd_cons pd_int (pd_cons pd_int pd_nil)))) pd_nil)) pa_nil)) (pa_cons (pe_n TP hr (by decide) (by rfl) (pa_cons (pd_tup (pd_cons (pd_tup (pd_cons pd_int pd_nil)) (pd_cons (pd_tup (pd_cons pd_int pd_nil)) (pd_cons (pd_tup (pd_cons pd_int pd_nil)) pd_nil)))) pa_nil)) pa_nil)))))
      (C8.pss_cut (ps_set (i := 8) scLaw.nd rfl (Or.inl rfl) (pe_op op_cat (pv 8) (pe_lst (pa_cons (pe_n IK hr (by decide) (by rfl) (pa_cons pe_str (pa_cons (pd_tup (pd_cons (pd_tup (pd_cons pd_int (pd_cons pd_int pd_nil))) (pd_cons (pd_tup (pd_cons pd_int (pd_cons pd_int pd_nil))) pd_nil))) pa_nil))) (pa_cons (pe_n P0 hr (by decide) (by rfl) (pa_cons pe_str (pa_cons (pd_tup (pd_cons (pd_tup (pd_cons pd_int pd_nil)) (pd_cons (pd_tup (pd_cons pd_int pd_nil)) (pd_cons (pd_tup (pd_cons pd_int pd_nil)) pd_nil)))) pa_nil))) (pa_cons (pe_n TP hr (by decide) (by rfl) (pa_cons (pd_tup pd_nil) pa_nil)) pa_nil))))))
      (C8.pss_cut (ps_set (i := 8) scLaw.nd rfl (Or.inl rfl) (pe_op op_cat (pv 8) (pe_lst (pa_cons (pe_callB call_len_seq (by rfl) T.len (by decide +kernel) (pa_cons (pe_n AP hr (by decide) (by rfl) (pa_cons pe_str (pa_cons pe_int pa_nil))) pa_nil)) (pa_cons (pe_callB call_len_seq (by rfl) T.len (by decide +kernel) (pa_cons (pe_n AP hr (by decide) (by rfl) (pa_cons pe_str (pa_cons pe_int pa_nil))) pa_nil)) pa_nil)))))
      (C8.pss_cut (ps_expr (pe_bm PySem.F.plainAttrs_list PySem.F.slot_list_append PySem.F.type_list_append mt_append (pv 8) (pa_cons (pe_n P0 hr (by decide) (by rfl) (pa_cons pe_str (pa_cons (pd_tup (pd_cons (pd_tup (pd_cons pd_int pd_nil)) (pd_cons (pd_tup (pd_cons pd_int pd_nil)) (pd_cons (pd_tup (pd_cons pd_int pd_nil)) pd_nil)))) pa_nil))) pa_nil)))
      (C8.pss_cut (ps_set (i := 4) scLaw.nd rfl (Or.inl rfl) (pe_lst (pd_cons (pd_tup (pd_cons (pd_tup (pd_cons (pd_tup (pd_cons pd_int pd_nil)) (pd_cons (pd_tup (pd_cons pd_int pd_nil)) (pd_cons (pd_tup (pd_cons pd_int pd_nil)) pd_nil)))) (pd_cons (pd_tup (pd_cons (pd_tup (pd_cons pd_int pd_nil)) (pd_cons (pd_tup (pd_cons pd_int (pd_cons pd_int pd_nil))) pd_nil))) (pd_cons (pd_tup (pd_cons (pd_tup (pd_cons pd_int (pd_cons pd_int pd_nil))) (pd_cons (pd_tup (pd_cons pd_int pd_nil)) pd_nil))) (pd_cons (pd_tup (pd_cons (pd_tup (pd_cons pd_int (pd_cons pd_int (pd_cons pd_int pd_nil)))) pd_nil)) pd_nil))))) (pd_cons (pd_tup (pd_cons (pd_tup (pd_cons pd_int pd_nil)) (pd_cons (pd_tup (pd_cons pd_int pd_nil)) (pd_cons (pd_tup (pd_cons pd_int pd_nil)) pd_nil)))) (pd_cons (pd_tup (pd_cons (pd_tup (pd_cons pd_int (pd_cons pd_int (pd_cons pd_int pd_nil)))) pd_nil)) pd_nil)))))
      (C8.pss_cut (ps_if (pt_cmpR (op_neD hr.units) (pe_lc (own := [("kind", 3)]) (g := gName 3) (tt := tYes) rfl scLaw.nd (pi_tup (pd_tup (pd_cons pd_str (pd_cons pd_str (pd_cons pd_str pd_nil))))) (blkOk_by (N := NLa) (sc := defScope sLaw) (by decide +kernel))
          (fun _ _ _ _ _ => pg_name (i := 3) scLaw.nd rfl (Or.inl rfl)) (fun _ _ _ _ _ => pts_nil)
          (fun _ _ _ _ _ => (pe_n P0 hr (by decide) (by rfl) (pa_cons (pv 3) (pa_cons (pe_tup pa_nil) pa_nil))))) (pd_lst (pd_cons pd_int (pd_cons pd_int (pd_cons pd_int pd_nil)))) (nomark _)) (pss_one (ps_ret pe_bl)) pss_nil)
      (C8.pss_cut (ps_if (PW.pt (pw_and (pt_cmpR op_eq (pe_n DR hr (by decide) (by rfl) (pa_cons (pv 1) (pa_cons pe_int pa_nil))) pe_int (nomark _)) (pw_and1 (pt_cmpR (op_neD hr.units) (pe_lst (pa_cons (pe_callB call_len_seq (by rfl) T.len (by decide +kernel) (pa_cons (pe_n AP hr (by decide) (by rfl) (pa_cons pe_str (pa_cons pe_int pa_nil))) pa_nil)) (pa_cons (pe_callB call_len_seq (by rfl) T.len (by decide +kernel) (pa_cons (pe_n AP hr (by decide) (by rfl) (pa_cons pe_str (pa_cons pe_int pa_nil))) pa_nil)) pa_nil))) (pd_lst (pd_cons pd_int (pd_cons pd_int pd_nil))) (nomark _))))) (pss_one (ps_ret pe_bl)) pss_nil)
      (pss_one (ps_ret (pe_cmpR (op_eqD hr.units) (pv 8) (pe_op op_cat (pv 4) (pe_lst (pd_cons pd_bl (pd_cons pd_int (pd_cons (pd_tup pd_nil) (pd_cons pd_int (pd_cons pd_int (pd_cons pd_int pd_nil)))))))) (nomark _))))))))))))))), ?_⟩
    -- state
    refine ⟨fun σ H1 => ∃ (p c l : Addr) (n : Nat), Sta H1 p c l n 0 ∧ SqL K H1 a (ns.map V.int) ∧ (a ≠ l ∨ ∀ G, SqL K G a (ns.map V.int)) ∧ σ = [some (.ref a), some (.ref p), none, none, none, none, none, none, none], ?_, ?_⟩
    · refine ⟨_, rfl, a, ns, rfl, sq, ln, fun H1 p c l n s1 _ hl S => ⟨p, c, l, n, S, s1.seq sq, ?_, rfl⟩⟩
      rcases sq with (z | ⟨o, z⟩) | z
      · exact .inl fun e => by
          rw [e, hl] at z
          cases z
      · exact .inl fun e => by
          rw [e, hl] at z
          cases z
      · exact .inr fun G => .inr z
    rintro σ H1 ⟨p, c, l, n, S, sq1, nal, rfl⟩
    clear sq
    have lnl : (ns.map V.int).length = ns.length := List.length_map ..
    generalize ns.map V.int = xs at sq1 nal lnl
    -- many
    refine ⟨fun σ H2 => ∃ m : Nat, m ≤ 5 ∧ Sta H2 p c l n 1 ∧ SqL K H2 a xs ∧ σ = [some (.ref a), some (.ref p), some (.int (m : Nat)), none, none, none, none, none, none], ?_, ?_⟩
    · refine ⟨_, rfl, p, c, l, n, 0, 6, rfl, S, by decide, by decide, by decide, fun H2 r r0 r1 S2 k2 => ?_⟩
      obtain ⟨m, rfl⟩ : ∃ m : Nat, r = (m : Int) := ⟨r.toNat, by omega⟩
      exact ⟨m, by omega, S2, by
        rcases nal with z | z
        · exact Kp.lst k2 S sq1 z
        · exact z _, rfl⟩
    clear S sq1 nal
    rintro σ H2 ⟨m, m5, S, sq1, rfl⟩
    -- the kinds
    refine ⟨fun σ H3 => Same H2 H3 ∧ ∃ v3 v4 v5, σ = [some (.ref a), some (.ref p), some (.int (m : Nat)), v3, v4, v5, none, none, none], ?_, ?_⟩
    · intro t H3 s3 dt
      cases dt with
      | @tup t' xs3 _ st dx =>
        have e3 : xs3 = [.str "all", .str "free", .str "stretch"] := by
          cases dx with
          | cons a1 b1 => cases b1 with
            | cons a2 b2 => cases b2 with
              | cons a3 b3 =>
                cases a1
                cases a2
                cases a3
                cases b3
                rfl
        subst e3
        refine ⟨_, rfl, ⟨_, st⟩, for_tup (K := K) (xs := [.str "all", .str "free", .str "stretch"]) (fun i σ H4 => Same H3 H4 ∧ ∃ v3 v4 v5, σ = [some (.ref a), some (.ref p), some (.int (m : Nat)), v3, v4, v5, none, none, none]) ⟨fun _ _ z => z, none, none, none, rfl⟩ (fun i σ H4 _ q => Bs.Same.t q.1 st) ?_ ?_⟩
        · rintro i x σ H4 hx ⟨s4, v3, v4, v5, rfl⟩
          obtain ⟨k, rfl⟩ := kinds_at hx
          refine ⟨_, rfl, _, rfl, k, m, rfl, m5, fun H5 L ys s5 gL al => ?_⟩
          refine ⟨L, ys, rfl, .inl ⟨SqL.of gL, fun D hD => ?_⟩⟩
          have s6 := same_new (o := .tup ys) hD
          have gD : upd H5 D (.tup ys) D = some (.tup ys) := upd_same
          have al6 := alP_mono al s6
          have s46 := s5.trans s6
          generalize upd H5 D (.tup ys) = H6 at *
          have shR := sh_rows (k := k) m5
          refine ⟨_, rfl, by decide, by decide, for_range (n := (2 : Int).toNat) (fun j σ H7 => Same H6 H7 ∧ ∃ v5, σ = [some (.ref a), some (.ref p), some (.int (m : Nat)), some (.str (kdS k)), some (.ref D), v5, none, none, none]) ⟨fun _ _ z => z, _, rfl⟩ ?_ ?_⟩
          · rintro j σ H7 hj ⟨s7, v5, rfl⟩
            refine ⟨_, rfl, _, rfl, k, m, rfl, sz_any m5, by omega, fun H8 L8 ys8 s8 q8 al8 => ?_⟩
            rw [sort_kind m5] at al8
            refine ⟨L8, _, rfl, .tup q8 al8.dpW, shR.s, shR.n, shR.dep, shR.l, ?_⟩
            refine ⟨_, rfl, D, _, rfl, .tup (Bs.Same.t (s7.trans s8) (SqT.of gD)) (alP_mono al6 (s7.trans s8)).dpW, shR.s, shR.n, shR.dep, shR.l, ?_⟩
            exact ⟨rfl, false, by simp, s7.trans s8, _, rfl⟩
          · rintro σ H7 ⟨s7, v5, rfl⟩
            exact ⟨s4.trans (s46.trans s7), _, _, _, rfl⟩
        · rintro σ H4 ⟨s4, v3, v4, v5, rfl⟩
          exact ⟨s3.trans s4, v3, v4, v5, rfl⟩
    rintro σ H3 ⟨s3, v3, v4, v5, rfl⟩
    have S3 := S.mono s3
    have sq3 := s3.seq sq1
    clear S sq1 s3
    -- some
    refine ⟨fun σ H4 => ∃ L ys, Sta H4 p c l n 1 ∧ SqL K H4 a xs ∧ H4 L = some (.lst ys) ∧ L ≠ l ∧ Al (Pt K H4) ys (sortW (lawRows m)) ∧ σ = [some (.ref a), some (.ref p), some (.int (m : Nat)), v3, v4, v5, some (.ref L), none, none], ?_, ?_⟩
    · refine ⟨_, rfl, m, rfl, m5, fun H4 L ys s4 nL gL al => ⟨L, ys, S3.mono s4, s4.seq sq3, gL, fun e => ?_, al, rfl⟩⟩
      obtain ⟨ls, b1, _⟩ := S3.ls
      rw [← e, nL] at b1
      cases b1
    clear S3 sq3
    rintro σ H4 ⟨L, ys, S, sq4, gL, nL, al, rfl⟩
    have m6 : m ∈ [0, 1, 2, 3, 4, 5] := by simp; omega
    have ly := al.len
    rw [(sortW_perm _).length_eq] at ly
    have l60 := of_decide_eq_true (rows_len m m6).1
    have l1 := of_decide_eq_true (rows_len m m6).2
    -- the laps
    refine ⟨fun σ H5 => ∃ (t : Int) (v7 : Option V), Sta H5 p c l n t ∧ t ≤ 20 ∧ σ = [some (.ref a), some (.ref p), some (.int (m : Nat)), v3, v4, v5, some (.ref L), v7, none], ?_, ?_⟩
    · have hm : ∀ m : Nat, 0 ≤ (6 : Int) + (if (6 : Int) < (m : Int) then 6 else (m : Int)) ∧ (6 : Int) + (if (6 : Int) < (m : Int) then 6 else (m : Int)) ≤ 12 := by
        intro m
        split <;> omega
      have hm2 := hm xs.length
      refine ⟨_, rfl, a, _, rfl, Or.inl sq4, _, _, rfl, _, _, rfl, rfl, _, rfl, ?_⟩
      generalize (6 : Int) + (if (6 : Int) < (xs.length : Int) then 6 else (xs.length : Int)) = w6 at hm2 ⊢
      refine ⟨by omega, by omega, for_range (n := w6.toNat) (fun i σ H5 => ∃ (t : Int) (v7 : Option V), Sta H5 p c l n t ∧ t = 1 + i ∧ SqL K H5 L ys ∧ Al (Pt K H5) ys (sortW (lawRows m)) ∧ σ = [some (.ref a), some (.ref p), some (.int (m : Nat)), v3, v4, v5, some (.ref L), v7, none]) ⟨1, none, S, rfl, SqL.of gL, al, rfl⟩ ?_ ?_⟩
      · rintro i σ H5 hi ⟨t, v7, S5, rfl, sL, al5, rfl⟩
        refine ⟨_, rfl, _, rfl, p, c, l, L, n, _, ys, rfl, S5, by omega, sL, by omega, by omega, nL, fun H6 x hx S6 k6 => ?_⟩
        obtain ⟨q, hq, pq⟩ := al5.mem x hx
        have mq : q ∈ lawRows m := (sortW_perm _).mem_iff.mp hq
        refine ⟨x, q, rfl, pq.kp k6 S5, good_row m5 mq, fun H7 s7 => ⟨_, rfl, ?_⟩⟩
        exact iteF ⟨_, _, S6.mono s7, by omega, s7.seq (Kp.lst k6 S5 sL nL), al5.imp fun _ _ z => (z.kp k6 S5).mono s7, rfl⟩
      · rintro σ H5 ⟨t, v7, S5, rfl, sL, al5, rfl⟩
        exact ⟨_, v7, S5, by omega, rfl⟩
    clear S sq4 gL al nL
    rintro σ H5 ⟨t, v7, S, t20, rfl⟩
    generalize some (V.ref L) = v6
    generalize some (V.int (m : Nat)) = v2
    generalize some (V.ref a) = v0
    have B := H5
    -- told
    refine ⟨fun σ H6 => ∃ L, Tl K H5 H6 L (dTold.take 3) ∧ σ = [v0, some (.ref p), v2, v3, v4, v5, v6, v7, some (.ref L)], ?_, ?_⟩
    · refine ⟨.str, 3, rfl, szA_str 3 (by decide), by decide, fun H1 L1 ys s1 q1 al1 => ?_⟩
      rw [sort_str3] at al1
      intro w1 H2 s2 d2
      refine ⟨w1, [[0, 1, 2]], rfl, dp_pt d2, by decide +kernel, fun H3 L3 s3 t3 => ?_⟩
      rw [show turnP [[0, 1, 2]] = [[0], [1], [2]] from by decide +kernel] at t3
      intro w4 H4 s4 d4
      refine ⟨w4, [[0], [1], [2]], rfl, dp_pt d4, by decide +kernel, fun H6 L6 s6 t6 => ?_⟩
      rw [show turnP [[0], [1], [2]] = [[0, 1, 2]] from by decide +kernel] at t6
      refine ⟨(by show 3 ≤ sizeLine; decide), fun q hq => ⟨q, Tl.new ((((s1.trans s2).trans s3).trans s4).trans s6) hq ?_, rfl⟩⟩
      have s26 := ((s2.trans s3).trans s4).trans s6
      exact .cons (.tup (Bs.Same.t s26 q1) (alP_mono al1 s26).dpW) (.cons (t3.mono (s4.trans s6)).dp (.cons t6.dp .nil))
    rintro σ H6 ⟨L, tl, rfl⟩
    refine ⟨fun σ H7 => ∃ L, Tl K H5 H7 L (dTold.take 6) ∧ σ = [v0, some (.ref p), v2, v3, v4, v5, v6, v7, some (.ref L)], ?_, ?_⟩
    · refine ⟨_, rfl, fun w1 H1 s1 d1 => ?_⟩
      refine ⟨.free, w1, [[0, 2], [1, 3]], rfl, dp_pt d1, by decide +kernel, fun H2 s2 => ?_⟩
      rw [show hasK .free [[0, 2], [1, 3]] = false from by decide +kernel]
      intro w3 H3 s3 d3
      refine ⟨.all, w3, [[0], [1], [2]], rfl, dp_pt d3, by decide +kernel, by decide +kernel, fun H4 s4 => ?_⟩
      rw [show signB .all [[0], [1], [2]] = 2 from by decide +kernel]
      intro w7 H7 s7 d7
      refine ⟨w7, [], rfl, dp_pt d7, by decide +kernel, fun H8 L8 s8 t8 => ?_⟩
      rw [show turnP [] = [] from by decide +kernel] at t8
      have s18 := (((s1.trans s2).trans s3).trans s4).trans (s7.trans s8)
      refine ⟨(by show 3 ≤ sizeLine; decide), fun q hq => ?_⟩
      have t2 := Tl.new (K := K) (tl.mono s18).2.1 hq (.cons (.bl false) (.cons (.int 2) (.cons t8.dp .nil)))
      exact Tl.cat ((tl.mono s18).mono (same_new hq)) t2 (by decide) fun L2 H9 _ t9 => ⟨L2, t9, rfl⟩
    clear tl
    rintro σ H7 ⟨L, tl, rfl⟩
    refine ⟨fun σ H8 => ∃ L, Tl K H5 H8 L (dTold.take 8) ∧ σ = [v0, some (.ref p), v2, v3, v4, v5, v6, v7, some (.ref L)], ?_, ?_⟩
    · refine ⟨_, rfl, .free, 6, rfl, szA_free 6 (by decide), by decide, fun H1 L1 ys s1 q1 al1 => ?_⟩
      refine ⟨L1, _, rfl, .inr q1, .str, 6, rfl, szA_str 6 (by decide), by decide, fun H2 L2 zs s2 q2 al2 => ?_⟩
      refine ⟨L2, _, rfl, .inr q2, (by show 2 ≤ sizeLine; decide), fun q hq => ?_⟩
      rw [al1.len, al2.len, (sortW_perm _).length_eq, (sortW_perm _).length_eq, len_free.1, len_str.1]
      have s12 := s1.trans s2
      have t2 := Tl.new (K := K) (tl.mono s12).2.1 hq (.cons (.int 132) (.cons (.int 32) .nil))
      exact Tl.cat ((tl.mono s12).mono (same_new hq)) t2 (by decide) fun L2 H9 _ t9 => ⟨L2, t9, rfl⟩
    clear tl
    rintro σ H8 ⟨L, tl, rfl⟩
    refine ⟨fun σ H9 => Tl K H5 H9 L dTold ∧ σ = [v0, some (.ref p), v2, v3, v4, v5, v6, v7, some (.ref L)], ?_, ?_⟩
    · obtain ⟨xs, gx, _⟩ := tl.get
      refine ⟨_, rfl, .inl ⟨rfl, _, SqL.of gx⟩, fun w1 H1 s1 d1 => ?_⟩
      refine ⟨.free, w1, [[0], [1], [2]], rfl, dp_pt d1, by decide +kernel, by decide +kernel, fun H2 s2 => ?_⟩
      rw [show signB .free [[0], [1], [2]] = 2 from by decide +kernel]
      obtain ⟨xs2, gx2, sz2, t2⟩ := (tl.mono (s1.trans s2)).push (v := .int 2) (by decide +kernel) (by decide +kernel) (.int 2) (by decide)
      exact ⟨L, xs2, _, rfl, rfl, gx2, sz2, t2, rfl⟩
    clear tl
    rintro σ H9 ⟨tl, rfl⟩
    -- due
    refine ⟨fun σ H10 => ∃ M, Tl K H5 H10 L dTold ∧ Tl K H5 H10 M (dTold.take 3) ∧ σ = [v0, some (.ref p), v2, v3, some (.ref M), v5, v6, v7, some (.ref L)], ?_, ?_⟩
    · intro vs H1 s1 d1
      refine ⟨Nat.le_of_lt (small_line (by rw [dps_len d1]; decide)), fun q hq => ⟨q, (tl.mono s1).mono (same_new hq), Tl.new (tl.mono s1).2.1 hq d1, rfl⟩⟩
    clear tl
    rintro σ H10 ⟨M, tl, tm, rfl⟩
    refine ⟨fun σ H11 => Tl K H5 H11 L dTold ∧ Tl K H5 H11 M (dTold.take 3) ∧ σ = [v0, some (.ref p), v2, v3, some (.ref M), v5, v6, v7, some (.ref L)], ?_, ?_⟩
    · intro w1 H1 s1 d1
      obtain ⟨t, rfl, st⟩ := dp_kinds d1
      refine ⟨_, rfl, ⟨_, st⟩, fun D hD => lc_tup (K := K) (a := t) (xs := [.str "all", .str "free", .str "stretch"]) (fun i H2 => Same H1 H2 ∧ H2 D = some (.lst (List.replicate i (V.int 1)))) ⟨same_new hD, upd_same⟩ (fun i H2 _ z => Bs.Same.t z.1 st) ?_ ?_⟩
      · rintro i x H2 hx ⟨s2, hD2⟩
        obtain ⟨k, rfl⟩ := kinds_at hx
        have i3 := (List.getElem?_eq_some_iff.mp hx).1
        have i4 : i < 3 := i3
        refine ⟨rfl, ?_⟩
        refine iteT (B := Same H1 H2 ∧ H2 D = some (.lst (List.replicate (i + 1) (V.int 1)))) ?_
        refine ⟨_, rfl, (by show 0 ≤ sizeLine; decide), fun q hq => ?_⟩
        have s3 := same_new (o := .tup []) hq
        refine ⟨k, _, [], rfl, ⟨q, [], rfl, SqT.of upd_same, .nil⟩, by decide +kernel, (by cases k <;> rfl), fun H4 s4 => ?_⟩
        have s34 := s3.trans s4
        rw [show signB k [] = 1 from by cases k <;> rfl]
        refine ⟨_, s34 _ _ hD2, small1000 (by rw [List.length_replicate]; omega), fun c o e => (upd_ne (ne_of_none e hD)).trans (s34 c o (s2 c o e)), ?_⟩
        rw [upd_same, List.replicate_succ']
      · rintro H2 ⟨s2, hD2⟩
        intro w3 H3 s3 d3
        have dD : Dp K H3 (.ref D) (.list [.int 1, .int 1, .int 1]) := .lst (SqL.of (s3 _ _ hD2)) (.cons (.int 1) (.cons (.int 1) (.cons (.int 1) .nil)))
        refine ⟨.list [.int 1, .int 1, .int 1], .list [.int 1, .int 1, .int 1], dD, d3, by decide +kernel, by decide +kernel, _, rfl, ?_⟩
        rw [show PyData.eqv (.list [.int 1, .int 1, .int 1]) (.list [.int 1, .int 1, .int 1]) = true from by decide +kernel]
        have s13 := (s1.trans s2).trans s3
        exact iteF ⟨tl.mono s13, tm.mono s13, rfl⟩
    clear tl tm
    rintro σ H11 ⟨tl, tm, rfl⟩
    refine ⟨fun σ H12 => ∃ xs ys, H12 L = some (.lst xs) ∧ DpAll K H12 xs dTold ∧ H12 M = some (.lst ys) ∧ DpAll K H12 ys (dTold.take 3) ∧ σ = [v0, some (.ref p), v2, v3, some (.ref M), v5, v6, v7, some (.ref L)], ?_, ?_⟩
    · have S11 := S.mono tl.2.1
      refine ⟨_, rfl, p, c, l, n, t, 9, rfl, S11, by omega, by decide, by decide, fun H1 r r0 r1 S1 k1 => ?_⟩
      have kt := fun a xs (z : SqT K H11 a xs) => sqT_kp k1 S11 z
      obtain ⟨xs, gx, dx⟩ := tl.get
      obtain ⟨ys, gy, dy⟩ := tm.get
      obtain ⟨ls, b1, _⟩ := S.ls
      have np : ∀ {b : Addr}, H5 b = none → b ≠ p := fun e z => by
        rw [z, S.d] at e
        cases e
      have nl : ∀ {b : Addr}, H5 b = none → b ≠ l := fun e z => by
        rw [z, b1] at e
        cases e
      have gx1 := k1 _ _ gx (np tl.1) (nl tl.1)
      have gy1 := k1 _ _ gy (np tm.1) (nl tm.1)
      have dx1 := dps_t kt dTold xs (by decide +kernel) dx
      have dy1 := dps_t kt (dTold.take 3) ys (by decide +kernel) dy
      refine ⟨rfl, _, rfl, ?_⟩
      refine ite2 (fun _ => ?_) (fun _ => ⟨xs, ys, gx1, dx1, gy1, dy1, rfl⟩)
      refine ⟨.free, 7, rfl, szA_free 7 (by decide), by decide, fun H2 L1 us s2 q1 al1 => ?_⟩
      refine ⟨L1, _, rfl, .inr q1, .str, 7, rfl, szA_str 7 (by decide), by decide, fun H3 L2 zs s3 q2 al2 => ?_⟩
      refine ⟨L2, _, rfl, .inr q2, (by show 2 ≤ sizeLine; decide), fun q hq => ?_⟩
      rw [al1.len, al2.len, (sortW_perm _).length_eq, (sortW_perm _).length_eq, len_free.2, len_str.2]
      have s4 := same_new (o := .lst [.int (429 : Nat), .int (64 : Nat)]) hq
      intro w5 H5 s5 d5
      have dD : Dp K H5 (.ref q) (.list [.int 429, .int 64]) := dp_same s5 _ _ (.lst (SqL.of upd_same) (.cons (.int 429) (.cons (.int 64) .nil)))
      refine ⟨.list [.int 429, .int 64], .list [.int 429, .int 64], dD, d5, by decide +kernel, by decide +kernel, _, rfl, ?_⟩
      rw [show PyData.eqv (.list [.int 429, .int 64]) (.list [.int 429, .int 64]) = true from by decide +kernel]
      have s15 := ((s2.trans s3).trans s4).trans s5
      exact iteF ⟨xs, ys, s15 _ _ gx1, dps_same s15 _ _ dx1, s15 _ _ gy1, dps_same s15 _ _ dy1, rfl⟩
    clear tl tm
    rintro σ H12 ⟨xs, ys, gx, dx, gy, dy, rfl⟩
    refine ⟨_, rfl, _, rfl, fun vs H1 s1 d1 => ⟨Nat.le_of_lt (small_line (by rw [dps_len d1]; decide)), fun q hq => ?_⟩⟩
    have s2 := s1.trans (same_new (o := .lst vs) hq)
    refine ⟨M, q, ys, vs, rfl, rfl, s2 _ _ gy, upd_same, Nat.le_of_lt (small_line (by rw [dps_len d1, dps_len dy]; decide)), fun q2 hq2 => ?_⟩
    have s3 := same_new (o := .lst (ys ++ vs)) hq2
    refine ⟨.list dTold, .list dTold, .lst (SqL.of ((s2.trans s3) _ _ gx)) (dps_same (s2.trans s3) _ _ dx), .lst (SqL.of upd_same) (dps_app (ds := dTold.take 3) (es := dTold.drop 3) (dps_same (s2.trans s3) _ _ dy) (dps_same ((same_new hq).trans s3) _ _ d1)), by decide +kernel, by decide +kernel, ?_⟩
    rw [show PyData.eqv (.list dTold) (.list dTold) = true from by decide +kernel]
    exact kk _
end
end Rs


set_option Elab.async false
set_option linter.all false
set_option maxRecDepth 100000
set_option maxHeartbeats 1000000
/-! the end of a law with tables of lambdas, for a promise that wants no guards -/
namespace Rs
open PySem PySem.Spec PyProof.Rows L2 Bs LamX
/-- what is tracked at the law's call: the empty tables; the script, if t -/
def hof (ts : List Addr) (a : Addr) (t : Bool) (u : HO) : Hp := fun b => if b ∈ ts then some (.tbl #[]) else if b = a ∧ t = true then some u else none
section
variable {ts : List Addr} {a b : Addr} {t : Bool} {u x : HO}
theorem hof_some (h : hof ts a t u b = some x) : (b ∈ ts ∧ x = .tbl #[]) ∨ (b = a ∧ t = true ∧ x = u) := by
  unfold hof at h
  split at h
  · rename_i m
    cases h
    exact .inl ⟨m, rfl⟩
  · split at h
    · rename_i z
      cases h
      exact .inr ⟨z.1, z.2, rfl⟩
    · cases h
theorem hof_tab (m : b ∈ ts) : hof ts a t u b = some (.tbl #[]) := if_pos m
theorem hof_at (n : a ∉ ts) (e : t = true) : hof ts a t u a = some u := (if_neg n).trans (if_pos ⟨rfl, e⟩)
end
section
variable {P : Program} {w : World} {K : PySem.W.Frag} {mg mb : Str → Option Value} {k : Nat} {fa a : Addr} {cs : List (Addr × Addr)} {fd : FuncData} {x : Str} {sp : Sp} {s0 : Shared} {vs : List Value} {ns : List Int}
theorem callG (inK : K.In s0.heap) (gM : s0.heap.Ns mainGlobals mg) (gB : s0.heap.Ns builtinsNs mb) (gV : ∀ y : Str, y ≠ "__name__" → mb y = bootBuiltins y) (gL : s0.heap.NoLimit) (gG : s0.gens = #[])
    (tE : ∀ q ∈ cs, s0.heap.get? q.2 = some (PySem.W.tabObj #[])) (tK : ∀ q ∈ cs, K.lookup q.2 = none) (tH : ∀ q ∈ cs, PySem.W.codeHdIn K q.1 q.2 = true)
    (gb : ∃ (m : Addr) (o : Obj), mg "__builtins__" = some (.ref m) ∧ m ≠ builtinsNs ∧ s0.heap.get? m = some o ∧ o.cls = .type "module" ∧ o.dict = some builtinsNs ∧ o.data = .plain)
    (sc : s0.heap.get? a = some { cls := .type "list", data := .seq vs.toArray }) (si : IntsAre vs ns) (sl : ns.length ≤ sizeLine) (room : Room k callerA)
    (prom : ∀ base : Heap, K.In base → base.Ns mainGlobals mg → (∀ q ∈ cs, TabB base mg q.1 q.2) → FnG P w K mg base k fa fd [x] sp) (bnd : ∀ (s : Shared) (u : Value), BindsTo s fd ⟨[u], []⟩ [(x, u)])
    (wish : ∀ H : Hp, (∀ q ∈ cs, H q.2 = some (.tbl #[])) → SqL K H a (ns.map V.int) → sp [.ref a] H (fun v _ => v = .bl true) fun _ _ _ => False) :
    codeAny (model P w) callerA (.call (.ref fa) ⟨[.ref a], []⟩) (fun r s' => r = .ok (.ret (.bool true)) ∧ OldK s0.heap s'.heap ∧ s'.os = s0.os ∧ AllBare s'.gens) s0 := by
  have rv := vals_ints si
  have lv := si.length
  generalize hts : cs.map (·.2) = ts
  have inT : ∀ b ∈ ts, ∃ c, (c, b) ∈ cs := fun b hb => by
    rw [← hts] at hb
    obtain ⟨⟨c, b'⟩, h1, h2⟩ := List.mem_map.mp hb
    cases h2
    exact ⟨c, h1⟩
  have toT : ∀ q ∈ cs, q.2 ∈ ts := fun q hq => by
    rw [← hts]
    exact List.mem_map.mpr ⟨q, hq, rfl⟩
  have tab : ∀ b ∈ ts, s0.heap.get? b = some (PySem.W.tabObj #[]) := fun b hb => by
    obtain ⟨c, m⟩ := inT b hb
    exact tE _ m
  have aT : a ∉ ts := fun z => by
    have e := (tab a z).symm.trans sc
    cases e
  -- the script's own record
  generalize hso : ({ cls := .type "list", data := .seq vs.toArray } : Obj) = so at sc
  generalize hH : hof ts a (K.lookup a).isNone (.frz so (.lst (ns.map V.int))) = H
  have why : ∀ {b : Addr} {u : HO}, H b = some u → (b ∈ ts ∧ u = .tbl #[]) ∨ (b = a ∧ K.lookup a = none ∧ u = .frz so (.lst (ns.map V.int))) := fun {b u} e => by
    rw [← hH] at e
    rcases hof_some e with z | ⟨z1, z2, z3⟩
    · exact .inl z
    · exact .inr ⟨z1, Option.isNone_iff_eq_none.mp z2, z3⟩
  have hT : ∀ q ∈ cs, H q.2 = some (.tbl #[]) := fun q hq => by
    rw [← hH]
    exact hof_tab (toT q hq)
  have hS : SqL K H a (ns.map V.int) := by
    cases e : K.lookup a with
    | none =>
      refine .inl (.inr ⟨so, ?_⟩)
      rw [← hH]
      exact hof_at aT (by rw [e]; rfl)
    | some o =>
      have e2 := inK a o e
      rw [sc] at e2
      cases e2
      subst hso
      exact .inr ⟨_, vs.toArray, _, e, rfl, rfl, rfl, by rw [List.size_toArray, lv]; exact sl, by simpa using rv⟩
  have ok0 : HOk P w H s0.heap := fun b u e => by
    rcases why e with ⟨z, rfl⟩ | ⟨rfl, _, rfl⟩
    · exact tab b z
    · refine ⟨sc, ?_⟩
      subst hso
      exact ⟨by rw [List.length_map]; exact sl, vs, _, rv, sc⟩
  -- what is neither a list nor an empty table isn't tracked
  have off : ∀ {b : Addr} {o : Obj}, s0.heap.get? b = some o → (∀ (z : Array Value) (m : Nat), o.data ≠ .seq z m) → o.data ≠ .fields #[] → H b = none := fun {b o} e n1 n2 => by
    cases q : H b with
    | none => rfl
    | some u =>
      rcases why q with ⟨z, _⟩ | ⟨z, _, _⟩
      · rw [tab b z] at e
        cases e
        exact absurd rfl n2
      · rw [z, sc] at e
        cases e
        subst hso
        exact absurd rfl (n1 _ _)
  have low : ∀ {b : Addr} {o : Obj}, s0.heap.get? b = some o → H b = none → (hidT s0.heap H).get? b = some o := fun e n => hidT_get e n
  have offD : ∀ {b : Addr} {m : Str → Option Value}, s0.heap.Ns b m → (hidT s0.heap H).Ns b m := by
    rintro b m ⟨o, es, ep, e, d, r⟩
    exact ⟨o, es, ep, low e (off e (fun z m' q => by rw [d] at q; cases q) fun q => by rw [d] at q; cases q), d, r⟩
  have offK : K.In (hidT s0.heap H) := fun b o e => low (inK b o e) (by
    cases q : H b with
    | none => rfl
    | some u =>
      rcases why q with ⟨z, _⟩ | ⟨z, n, _⟩
      · obtain ⟨c, m⟩ := inT b z
        exact absurd (e.symm.trans (tK _ m)) (by simp)
      · rw [z, n] at e
        cases e)
  have M : L2.Mod K mg (hidT s0.heap H) := by
    obtain ⟨mc, c1, c2⟩ := gL
    exact ⟨offK, offD gM, ⟨mb, offD gB, gV⟩, mc, offD c1, c2⟩
  have TB : ∀ q ∈ cs, TabB (hidT s0.heap H) mg q.1 q.2 := fun q hq => by
    obtain ⟨m, o, m1, m2, m3, m4, m5, m6⟩ := gb
    have pl : ∀ {d : Data}, d = o.data → d = .plain := fun z => z.trans m6
    refine NdefX.tabB_of_K offK (tH q hq) ⟨m, o, m1, m2, fun z => ?_, fun z => ?_, low m3 (off m3 (fun z m' e => by rw [m6] at e; cases e) fun e => by rw [m6] at e; cases e), m4, m5, m6⟩ fun z => ?_
    · obtain ⟨o2, es, ep, e, d, _⟩ := gM
      rw [← z, m3] at e
      cases e
      rw [m6] at d
      cases d
    · have e := tE q hq
      rw [← z, m3] at e
      cases e
      cases m6
    · obtain ⟨o2, es, ep, e, d, _⟩ := gM
      rw [z, tE q hq] at e
      cases e
      cases d
  have E : Env0 P w K mg (hidT s0.heap H) callerA [] s0 H :=
    { frames := rfl, mod := M, bs := fun b o e => of_hidT e, bsz := Nat.le_of_eq (hidT_size _ _), funs := trivial, frf := (fun b hb => nomatch hb), hok := ok0, bare := .of_eq gG }
  refine codeAny_mono ((prom _ offK (offD gM) TB).run callerA [] s0 H ⟨[.ref a], []⟩ [.ref a] [.ref a] _ _ rfl room E (bnd s0 (.ref a)) (.cons rfl .nil) (wish H hT hS)) fun r s' h => ?_
  rcases r with e | fl
  · exact (show False from h).elim
  · cases fl with
    | next => exact (show False from h).elim
    | brk => exact (show False from h).elim
    | cont => exact (show False from h).elim
    | ret u =>
      obtain ⟨v, H2, os, bare, un, ok2, r2, rfl⟩ := h
      obtain rfl : u = Value.bool true := r2
      have more : ∀ b ∈ ts, ∃ m : Array Value, s'.heap.get? b = some (PySem.W.tabObj m) := fun b hb => by
        obtain ⟨c, hm⟩ := inT b hb
        obtain ⟨m, z⟩ := un.tbls b #[] (hT _ hm)
        exact ⟨_, ok2 b _ z⟩
      have same : ∀ b o, b ∉ ts → s0.heap.get? b = some o → s'.heap.get? b = some o := fun b o nb e => by
        cases q : H b with
        | none => exact un.keep b o e q (fun z => nomatch z) fun z => nomatch z
        | some u =>
          rcases why q with ⟨z, _⟩ | ⟨_, _, rfl⟩
          · exact absurd z nb
          · have g1 := (ok0 b _ q).1
            have g2 := (ok2 b _ (un.frzs b _ _ q)).1
            rw [e] at g1
            cases g1
            exact g2
      refine ⟨rfl, ⟨fun b o e => ?_, fun b o e => ?_⟩, os, bare⟩
      · by_cases hb : b ∈ ts
        · obtain ⟨c, hm⟩ := inT b hb
          obtain ⟨m, g⟩ := more b hb
          rw [tab b hb] at e
          cases e
          exact .inr (.inl ⟨((PySem.W.codeHd_of_K inK (tH _ hm)).tab (tab b hb)).isCodeTable, rfl, #[], m, rfl, by rw [Array.empty_append]; exact g⟩)
        · exact .inl (same b o hb e)
      · by_cases hb : b ∈ ts
        · obtain ⟨m, g⟩ := more b hb
          exact ⟨_, g⟩
        · exact ⟨o, same b o hb e⟩
end
end Rs


set_option Elab.async false
set_option linter.all false
set_option maxRecDepth 100000
set_option maxHeartbeats 1000000
namespace Rs
open PySem PySem.Spec PyProof.Rows L2 Bs LamX
section
variable {K : PySem.W.Frag} {h : Heap} {mg : Str → Option Value} {f C c P : Addr} {x q qual : Str} {st : Stmt} {ps : List Str} {oc kV doc pm cdv ct : Value} {od an : Option Addr} {sl : Array (Option Value)}
theorem defN_mk (X : K.In h) (G : h.Ns mainGlobals mg) (a : PySem.W.nsIn K mainGlobals x = some (some (.ref f)))
    (l : K.lookup f = some ⟨oc, od, .func (PySem.W.fnOf x x (defArgs st) (defBody st) (defScope st) .none kV doc pm an cdv ct), sl⟩) (c : PySem.W.codeIn K cdv x = true) (k : PySem.W.keepIn K (.ref f) = true)
    (b : ∀ (kV doc pm : Value) (an : Option Addr) (cdv ct : Value) (us : List Value), us.length = ps.length → bindArgs (PySem.W.fnOf x x (defArgs st) (defBody st) (defScope st) .none kV doc pm an cdv ct) ⟨us, []⟩ = pure (ps.zip us)) : DefN K mg x st ps :=
  ⟨f, _, fun_mk l c k, PySem.W.mg_of X G a, (fun_mk l c k).binds b⟩
end
section
variable {K : PySem.W.Frag} {mg : Str → Option Value} {CP : Addr}
structure Top0 (K : PySem.W.Frag) (mg : Str → Option Value) (CP : Addr) : Prop where
  who : DefN K mg "is_whole" sWhole ["thing"]
  bet : DefN K mg "is_between" sBetween ["thing", "low", "high"]
  neB : DefN K mg "need_between" sNeedB ["thing", "low", "high"]
  neK : DefN K mg "need_kind" sNeedKind ["kind"]
  isb : DefN K mg "is_block" sIsBlk ["thing"]
  isp : DefN K mg "is_parting" sIsPart ["thing"]
  neP : DefN K mg "need_parting" sNeedPart ["parting"]
  ipd : DefN K mg "is_parted" sParted ["parting", "low", "high"]
  doc : DefN K mg "does_cross" sCross ["parting"]
  iss : DefN K mg "is_stretched" sStretch ["parting"]
  hak : DefN K mg "has_kind" sHasKind ["kind", "parting"]
  wnx : DefN K mg "with_next" sWithN ["parting", "number"]
  pof : DefN K mg "partings_of" sPartsOf ["kind", "many"]
  apa : DefN K mg "all_partings" sAllParts ["kind", "many"]
  iok : DefN K mg "is_of_kind" sIsOfKind ["kind", "parting"]
  trd : DefN K mg "turned" sTurned ["parting"]
  tup : DefN K mg "turned_parting" sTurnedP ["parting"]
  sig : DefN K mg "signed" sSigned ["whole", "many"]
  sby : DefN K mg "sign_by" sSignBy ["kind", "parting"]
  psx : DefN K mg "parting_sign" sPartSign ["kind", "parting"]
  ps0 : DefN K mg "parting_sign" sPartSign ["kind", "parting"]
  mix : DefN K mg "_law_mixed" sMixed ["cell", "k"]
  beg : DefN K mg "_law_begin" sBegin ["script"]
  drw : DefN K mg "_law_draw" sDraw ["state", "many"]
  lof : DefN K mg "_law_of" sOf ["state", "some"]
  lpa : DefN K mg "_law_partings" sLParts ["many"]
  lho : DefN K mg "_law_home" sLHome ["parting", "number"]
  lfr : DefN K mg "_law_is_free" sLFree ["parting", "many"]
  lki : DefN K mg "_law_is_kind" sLKind ["kind", "parting"]
  lok : DefN K mg "_law_of_kind" sLOfKind ["kind", "many"]
  ltu : DefN K mg "_law_turned" sLTurned ["parting"]
  lsi : DefN K mg "_law_sign" sLSign ["kind", "parting"]
  lhe : DefN K mg "_law_heard" sLHeard ["kind", "parting"]
  one : DefN K mg "_law_one_right" sLOne ["parting"]
  law : DefN K mg "law" sLaw ["script"]
  eP : Err K mg "BadParting" "BadParting.__init__" sIPa CP
  t : Blt mg
  kg : KindsG K mg
  mn : MostN mg
  xe : PySem.W.exmOne K (.ref CP) (.ref CP) = some true
  st : mg "str" = none
  al : mg "all" = none
  an : mg "any" = none
  zp : mg "zip" = none
  so : mg "sorted" = none
  en : mg "enumerate" = none
  su : mg "sum" = none
theorem law_prom {P : Program} {w : World} (D : Top0 K mg CP) {fa : Addr} (hfa : mg "law" = some (.ref fa)) :
    ∃ fd : FuncData, (∀ (s : Shared) (u : Value), BindsTo s fd ⟨[u], []⟩ [("script", u)]) ∧
      ∀ base : Heap, FnG P w K mg base 9 fa fd ["script"] (spLaw K) := by
  obtain ⟨f, fd, F, m, bi⟩ := D.law.ex
  rw [hfa] at m
  cases m
  refine ⟨fd, ?_, fun base => ?_⟩
  · obtain ⟨oc, od, kV, doc, pm, an, cdv, ct, osl, rfl, _, _⟩ := F.ex
    exact fun s u => .of_eq rfl
  have T := D.t
  have eP : ErrOk P w K mg base "BadParting" CP := D.eP.okP
  have who := D.who.cal (P := P) (w := w) (base := base) fun f fd F => ok_whole F T
  have bet := D.bet.cal (P := P) (w := w) (base := base) fun f fd F => ok_between F who
  have neB := D.neB.cal (P := P) (w := w) (base := base) fun f fd F => ok_needB0 F bet
  have neK := D.neK.cal (P := P) (w := w) (base := base) fun f fd F => ok_needKind F T D.st D.kg
  have isb := D.isb.cal (P := P) (w := w) (base := base) fun f fd F => ok_isBlk F T D.al D.zp D.mn bet
  have isp := D.isp.cal (P := P) (w := w) (base := base) fun f fd F => ok_isPart F T D.al D.an D.zp D.so isb
  have neP := D.neP.cal (P := P) (w := w) (base := base) fun f fd F => ok_needPart F isp
  have ipd := D.ipd.cal (P := P) (w := w) (base := base) fun f fd F => ok_parted F T
  have doc := D.doc.cal (P := P) (w := w) (base := base) fun f fd F => ok_cross F D.zp D.an ipd
  have iss := D.iss.cal (P := P) (w := w) (base := base) fun f fd F => ok_stretch F T D.al
  have hak := D.hak.cal (P := P) (w := w) (base := base) fun f fd F => ok_hasKind F doc iss
  have wnx := D.wnx.cal (P := P) (w := w) (base := base) fun f fd F => ok_withN F D.en
  have pof := D.pof.cal (P := P) (w := w) (base := base) fun f fd F => ok_partsOf F T D.so wnx hak
  have apa := D.apa.cal (P := P) (w := w) (base := base) fun f fd F => ok_allParts F D.mn neK neB pof
  have iok := D.iok.cal (P := P) (w := w) (base := base) fun f fd F => ok_isOfKind F neK neP hak
  have trd := D.trd.cal (P := P) (w := w) (base := base) fun f fd F => ok_turned F T D.en D.su ipd
  have tup := D.tup.cal (P := P) (w := w) (base := base) fun f fd F => ok_turnedP F neP trd
  have sig := D.sig.cal (P := P) (w := w) (base := base) fun f fd F => ok_signed F
  have sby := D.sby.cal (P := P) (w := w) (base := base) fun f fd F => ok_signBy F T trd sig
  have psx := D.psx.calX (P := P) (w := w) (base := base) fun f fd F => ok_partSign F eP neK neP hak sby
  have ps0 := D.ps0.cal (P := P) (w := w) (base := base) fun f fd F => ok_partSign0 F neK neP hak sby
  have mix := D.mix.cal (P := P) (w := w) (base := base) fun f fd F => ok_mixed F T
  have beg := D.beg.cal (P := P) (w := w) (base := base) fun f fd F => ok_begin F T
  have drw := D.drw.cal (P := P) (w := w) (base := base) fun f fd F => ok_draw F T mix
  have lof := D.lof.cal (P := P) (w := w) (base := base) fun f fd F => ok_of F T drw
  have lpa := D.lpa.cal (P := P) (w := w) (base := base) fun f fd F => ok_lparts F T D.so
  have lho := D.lho.cal (P := P) (w := w) (base := base) fun f fd F => ok_lhome F D.en
  have lfr := D.lfr.cal (P := P) (w := w) (base := base) fun f fd F => ok_lfree F T lho
  have lki := D.lki.cal (P := P) (w := w) (base := base) fun f fd F => ok_lkind F T D.su lfr
  have lok := D.lok.cal (P := P) (w := w) (base := base) fun f fd F => ok_lofKind F lpa lki
  have ltu := D.ltu.cal (P := P) (w := w) (base := base) fun f fd F => ok_lturned F T D.en D.zp D.su
  have lsi := D.lsi.cal (P := P) (w := w) (base := base) fun f fd F => ok_lsign F T ltu
  have lhe := D.lhe.cal (P := P) (w := w) (base := base) fun f fd F => ok_lheard F D.eP D.xe psx
  have one := D.one.calG (P := P) (w := w) (base := base) fun f fd F => ok_lone F T D.su lki iok lhe lsi ltu tup
  exact ok_law F T beg drw lof lok apa lpa one tup iok ps0
theorem walkG {l : PySem.W.OpenLaw} {q : Program} {loose : List Str} {XP : (Str → Option Value) → Heap → Prop} {YP : World → Heap → Prop} {d : DefRec} {KK : Params → PySem.W.Frag} (hn : l.most = some 63) (hd : d.params.defaults = [])
    (hY : ∀ (w : World) (h : Heap), YP w h → (KK w.params).In h)
    (F : ∀ (w : World) (mg : Str → Option Value) (fa : Addr) (h : Heap), (KK w.params).In h → h.Ns mainGlobals mg → mg d.name = some (.ref fa) → ∃ (CP : Addr), Top0 (KK w.params) mg CP ∧ mg "law" = some (.ref fa)) :
    PySem.W.WalkO q loose XP YP l.row.toRowW d [] (fun f vs => PySem.call f vs) := by
  refine Att.attach_callB hn hd fun w s9 s0 mg mb fa o pm cd doc a vs ns GG Y h1 h2 h3 hm hs hi hl hb hg => ?_
  have inK := hY w _ Y
  obtain ⟨CP, D, m⟩ := F w mg fa _ inK GG.T.g hm
  obtain ⟨fd, bnd, pr⟩ := law_prom (P := l.prog) (w := w) D m
  refine callG (cs := []) inK GG.T.g GG.T.b GG.T.builtins GG.T.nolimit hg (fun r hr => by cases hr) (fun r hr => by cases hr) (fun r hr => by cases hr) GG.T.bmain hs hi (Nat.le_trans hl (by decide)) ⟨rfl, by decide, by decide⟩ (fun base _ _ _ => pr base) bnd fun H ht hq => ?_
  exact ⟨a, ns, rfl, hq, hl, fun _ => rfl⟩
end
end Rs


set_option Elab.async false
set_option linter.all false
set_option maxRecDepth 100000
set_option maxHeartbeats 1000000
namespace Rs
open PySem PySem.Spec PyProof.Rows L2 Bs LamX
section
variable {K : PySem.W.Frag} {h : Heap} {mg : Str → Option Value}
theorem blt_mk (X : K.In h) (G : h.Ns mainGlobals mg) (h1 : PySem.W.nsIn K mainGlobals "isinstance" = some none) (h2 : PySem.W.nsIn K mainGlobals "len" = some none) (h3 : PySem.W.nsIn K mainGlobals "int" = some none) (h4 : PySem.W.nsIn K mainGlobals "bool" = some none) (h5 : PySem.W.nsIn K mainGlobals "tuple" = some none) (h6 : PySem.W.nsIn K mainGlobals "range" = some none) (h7 : PySem.W.nsIn K mainGlobals "list" = some none) (h8 : PySem.W.nsIn K mainGlobals "abs" = some none) (h9 : PySem.W.nsIn K mainGlobals "min" = some none) (h10 : PySem.W.nsIn K mainGlobals "repr" = some none) (h11 : PySem.W.nsIn K mainGlobals "comb" = some (some (.builtin "math.comb"))) (h12 : PySem.W.nsIn K mainGlobals "factorial" = some (some (.builtin "math.factorial"))) : Blt mg :=
  ⟨PySem.W.mg_none_of X G h1, PySem.W.mg_none_of X G h2, PySem.W.mg_none_of X G h3, PySem.W.mg_none_of X G h4, PySem.W.mg_none_of X G h5, PySem.W.mg_none_of X G h6, PySem.W.mg_none_of X G h7, PySem.W.mg_none_of X G h8, PySem.W.mg_none_of X G h9, PySem.W.mg_none_of X G h10, PySem.W.mg_of X G h11, PySem.W.mg_of X G h12⟩
/-- a class of errors with its __init__ -/
structure ErrTxt (K : PySem.W.Frag) (x qual fld : Str) (st : Stmt) (C : Addr) : Prop where
  a : PySem.W.nsIn K mainGlobals x = some (some (.ref C))
  oex : OexC K C
  xf : XfC K C
  no : PySem.W.findIn K (.ref C) fld = some none
  ini : ∃ (fI : Addr) (fd : FuncData), PySem.W.findIn K (.ref C) "__init__" = some (some (.ref fI)) ∧ PySem.W.typeIn K (.ref fI) = some (.type "function") ∧ Fun K "__init__" qual st fI fd ∧ Binds K fd ["self", fld] []
theorem err_mk {x qual fld : Str} {st : Stmt} {C fI N : Addr} {nm q : Str} {bs bm : List Value} {sn : List Str} {sub : List Value} {ab : Bool} {col : Option Bool} {dd : Option Addr} {k0 k1 k2 k3 k5 : Option Value}
    {oc kV doc pm cdv ct : Value} {od an : Option Addr} {sl : Array (Option Value)}
    (a : PySem.W.nsIn K mainGlobals x = some (some (.ref C))) (c : K.lookup C = some (excClassObj nm q C N bs bm true sn sub ab col dd k0 k1 k2 k3 k5 "ValueError.__new__")) (r : PySem.HandSPX.refsVE bm = true)
    (sa : PySem.W.findIn K (.ref C) "__setattr__" = some (some (.builtin "object.__setattr__"))) (ga : PySem.W.findIn K (.ref C) "__getattribute__" = some (some (.builtin "BaseException.__getattribute__")))
    (gg : PySem.W.findIn K (.ref C) "__getattr__" = some none) (no : PySem.W.findIn K (.ref C) fld = some none) (ex : PySem.W.subIn K (.ref C) (.type "BaseException") = some true) (ty : PySem.W.typeIn K (.ref C) = some (.type "type"))
    (kC : PySem.W.keepIn K (.ref C) = true) (hd : PySem.W.hasDictIn K C = true) (i : PySem.W.findIn K (.ref C) "__init__" = some (some (.ref fI))) (t : PySem.W.typeIn K (.ref fI) = some (.type "function"))
    (l : K.lookup fI = some ⟨oc, od, .func (PySem.W.fnOf "__init__" qual (defArgs st) (defBody st) (defScope st) .none kV doc pm an cdv ct), sl⟩) (hc : PySem.W.codeIn K cdv qual = true) (k : PySem.W.keepIn K (.ref fI) = true)
    (b : ∀ (kV doc pm : Value) (an : Option Addr) (cdv ct : Value) (us : List Value), us.length = (["self", fld] : List Str).length → bindArgs (PySem.W.fnOf "__init__" qual (defArgs st) (defBody st) (defScope st) .none kV doc pm an cdv ct) ⟨us, []⟩ = pure ((["self", fld] : List Str).zip us)) :
    ErrTxt K x qual fld st C :=
  ⟨a, ⟨⟨nm, q, N, bs, bm, sn, sub, ab, col, dd, k0, k1, k2, k3, k5, c, r⟩, sa, ex, ty, kC⟩, ⟨ga, gg, ex, hd⟩, no, fI, _, i, t, fun_mk l hc k, (fun_mk l hc k).binds b⟩
theorem ErrTxt.err {x qual : Str} {st : Stmt} {C : Addr} (E : ErrTxt K x qual "given" st C) (X : K.In h) (G : h.Ns mainGlobals mg) : Err K mg x qual st C := ⟨PySem.W.mg_of X G E.a, E.oex, E.xf, E.no, E.ini⟩
theorem kinds_mk {a : Addr} {t1 t2 t3 : Tok} {n : Nat} {sl : Array (Option Value)} (X : K.In h) (G : h.Ns mainGlobals mg) (e : PySem.W.nsIn K mainGlobals "KINDS" = some (some (.ref a)))
    (l : K.lookup a = some ⟨.type "tuple", none, .seq #[.str "all" t1, .str "free" t2, .str "stretch" t3] n, sl⟩) : KindsG K mg :=
  ⟨a, PySem.W.mg_of X G e, fun H => .inr ⟨_, _, _, l, rfl, rfl, (by show 3 ≤ sizeLine; decide), .cons ⟨_, rfl⟩ (.cons ⟨_, rfl⟩ (.cons ⟨_, rfl⟩ .nil))⟩⟩
theorem mostn_mk {t1 : Tok} (X : K.In h) (G : h.Ns mainGlobals mg) (e1 : PySem.W.nsIn K mainGlobals "MOST_NUMBERS" = some (some (.int 7 t1))) : MostN mg := ⟨⟨t1, PySem.W.mg_of X G e1⟩⟩

end
/-- all of it -/
theorem all_mk {K : PySem.W.Frag} {h : Heap} {mg : Str → Option Value} {fa : Addr} {CP : Addr}
    (X : K.In h) (G : h.Ns mainGlobals mg) (hfa : mg "law" = some (.ref fa))
    (who : DefN K mg "is_whole" sWhole ["thing"])
    (bet : DefN K mg "is_between" sBetween ["thing", "low", "high"])
    (neB : DefN K mg "need_between" sNeedB ["thing", "low", "high"])
    (neK : DefN K mg "need_kind" sNeedKind ["kind"])
    (isb : DefN K mg "is_block" sIsBlk ["thing"])
    (isp : DefN K mg "is_parting" sIsPart ["thing"])
    (neP : DefN K mg "need_parting" sNeedPart ["parting"])
    (ipd : DefN K mg "is_parted" sParted ["parting", "low", "high"])
    (doc : DefN K mg "does_cross" sCross ["parting"])
    (iss : DefN K mg "is_stretched" sStretch ["parting"])
    (hak : DefN K mg "has_kind" sHasKind ["kind", "parting"])
    (wnx : DefN K mg "with_next" sWithN ["parting", "number"])
    (pof : DefN K mg "partings_of" sPartsOf ["kind", "many"])
    (apa : DefN K mg "all_partings" sAllParts ["kind", "many"])
    (iok : DefN K mg "is_of_kind" sIsOfKind ["kind", "parting"])
    (trd : DefN K mg "turned" sTurned ["parting"])
    (tup : DefN K mg "turned_parting" sTurnedP ["parting"])
    (sig : DefN K mg "signed" sSigned ["whole", "many"])
    (sby : DefN K mg "sign_by" sSignBy ["kind", "parting"])
    (psx : DefN K mg "parting_sign" sPartSign ["kind", "parting"])
    (ps0 : DefN K mg "parting_sign" sPartSign ["kind", "parting"])
    (mix : DefN K mg "_law_mixed" sMixed ["cell", "k"])
    (beg : DefN K mg "_law_begin" sBegin ["script"])
    (drw : DefN K mg "_law_draw" sDraw ["state", "many"])
    (lof : DefN K mg "_law_of" sOf ["state", "some"])
    (lpa : DefN K mg "_law_partings" sLParts ["many"])
    (lho : DefN K mg "_law_home" sLHome ["parting", "number"])
    (lfr : DefN K mg "_law_is_free" sLFree ["parting", "many"])
    (lki : DefN K mg "_law_is_kind" sLKind ["kind", "parting"])
    (lok : DefN K mg "_law_of_kind" sLOfKind ["kind", "many"])
    (ltu : DefN K mg "_law_turned" sLTurned ["parting"])
    (lsi : DefN K mg "_law_sign" sLSign ["kind", "parting"])
    (lhe : DefN K mg "_law_heard" sLHeard ["kind", "parting"])
    (one : DefN K mg "_law_one_right" sLOne ["parting"])
    (law : DefN K mg "law" sLaw ["script"])
    (eP : ErrTxt K "BadParting" "BadParting.__init__" "given" sIPa CP)
    (t : Blt mg) (kg : KindsG K mg) (mn : MostN mg) (xe : PySem.W.exmOne K (.ref CP) (.ref CP) = some true) (st : mg "str" = none) (al : mg "all" = none) (an : mg "any" = none) (zp : mg "zip" = none) (so : mg "sorted" = none) (en : mg "enumerate" = none) (su : mg "sum" = none) :
    ∃ (CP : Addr), Top0 K mg CP ∧ mg "law" = some (.ref fa) :=
  ⟨CP, ⟨who, bet, neB, neK, isb, isp, neP, ipd, doc, iss, hak, wnx, pof, apa, iok, trd, tup, sig, sby, psx, ps0, mix, beg, drw, lof, lpa, lho, lfr, lki, lok, ltu, lsi, lhe, one, law, eP.err X G, t, kg, mn, xe, st, al, an, zp, so, en, su⟩, hfa⟩
end Rs


set_option Elab.async false
set_option linter.all false
open PySem PySem.W PyProof.Rows
set_option maxRecDepth 100000 in
set_option maxHeartbeats 0 in
theorem PySem.Challenge.cw_rungshare_k36_whole_partings_holds : PySem.Challenge.rw_rungshare_k36_whole_partings.Holds := by
  w_on; o_law; k_head; (case hw => w_witness2)
  k_fill
  refine Rs.walkG (l := PySem.Challenge.rw_rungshare_k36_whole_partings) rfl rfl (fun w h Y => PySem.W.kIn_of Y) ?F
  case F =>
    intro w mg fa h KX G hmg'
    refine' Rs.all_mk KX G hmg' ?who ?bet ?neB ?neK ?isb ?isp ?neP ?ipd ?doc ?iss ?hak ?wnx ?pof ?apa ?iok ?trd ?tup ?sig ?sby ?psx ?ps0 ?mix ?beg ?drw ?lof ?lpa ?lho ?lfr ?lki ?lok ?ltu ?lsi ?lhe ?one ?law ?eP ?gt ?gkg ?gmn ?gxe ?gst ?gal ?gan ?gzp ?gso ?gen ?gsu
    (case who => refine' Rs.defN_mk KX G ?a ?l ?c ?k (fun _ _ _ _ _ _ us hl => match us, hl with | [_], _ => rfl); (case a => k_is); (case l => k_is); (case c => k_is); (case k => k_is))
    (case bet => refine' Rs.defN_mk KX G ?a ?l ?c ?k (fun _ _ _ _ _ _ us hl => match us, hl with | [_, _, _], _ => rfl); (case a => k_is); (case l => k_is); (case c => k_is); (case k => k_is))
    (case neB => refine' Rs.defN_mk KX G ?a ?l ?c ?k (fun _ _ _ _ _ _ us hl => match us, hl with | [_, _, _], _ => rfl); (case a => k_is); (case l => k_is); (case c => k_is); (case k => k_is))
    (case neK => refine' Rs.defN_mk KX G ?a ?l ?c ?k (fun _ _ _ _ _ _ us hl => match us, hl with | [_], _ => rfl); (case a => k_is); (case l => k_is); (case c => k_is); (case k => k_is))
    (case isb => refine' Rs.defN_mk KX G ?a ?l ?c ?k (fun _ _ _ _ _ _ us hl => match us, hl with | [_], _ => rfl); (case a => k_is); (case l => k_is); (case c => k_is); (case k => k_is))
    (case isp => refine' Rs.defN_mk KX G ?a ?l ?c ?k (fun _ _ _ _ _ _ us hl => match us, hl with | [_], _ => rfl); (case a => k_is); (case l => k_is); (case c => k_is); (case k => k_is))
    (case neP => refine' Rs.defN_mk KX G ?a ?l ?c ?k (fun _ _ _ _ _ _ us hl => match us, hl with | [_], _ => rfl); (case a => k_is); (case l => k_is); (case c => k_is); (case k => k_is))
    (case ipd => refine' Rs.defN_mk KX G ?a ?l ?c ?k (fun _ _ _ _ _ _ us hl => match us, hl with | [_, _, _], _ => rfl); (case a => k_is); (case l => k_is); (case c => k_is); (case k => k_is))
    (case doc => refine' Rs.defN_mk KX G ?a ?l ?c ?k (fun _ _ _ _ _ _ us hl => match us, hl with | [_], _ => rfl); (case a => k_is); (case l => k_is); (case c => k_is); (case k => k_is))
    (case iss => refine' Rs.defN_mk KX G ?a ?l ?c ?k (fun _ _ _ _ _ _ us hl => match us, hl with | [_], _ => rfl); (case a => k_is); (case l => k_is); (case c => k_is); (case k => k_is))
    (case hak => refine' Rs.defN_mk KX G ?a ?l ?c ?k (fun _ _ _ _ _ _ us hl => match us, hl with | [_, _], _ => rfl); (case a => k_is); (case l => k_is); (case c => k_is); (case k => k_is))
    (case wnx => refine' Rs.defN_mk KX G ?a ?l ?c ?k (fun _ _ _ _ _ _ us hl => match us, hl with | [_, _], _ => rfl); (case a => k_is); (case l => k_is); (case c => k_is); (case k => k_is))
    (case pof => refine' Rs.defN_mk KX G ?a ?l ?c ?k (fun _ _ _ _ _ _ us hl => match us, hl with | [_, _], _ => rfl); (case a => k_is); (case l => k_is); (case c => k_is); (case k => k_is))
    (case apa => refine' Rs.defN_mk KX G ?a ?l ?c ?k (fun _ _ _ _ _ _ us hl => match us, hl with | [_, _], _ => rfl); (case a => k_is); (case l => k_is); (case c => k_is); (case k => k_is))
    (case iok => refine' Rs.defN_mk KX G ?a ?l ?c ?k (fun _ _ _ _ _ _ us hl => match us, hl with | [_, _], _ => rfl); (case a => k_is); (case l => k_is); (case c => k_is); (case k => k_is))
    (case trd => refine' Rs.defN_mk KX G ?a ?l ?c ?k (fun _ _ _ _ _ _ us hl => match us, hl with | [_], _ => rfl); (case a => k_is); (case l => k_is); (case c => k_is); (case k => k_is))
    (case tup => refine' Rs.defN_mk KX G ?a ?l ?c ?k (fun _ _ _ _ _ _ us hl => match us, hl with | [_], _ => rfl); (case a => k_is); (case l => k_is); (case c => k_is); (case k => k_is))
    (case sig => refine' Rs.defN_mk KX G ?a ?l ?c ?k (fun _ _ _ _ _ _ us hl => match us, hl with | [_, _], _ => rfl); (case a => k_is); (case l => k_is); (case c => k_is); (case k => k_is))
    (case sby => refine' Rs.defN_mk KX G ?a ?l ?c ?k (fun _ _ _ _ _ _ us hl => match us, hl with | [_, _], _ => rfl); (case a => k_is); (case l => k_is); (case c => k_is); (case k => k_is))
    (case psx => refine' Rs.defN_mk KX G ?a ?l ?c ?k (fun _ _ _ _ _ _ us hl => match us, hl with | [_, _], _ => rfl); (case a => k_is); (case l => k_is); (case c => k_is); (case k => k_is))
    (case ps0 => refine' Rs.defN_mk KX G ?a ?l ?c ?k (fun _ _ _ _ _ _ us hl => match us, hl with | [_, _], _ => rfl); (case a => k_is); (case l => k_is); (case c => k_is); (case k => k_is))
    (case mix => refine' Rs.defN_mk KX G ?a ?l ?c ?k (fun _ _ _ _ _ _ us hl => match us, hl with | [_, _], _ => rfl); (case a => k_is); (case l => k_is); (case c => k_is); (case k => k_is))
    (case beg => refine' Rs.defN_mk KX G ?a ?l ?c ?k (fun _ _ _ _ _ _ us hl => match us, hl with | [_], _ => rfl); (case a => k_is); (case l => k_is); (case c => k_is); (case k => k_is))
    (case drw => refine' Rs.defN_mk KX G ?a ?l ?c ?k (fun _ _ _ _ _ _ us hl => match us, hl with | [_, _], _ => rfl); (case a => k_is); (case l => k_is); (case c => k_is); (case k => k_is))
    (case lof => refine' Rs.defN_mk KX G ?a ?l ?c ?k (fun _ _ _ _ _ _ us hl => match us, hl with | [_, _], _ => rfl); (case a => k_is); (case l => k_is); (case c => k_is); (case k => k_is))
    (case lpa => refine' Rs.defN_mk KX G ?a ?l ?c ?k (fun _ _ _ _ _ _ us hl => match us, hl with | [_], _ => rfl); (case a => k_is); (case l => k_is); (case c => k_is); (case k => k_is))
    (case lho => refine' Rs.defN_mk KX G ?a ?l ?c ?k (fun _ _ _ _ _ _ us hl => match us, hl with | [_, _], _ => rfl); (case a => k_is); (case l => k_is); (case c => k_is); (case k => k_is))
    (case lfr => refine' Rs.defN_mk KX G ?a ?l ?c ?k (fun _ _ _ _ _ _ us hl => match us, hl with | [_, _], _ => rfl); (case a => k_is); (case l => k_is); (case c => k_is); (case k => k_is))
    (case lki => refine' Rs.defN_mk KX G ?a ?l ?c ?k (fun _ _ _ _ _ _ us hl => match us, hl with | [_, _], _ => rfl); (case a => k_is); (case l => k_is); (case c => k_is); (case k => k_is))
    (case lok => refine' Rs.defN_mk KX G ?a ?l ?c ?k (fun _ _ _ _ _ _ us hl => match us, hl with | [_, _], _ => rfl); (case a => k_is); (case l => k_is); (case c => k_is); (case k => k_is))
    (case ltu => refine' Rs.defN_mk KX G ?a ?l ?c ?k (fun _ _ _ _ _ _ us hl => match us, hl with | [_], _ => rfl); (case a => k_is); (case l => k_is); (case c => k_is); (case k => k_is))
    (case lsi => refine' Rs.defN_mk KX G ?a ?l ?c ?k (fun _ _ _ _ _ _ us hl => match us, hl with | [_, _], _ => rfl); (case a => k_is); (case l => k_is); (case c => k_is); (case k => k_is))
    (case lhe => refine' Rs.defN_mk KX G ?a ?l ?c ?k (fun _ _ _ _ _ _ us hl => match us, hl with | [_, _], _ => rfl); (case a => k_is); (case l => k_is); (case c => k_is); (case k => k_is))
    (case one => refine' Rs.defN_mk KX G ?a ?l ?c ?k (fun _ _ _ _ _ _ us hl => match us, hl with | [_], _ => rfl); (case a => k_is); (case l => k_is); (case c => k_is); (case k => k_is))
    (case law => refine' Rs.defN_mk KX G ?a ?l ?c ?k (fun _ _ _ _ _ _ us hl => match us, hl with | [_], _ => rfl); (case a => k_is); (case l => k_is); (case c => k_is); (case k => k_is))
    (case eP => refine' Rs.err_mk ?aeP ?ceP ?reP ?saeP ?gaeP ?ggeP ?noeP ?exeP ?tyeP ?kCeP ?hdeP ?ieP ?teP ?leP ?hceP ?keP (fun _ _ _ _ _ _ us hl => match us, hl with | [_, _], _ => rfl); (case aeP => k_is); (case ceP => k_is); (case reP => decide +kernel); (case saeP => k_is); (case gaeP => k_is); (case ggeP => k_is); (case noeP => k_is); (case exeP => k_is); (case tyeP => k_is); (case kCeP => k_is); (case hdeP => k_is); (case ieP => k_is); (case teP => k_is); (case leP => k_is); (case hceP => k_is); (case keP => k_is))
    (case gt => refine' Rs.blt_mk KX G ?h1 ?h2 ?h3 ?h4 ?h5 ?h6 ?h7 ?h8 ?h9 ?h10 ?h11 ?h12; (case h1 => k_is); (case h2 => k_is); (case h3 => k_is); (case h4 => k_is); (case h5 => k_is); (case h6 => k_is); (case h7 => k_is); (case h8 => k_is); (case h9 => k_is); (case h10 => k_is); (case h11 => k_is); (case h12 => k_is))
    (case gkg => refine' Rs.kinds_mk KX G ?hka ?hkl; (case hka => k_is); (case hkl => k_is))
    (case gmn => refine' Rs.mostn_mk KX G ?hm7; (case hm7 => k_is))
    (case gxe => first | k_is | kernel_rfl)
    (case gst => refine' PySem.W.mg_none_of KX G ?hnst; k_is)
    (case gal => refine' PySem.W.mg_none_of KX G ?hnal; k_is)
    (case gan => refine' PySem.W.mg_none_of KX G ?hnan; k_is)
    (case gzp => refine' PySem.W.mg_none_of KX G ?hnzp; k_is)
    (case gso => refine' PySem.W.mg_none_of KX G ?hnso; k_is)
    (case gen => refine' PySem.W.mg_none_of KX G ?hnen; k_is)
    (case gsu => refine' PySem.W.mg_none_of KX G ?hnsu; k_is)


