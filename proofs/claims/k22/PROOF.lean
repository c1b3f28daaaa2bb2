import PyProof.Rows.All
import Wide.All
import OpenK.AllK
import Wide.FinOn
import HandS.ForMost
import HandS.ForExc
import HandS.Gcd
import HandS.Wide
import HandS.IsInst
import HandS.ExcInit
import HandS.Lambda
import HandS.OwnEq
import KE.GoesMore
import HandS.Iter
import HandS.Rev
import HandS.Style
import HandS.TryMany
import HandS.ExcField
import PySem.Challenge.RW_rungshare_k22_whole_ways
import HandS.Codes
import HandS.TupAny
import HandS.Walk
import HandS.Zip
import PyProof.ExcBaseAll.LookupError
import HandS.TupMul
import HandS.RevRange
import HandS.ExcOwn
import HandS.EndTab
import HandS.NestedK
set_option Elab.async false
set_option linter.all false
set_option maxRecDepth 100000
set_option maxHeartbeats 2000000
/-! small things that every law wants -/
namespace Bs
open PySem PySem.Spec PyProof.Rows L2
theorem same_new {H : Hp} {p : Addr} {o : HO} (h : H p = none) : Same H (upd H p o) := fun b u e => (upd_ne (ne_of_none e h)).trans e
theorem Same.t {K : PySem.W.Frag} {H H' : Hp} {a : Addr} {xs : List V} (e : Same H H') (h : SqT K H a xs) : SqT K H' a xs := by
  rcases h with (h | ⟨o, h⟩) | h
  · exact .inl (.inl (e _ _ h))
  · exact .inl (.inr ⟨o, e _ _ h⟩)
  · exact .inr h
section
variable {X : Cx}
/-- x *= e, both ints, together below a million bits -/
def ipM : TIp := fun x y H Q => ∃ i j, x = .int i ∧ y = .int j ∧ CMulW i j ∧ Q (.int (i * j)) H
theorem ip_mul : PIp X .Mult ipM := by
  rintro pins s σ H x y v u Q I r1 r2 ⟨i, j, rfl, rfl, c, q⟩
  obtain ⟨t, rfl⟩ := r1
  obtain ⟨t', rfl⟩ := r2
  exact imul_int ⟨.int _, H, I.tok _, ⟨_, rfl⟩, q⟩ c.ok
/-- repr of data in lists and tuples -/
def rRepr (K : PySem.W.Frag) : List V → Hp → VK → Prop := fun xs H Q => ∃ (a : Addr) (d : PyData), xs = [.ref a] ∧ Dp K H (.ref a) d ∧ d.showable = true ∧ d.hasDict = false ∧ d.depth ≤ 60 ∧ d.shown.length ≤ sizeLine ∧ Q (.str d.shown) H
theorem call_repr (hg : X.A.guards = some []) (hu : X.A.units + 64 < cLine) : CallR X (.builtin "repr") (rRepr X.K) := by
  rintro pins s σ H xs us Q I r ⟨a, d, rfl, hd, h1, h2, h3, h4, q⟩
  obtain ⟨u, rfl, ru⟩ := vals1 r
  obtain ⟨as, rd⟩ := Dp.reads I d (.ref a) u hd ru
  obtain rfl : u = Value.ref a := ru
  refine repr_of_reads' rd h1 (PyData.noDict_hsm h2) hg (by omega) (fun _ _ e => e) (fun h' u tk hk => ?_) h4
  exact ⟨.str d.shown, H, I.kept (h' := h') hk, ⟨u, rfl⟩, q⟩
end
/-! ### defs that may raise, and defs that ask for no guards -/
structure CalX (P : Program) (w : World) (K : PySem.W.Frag) (mg : Str → Option Value) (base : Heap) (k : Nat) (x : Str) (sp : Sp) : Prop where
  ex : ∃ (f : Addr) (fd : FuncData) (ps : List Str), FnOk P w K mg base (L2.CX P w) k f fd ps sp ∧ mg x = some (.ref f) ∧ PySem.W.keepIn K (.ref f) = true ∧ Binds K fd ps []
structure Cal (P : Program) (w : World) (K : PySem.W.Frag) (mg : Str → Option Value) (base : Heap) (k : Nat) (x : Str) (sp : Sp) : Prop where
  ex : ∃ (f : Addr) (fd : FuncData) (ps : List Str), FnOk P w K mg base CX0 k f fd ps sp ∧ mg x = some (.ref f) ∧ PySem.W.keepIn K (.ref f) = true ∧ Binds K fd ps []
/-- a promise that is kept where no guard stands around -/
structure FnG (P : Program) (w : World) (K : PySem.W.Frag) (mg : Str → Option Value) (base : Heap) (k : Nat) (f : Addr) (fd : FuncData) (ps : List Str) (sp : Sp) : Prop where
  len : ∀ vs H Q E, sp vs H Q E → vs.length = ps.length
  run : ∀ (A : Around) (outer : List Env) (s : Shared) (H : Hp) (args : Args) (us : List Value) (vs : List V) (Q : VK) (E : XK), A.guards = some [] → Room k A → Env0 P w K mg base A outer s H →
    BindsTo s fd args (ps.zip us) → Vals vs us → sp vs H Q E → codeAny (model P w) A (.call (.ref f) args) (CR CX0 outer P w H s Q E) s
structure CalG (P : Program) (w : World) (K : PySem.W.Frag) (mg : Str → Option Value) (base : Heap) (k : Nat) (x : Str) (sp : Sp) : Prop where
  ex : ∃ (f : Addr) (fd : FuncData) (ps : List Str), FnG P w K mg base k f fd ps sp ∧ mg x = some (.ref f) ∧ PySem.W.keepIn K (.ref f) = true ∧ Binds K fd ps []
section
variable {P : Program} {w : World} {K : PySem.W.Frag} {mg : Str → Option Value} {base : Heap} {k : Nat} {f : Addr} {fd : FuncData} {sp : Sp} {x qual : Str} {st : Stmt} {N ps : List Str}
theorem FnG.ok (F : Fun K x qual st f fd) (S : FnScope N ps (defScope st)) (len : ∀ vs H Q E, sp vs H Q E → vs.length = ps.length)
    (hbody : ∀ (cdv : Value) (A : Around) (outer : List Env) (s : Shared) (H : Hp) (vs : List V) (Q : VK) (E : XK), A.guards = some [] → Room k (A.deeper (envOfC qual (defScope st) s.heap.objs.size f cdv)) → sp vs H Q E →
      ∃ t, PSs (cxOf CX0 P w K mg base N qual (defScope st) f cdv A outer s H E).nox (defBody st) t ∧ t { nx := fun _ H' => Q .non H', rt := Q } (start N vs) H) : FnG P w K mg base (k + 1) f fd ps sp := by
  obtain ⟨oc, od, kV, doc, pm, an, cdv, ct, osl, rfl, lk, hcd⟩ := F.ex
  refine ⟨len, fun A outer s H args us vs Q E hg hr e0 hb r h => ?_⟩
  refine LamX.run_ofS lk hcd S hr e0 hb r (len _ _ _ _ h) (fun hr' => ?_)
  obtain ⟨t, a, b⟩ := hbody cdv A outer s H vs Q E hg hr' h
  exact ⟨t, a.nox, b⟩
end
section
variable {X : Cx} {k j : Nat} {x : Str} {sp : Sp} {p pos : Pos} {e : Expr} {es : List Expr} {t : TA} {E : XK}
theorem pe_x (c : CalX X.prog X.w X.K X.mg X.base k x sp) (hr : Room j X.A) (hk : k ≤ j) (hg : Gl X x) (hx : Passes (L2.CX X.prog X.w) X E) (ha : PA X (e :: es) t)
    (hdb : (x == ("__debug__" : Str)) = false := by decide) (he : starEach (e :: es) X.env = (false, eval e X.env) :: starEach es X.env := by rfl) (hpl : (backTo pos (starEach es X.env)).any (·.1) = false := by rfl) :
    PE X (.Call (.Name x p) (e :: es) [] pos) (tCall sp [] E t) := by
  obtain ⟨f, fd, ps, F, hm, kp, b⟩ := c.ex
  exact pe_call F (hr.mono hk) hg hm kp b .nil hx ha hdb he hpl
theorem pe_n (c : Cal X.prog X.w X.K X.mg X.base k x sp) (hr : Room j X.A) (hk : k ≤ j) (hg : Gl X x) (ha : PA X (e :: es) t)
    (hdb : (x == ("__debug__" : Str)) = false := by decide) (he : starEach (e :: es) X.env = (false, eval e X.env) :: starEach es X.env := by rfl) (hpl : (backTo pos (starEach es X.env)).any (·.1) = false := by rfl) :
    PE X (.Call (.Name x p) (e :: es) [] pos) (tCall sp [] E0 t) := by
  obtain ⟨f, fd, ps, F, hm, kp, b⟩ := c.ex
  exact pe_call F (hr.mono hk) hg hm kp b .nil pass0 ha hdb he hpl
theorem run_g {pins : List (Addr × Obj)} {σ : L2.St} {H : Hp} {s : Shared} {Q : VK} {f : Addr} {fd : FuncData} {ps : List Str} {us : List Value} {vs : List V} (F : FnG X.prog X.w X.K X.mg X.base k f fd ps sp) (hg : X.A.guards = some []) (hr : Room k X.A)
    (hb : Binds X.K fd ps []) (I : L2.Inv X pins σ H s) (r : Vals vs us) (h : sp vs H Q E) : wpAny (model X.prog X.w) X.A (call (.ref f) us) (EP X pins σ Q) X.xe s := by
  have hl : (us ++ []).length = ps.length := by rw [List.append_nil, ← r.length]; exact F.len _ _ _ _ h
  have b0 := hb s us I.kIn hl
  rw [List.append_nil] at b0
  refine wpAny_call (codeAny_mono (F.run X.A X.stack s H ⟨us, []⟩ us vs Q E hg hr I.env0 b0 r h) (fun r s' hq => ?_))
  rcases r with e | fl
  · exact (show False from hq).elim
  · cases fl with
    | ret u => exact I.after hq
    | next => exact hq.elim
    | brk => exact hq.elim
    | cont => exact hq.elim
theorem pe_g (c : CalG X.prog X.w X.K X.mg X.base k x sp) (hgd : X.A.guards = some []) (hr : Room j X.A) (hk : k ≤ j) (hg : Gl X x) (ha : PA X (e :: es) t)
    (hdb : (x == ("__debug__" : Str)) = false := by decide) (he : starEach (e :: es) X.env = (false, eval e X.env) :: starEach es X.env := by rfl) (hpl : (backTo pos (starEach es X.env)).any (·.1) = false := by rfl) :
    PE X (.Call (.Name x p) (e :: es) [] pos) (tCall sp [] E0 t) := by
  obtain ⟨f, fd, ps, F, hm, kp, b⟩ := c.ex
  constructor
  intro pins s σ H Q I h
  refine wpAny_Call_Name_kw (ld_glob I hg hm ?_ hdb)
  refine PySem.W.callWith_K (h₀ := X.base) I.ok.mod.kin kp (thn (ha.run pos pins s σ H _ I h) (fun us s1 ⟨vs, H1, I1, r, q⟩ => ⟨I1.kIn, ?_⟩)) he hpl
  have q' : sp (vs ++ []) H1 Q E0 := q
  rw [List.append_nil] at q'
  exact run_g F hgd (hr.mono hk) b I1 r q'
theorem pe_g0 (c : CalG X.prog X.w X.K X.mg X.base k x sp) (hgd : X.A.guards = some []) (hr : Room j X.A) (hk : k ≤ j) (hg : Gl X x) (hdb : (x == ("__debug__" : Str)) = false := by decide) :
    PE X (.Call (.Name x p) [] [] pos) (tCall sp [] E0 tNil) := by
  obtain ⟨f, fd, ps, F, hm, kp, b⟩ := c.ex
  constructor
  intro pins s σ H Q I h
  refine wpAny_Call_Name_kw (ld_glob I hg hm ?_ hdb)
  exact PySem.W.callWith_K0 I.kIn kp (run_g (us := []) F hgd (hr.mono hk) b I .nil h)
end
end Bs


set_option Elab.async false
set_option linter.all false
set_option maxRecDepth 100000
set_option maxHeartbeats 1000000
/-! for i, x in enumerate(a tuple) -/
namespace EnT
open PySem PySem.Spec PyProof.Rows L2
theorem meets_new {v : Value} {o : Obj} {H : Heap → Prop} (B : Begins v o H) :
    Meets (Builtin.«enumerate.__new__» ⟨[.type "enumerate", v], []⟩) (fun _ R s => H s.heap ∧
      R (.ok (.ret (.ref (s.heap.push o).objs.size))) { s with heap := (s.heap.push o).push { cls := .type "enumerate", data := .fields #[.none, .bool false, .ref s.heap.objs.size, rawInt 0, .none, .none] } }) :=
  .of_wp fun prog w A R s h => by
    obtain ⟨hp, g, d, tk, os⟩ := s; obtain ⟨h1, h⟩ := h
    have hsub := sub_enumerate
    have q1 : ∀ {A' : Around} {E : Value → Shared → Prop} {Q : Value → Shared → Prop}, Q (.ref hp.objs.size) ⟨hp.push o, g, d, tk, os⟩ → wpAny (model prog w) A' (pyIter v) Q E ⟨hp, g, d, tk, os⟩ :=
      fun q => B.iter prog w _ _ ⟨hp, g, d, tk, os⟩ _ h1 q
    wp_walk using q1
    refine wpAny_stack_any fun st => wpAny_pure ?_
    split
    · rename_i c _ _ _ _ _
      cases (c == Value.type "enumerate")
      · wp_walk using q1
        exact ⟨_, rfl, h⟩
      · wp_walk using q1
        exact ⟨_, rfl, h⟩
    · wp_walk using q1
      exact ⟨_, rfl, h⟩
theorem call_enum {prog : Program} {w : World} {A : Around} {E : Value → Shared → Prop} {s : Shared} {v : Value} {o : Obj} {H : Heap → Prop} {Q : Value → Shared → Prop} (B : Begins v o H) (h1 : H s.heap)
    (h : ∀ h', IsEnum h' (s.heap.objs.size + 1) s.heap.objs.size 0 .none → h'.get? s.heap.objs.size = some o → h'.objs.size = s.heap.objs.size + 2 →
      (∀ b o, s.heap.get? b = some o → h'.get? b = some o) → Q (.ref (s.heap.objs.size + 1)) { s with heap := h' }) :
    wpAny (model prog w) A (call (.type "enumerate") [v]) Q E s := by
  refine callType_new F.called_enumerate (by decide) (F.typeCall_enumerate_1 _) (F.newCall_enumerate_1 _) (fun obj => F.args_object_init_2 obj _) F.entry_enumerate_new
    (meets_new B) ⟨h1, ?_⟩
  have hz : (s.heap.push o).objs.size = s.heap.objs.size + 1 := Heap.size_push ..
  show _ ∧ _
  rw [hz]
  have he : IsEnum ((s.heap.push o).push { cls := .type "enumerate", data := .fields #[.none, .bool false, .ref s.heap.objs.size, rawInt 0, .none, .none] }) (s.heap.objs.size + 1) s.heap.objs.size 0 .none := by
    have := Heap.get?_push_size (s.heap.push o) (o := { cls := .type "enumerate", data := .fields #[.none, .bool false, .ref s.heap.objs.size, rawInt 0, .none, .none] }) rfl
    rw [hz] at this; exact this
  refine ⟨⟨_, he, rfl⟩, h _ he (Heap.get?_push_of_some _ (Heap.get?_push_size _ B.free)) (by rw [Heap.size_push, hz]) fun b o x => Heap.get?_push_of_some _ (Heap.get?_push_of_some _ x)⟩
/-- the turns -/
def IteT (K : PySem.W.Frag) (a : Addr) : It :=
  ⟨fun i H => ∃ (xs : List V) (x : V), SqT K H a xs ∧ xs[i]? = some x, fun i H v H' => ∃ T x, v = .ref T ∧ H T = none ∧ H' = upd H T (.tup [.int (i : Nat), x]) ∧ ∀ xs, SqT K H a xs → xs[i]? = some x, fun i H => ∃ xs : List V, SqT K H a xs ∧ xs.length ≤ i⟩
theorem turn_enumT {P : Program} {w : World} {K : PySem.W.Frag} {elts : List Expr} {kk : Nat} {tpos : Pos} (a e it : Addr) (n : Nat) :
    Turn P w K (.Tuple elts kk tpos) (IteT K a) [e, it] e (fun i h => (∃ old, IsEnum h e it ((i : Nat) : Int) old) ∧ h.IsTupleIter it a i ∧ e ≠ it ∧ a ≠ it ∧ a ≠ e) where
  mem := by simp
  obj := fun i h st b hb => by
    obtain ⟨⟨old, he⟩, ⟨o, ho, hc, hd⟩, _⟩ := st
    have e' : b = e ∨ b = it := by simpa using hb
    rcases e' with z | z
    · rw [z]; exact ⟨_, he, fun v q => nomatch q⟩
    · rw [z]; exact ⟨o, ho, fun v q => by rw [hd] at q; cases q⟩
  keep := fun i h h' st k => let ⟨⟨old, he⟩, hi, hne⟩ := st; ⟨⟨old, k e (by simp) _ he⟩, hi.at fun o q => k it (by simp) o q, hne⟩
  item := by
    intro X hP hw hK hc i pins s σ H E I hf st hg
    subst hP hw hK
    obtain ⟨⟨old, he⟩, hit, hne, hai, hae⟩ := st
    obtain ⟨xs, x, hq, hx⟩ := hg
    obtain ⟨its, rv, p, hz⟩ := I.tuple hq
    obtain ⟨u, hu, ru⟩ := rv.get hx
    have hel : e < s.heap.objs.size := Heap.lt_size he
    have hil : it < s.heap.objs.size := by obtain ⟨_, q, _⟩ := hit; exact Heap.lt_size q
    have hlt : i < its.toArray.size := by
      obtain ⟨hlt, _⟩ := List.getElem?_eq_some_iff.mp hu
      simpa using hlt
    have p' : s.heap.IsTuple a its.toArray := p
    refine wpAny_pyNext_enum_itemD (Draws.tuple (A := X.A.in1) (I.ok.hd hc) it a hai its.toArray) he ⟨hit, p'⟩ hlt hne (by simp [hne, Ne.symm hae]) fun x' h' tk hP ho hit' hT hsz hk => ?_
    have ex : x' = u := by
      have : its[i]? = some x' := by simpa using hP
      rw [hu] at this
      exact (Option.some.inj this).symm
    subst ex
    refine ⟨_, rfl, wpAny_letOwnedTupleGo_enum (s := { s with heap := h', toks := tk + 1 }) ho fun h'' he' sb => ?_⟩
    have hT2 : h''.get? s.heap.objs.size = some { cls := .type "tuple", data := .seq #[.int i tk, x'] } := (sb.2 _ (Nat.ne_of_gt hel)).trans hT
    have new : ObjOk X.prog X.w (upd H s.heap.objs.size (.tup [.int (i : Nat), x])) h'' s.heap.objs.size (.tup [.int (i : Nat), x]) :=
      ⟨by show 2 ≤ sizeLine; decide, [.int i tk, x'], .cons ⟨_, rfl⟩ (.cons ru .nil), ⟨_, hT2, rfl, _, rfl⟩⟩
    have I1 : Inv X pins σ (upd H s.heap.objs.size (.tup [.int (i : Nat), x])) { s with heap := h'', toks := tk + 1 } :=
      I.turnedNew (ch := [e, it]) (fun b ob hb q => (sb.2 b (fun z => hb (by simp [z]))).trans (hk b ob (fun z => hb (by simp [z])) (fun z => hb (by simp [z])) q)) hf (Nat.le_refl _) new
    refine ⟨.ref s.heap.objs.size, _, I1, rfl, ⟨_, x, rfl, I.hok.fresh (Nat.le_refl _), rfl, fun ys hy => by rw [I.tuple_inj hy hq]; exact hx⟩, ⟨⟨x', ?_⟩, hit'.1.at fun o q => (sb.2 it (Ne.symm hne)).trans q, hne, hai, hae⟩, fun b hb => ?_⟩
    · have e1 : ((i + 1 : Nat) : Int) = (i : Int) + 1 := by omega
      rw [e1]; exact he'
    · have hb' : b < s.heap.objs.size := by
        have e' : b = e ∨ b = it := by simpa using hb
        rcases e' with z | z
        · rw [z]; exact hel
        · rw [z]; exact hil
      rw [upd_ne (Nat.ne_of_lt hb')]
      exact (hf b hb).1
  done := by
    intro X hP hw hK hc i pins s σ H E I hf st hg
    subst hP hw hK
    obtain ⟨⟨old, he⟩, hit, hne, hai, hae⟩ := st
    obtain ⟨xs, hq, hx⟩ := hg
    obtain ⟨its, rv, p, hz⟩ := I.tuple hq
    obtain ⟨f0, f1, f2, f3, f4, f5⟩ := hf it (by simp)
    have hl := rv.length
    have hT : s.TypeIs (.ref e) "enumerate" := ⟨_, he, rfl⟩
    unfold pyNext
    refine wpAny_bind (wpAny_attempt (wpAny_callSpecial?_slot (name := Str.ofString "__next__") hT F.slot_enumerate_next
      (wpAny_call_entry F.slot_enumerate_next hT F.entry_enumerate_next ?_ (F.args_enumerate_next_1 _))))
    show wpAny _ _ (field (.ref e) 2 >>= _) _ _ _
    refine wpAny_bind (wpAny_field he rfl (x := .ref it) rfl ?_)
    refine wpAny_bind (wpAny_nextOf_tuple_end (A := X.A.in1) (I.ok.hd hc) hit (show s.heap.IsTuple a its.toArray from p) (by simp; omega) fun h' e' eb hx' => ?_)
    obtain ⟨o, ho, hcl⟩ := hx'
    refine wpAny_bind (wpAny_isInstance (T := "StopIteration") (b := true) ⟨o, ho, hcl⟩ isSubtype_stop ?_)
    exact wpAny_pure ⟨rfl, I.turned (t' := s.toks) (fun b o hb q => eb b o hb q) f0 f1 f3 f4 f5⟩
  self := fun A i s Q E st h => let ⟨⟨_, he⟩, _⟩ := st; wpAny_pyIter_enum he h
def iEnumT (K : PySem.W.Frag) (ta : TA) : TI := fun σ H R => ta σ H fun vs H1 => ∃ a xs, vs = [.ref a] ∧ SqT K H1 a xs ∧ R (IteT K a) H1
theorem pi_enumT {X : Cx} {e : Expr} {ta : TA} {p pos tpos : Pos} {elts : List Expr} {kk : Nat} (hg : Gl X "enumerate") (hm : X.mg "enumerate" = none) (ha : PA X [e] ta) (hs : starEach [e] X.env = [(false, eval e X.env)] := by rfl) :
    PI X (.Tuple elts kk tpos) (.Call (.Name "enumerate" p) [e] [] pos) (iEnumT X.K ta) := by
  refine ⟨fun pins s σ H R I h => ?_⟩
  refine Call_ (ld_blt I hg hm boot_enumerate (PyProof.Rows.callWith_type1 (thn (ha.run pos pins s σ H _ I h) fun us s1 ⟨vs, H1, I1, r1, q1⟩ => ?_) hs rfl))
  obtain ⟨a, xs, ex, hq, q⟩ := q1
  subst ex
  cases r1 with
  | cons r rr =>
    cases rr
    cases r
    obtain ⟨its, rv, p', hz⟩ := I1.tuple hq
    have pt : s1.heap.IsTuple a its.toArray := p'
    have hal : a < s1.heap.objs.size := by
      obtain ⟨o, z, _⟩ := id pt
      exact Heap.lt_size z
    refine call_enum (begins_tuple a its.toArray) pt fun h' he hit hsz hk => wpAny_pyIter_enum he ?_
    have I2 : Inv X pins σ H1 { s1 with heap := h' } := I1.kept (t' := s1.toks) hk
    refine ⟨s1.heap.objs.size + 1, [s1.heap.objs.size + 1, s1.heap.objs.size], _, _, H1, rfl, I2, turn_enumT a (s1.heap.objs.size + 1) s1.heap.objs.size 0, ⟨⟨.none, he⟩, ⟨_, hit, rfl, rfl⟩, Nat.succ_ne_self _, Nat.ne_of_lt hal, Nat.ne_of_lt (Nat.lt_succ_of_lt hal)⟩, fun b hb => ?_, q⟩
    have e' : b = s1.heap.objs.size + 1 ∨ b = s1.heap.objs.size := by simpa using hb
    have hle : s1.heap.objs.size ≤ b := by
      rcases e' with z | z
      · rw [z]; exact Nat.le_add_right _ _
      · rw [z]; exact Nat.le_refl _
    exact I1.fpOk hle (I1.hok.fresh hle)
end EnT


set_option Elab.async false
set_option linter.all false
set_option maxRecDepth 100000
set_option maxHeartbeats 2000000
/-! several clauses, each with a name of its own: try: .. except A as e: .. except B as e: .. -/
namespace TA2
open PySem PySem.Spec PyProof.Rows L2
abbrev Suite := Addr → Value → Option Addr → TS
/-- what the suite's ends are where the name in slot i goes behind it -/
def less (D : Ends) (i : Nat) : Ends where
  nx := fun τ G => D.nx (τ.set i none) G
  rt := D.rt
  bk := fun τ G => D.bk (τ.set i none) G
  ct := fun τ G => D.ct (τ.set i none) G
/-- the wishes of the clauses in turn: (class, slot, suite) -/
def wish (K : PySem.W.Frag) (nn : Nat) (Wo : WX) (D : Ends) : List (Value × Nat × Suite) → WX
  | [] => Wo
  | (c, i, ts) :: more => fun cls d τ G => ∃ b, PySem.W.exmOne K cls c = some b ∧
      (b = true → τ.length = nn → ∀ a, G a = none → ts a cls d (less D i) (τ.set i (some (.ref a))) G) ∧ (b = false → wish K nn Wo D more cls d τ G)
inductive Clauses (X : Cx) : List ExceptHandler → List (Value × Nat × Suite) → Prop
  | stop : Clauses X [] []
  | more {x n : Str} {c : Value} {i : Nat} {ts : Suite} {b0 : Stmt} {su : List Stmt} {p1 p2 : Pos} {hs : List ExceptHandler} {l : List (Value × Nat × Suite)}
      (named : Names X x c) (at_ : X.N[i]? = some n) (loc : X.env.kindOf n = some .local)
      (suite : ∀ (a : Addr) (oe : Obj) (cls : Value) (d : Option Addr) (pn : List (Addr × Obj)), Zc cls d oe → (∃ vs, oe.data = .fields vs) → PSs (X.suite a ((a, oe) :: pn)) (b0 :: su) (ts a cls d))
      (rest : Clauses X hs l) : Clauses X (.ExceptHandler (some (.Name x p1)) (some n) (b0 :: su) p2 :: hs) ((c, i, ts) :: l)
section
variable {X : Cx} {body : List Stmt} {hd0 : ExceptHandler} {hds : List ExceptHandler} {l : List (Value × Nat × Suite)} {pos : Pos} {tb : WX → TS} {Wo : WX}
theorem try_as (hs : X.stack = X.env :: X.outer) (hf : X.env.frame = some X.env.locals) (hN : X.N.Nodup) (tk : Takes X Wo)
    (hb : ∀ (W : WX) (pn : List (Addr × Obj)) (xe : Value → Shared → Prop), Takes (X.tr pn xe) W → PassesOwn (model X.prog X.w) X.A X.env xe → PSs (X.tr pn xe) body (tb W))
    (cl : Clauses X (hd0 :: hds) l) : PS X (.Try body (hd0 :: hds) [] [] pos) (fun D τ G => tb (wish X.K X.N.length Wo D l) D τ G) := by
  constructor
  intro pins s τ G D I h
  have okX := I.ok
  have frms : X.A.frames = some (X.env :: X.outer) := okX.frames.trans (congrArg some hs)
  apply wpAny_Try_except
  refine wpAny_mono ((hb (wish X.K X.N.length Wo D l) (X.pn ++ pins)
    (fun e0 s1 => wpAny (model X.prog X.w) X.A (noteFrame e0 X.env)
      (fun _ s2 => wpAny (model X.prog X.w) X.A (setFlight e0 none)
        (fun _ s3 => wpAny (model X.prog X.w) X.A (handleBy e0 X.env (hd0 :: hds)) (SP X pins D) X.xe s3) X.xe s2) X.xe s1)
    (fun u s' caught => ?_) PassesOwn.looking).run [] s τ G D (I.toTry _) h) (fun f s1 hsp => ?_) (fun _ _ he => he)
  · obtain ⟨a, B, sI, pins', τ', G', cls, d, rfl, J0, nb, up, sky0, na, os, ag, w⟩ := caught
    have J : Inv X pins τ' G' sI := J0.ofTry okX
    have sky : Sky B (X.env :: X.outer) a (Zc cls d) X.env.locals s'.heap := hs ▸ sky0
    show wpAny (model X.prog X.w) X.A (noteFrame (.ref a) X.env) _ _ _
    refine Sky.land Zc.steady frms hf sky (fun hp3 fl3 up3 => ?_)
    have J3 : Inv X pins τ' G' { s' with heap := hp3 } := J.landed nb fl3.1 (up.trans up3) os ag
    obtain ⟨ob3, vs3, ho3, hz3, hd3⟩ := fl3.there
    have nfr : a ∉ frs (X.env :: X.outer) := by
      intro hm
      obtain ⟨_, o2, e2, hne⟩ := fl3.2.2.1.mem hm
      have : o2 = ob3 := Option.some.inj (e2.symm.trans ho3)
      exact hne _ (this ▸ hd3)
    have nLoc : a ≠ X.env.locals := by
      intro z
      exact nfr (List.mem_filterMap.mpr ⟨X.env, List.mem_cons_self, hf.trans (congrArg some z.symm)⟩)
    have nOut : a ∉ X.fs := by
      intro hm
      obtain ⟨en, he, q⟩ := List.mem_filterMap.mp hm
      exact nfr (List.mem_filterMap.mpr ⟨en, List.mem_cons_of_mem _ he, q⟩)
    have S3 := J3.suite ho3 hd3 na nLoc nOut
    have go : ∀ {hs' : List ExceptHandler} {l' : List (Value × Nat × Suite)}, Clauses X hs' l' → wish X.K X.N.length Wo D l' cls d τ' G' →
        wpAny (model X.prog X.w) X.A (handleBy (.ref a) X.env hs') (SP X pins D) X.xe { s' with heap := hp3 } := by
      intro hs' l' hk
      induction hk with
      | stop =>
        intro w0
        apply wpAny_handleBy_nil
        obtain ⟨_, _, _, oe, vs, T, oT, ts0, he, hz, hdt, h1, hr⟩ := id fl3
        unfold PySem.passOn
        refine wpAny_bind (wpAny_field he hdt h1 ?_)
        rw [if_neg (by simp : ¬ ((Value.ref T == Value.none) = true))]
        have out : wpAny (model X.prog X.w) X.A (setFlight (.ref a) X.env.frame)
            (fun _ s4 => wpAny (model X.prog X.w) X.A (throw (.ref a) : Sem Flow) (SP X pins D) X.xe s4) X.xe { s' with heap := hp3 } := by
          rw [hf]
          refine HandSPX.setFlight_upZ fl3 (fun hp4 hh4 up4 => wpAny_throw (tk _ _ ?_))
          exact ⟨a, B, sI, pins, τ', G', cls, d, rfl, J, nb, (up.trans up3).trans up4, .inr (.inr (hs ▸ hh4)), na, os, ag, w0⟩
        first
          | exact wpAny_bind out
          | exact wpAny_bind (wpAny_pure (wpAny_bind out))
      | @more x n c i ts b0 su p1 p2 hs2 l2 named at_ loc suite rest ih =>
        intro w0
        obtain ⟨b, hb1, yes, no⟩ := w0
        refine wpAny_handleBy_cons (codeAny_handlers_test ?_) (fun q => nomatch q)
        have LT : PySem.W.Looks (model X.prog X.w) hp3 (typeOf (.ref a)) cls := fun A Q E s k q => wpAny_typeOf_ref (k _ _ ho3) (hz3.1 ▸ q)
        have LM := PySem.W.exm_one (M := model X.prog X.w) J3.kIn LT hb1
        have test : ∀ {Q : Value → Shared → Prop} {E : Value → Shared → Prop}, Q c { s' with heap := hp3 } →
            wpAny (model X.prog X.w) (X.A.mark (some (.ref a))) (eval (.Name x p1) X.env) Q E { s' with heap := hp3 } := by
          intro Q E q
          rcases named with ⟨g1, g2, hm | ⟨hm, hv, hnn⟩⟩
          · exact ld_glob (X := X.suite a ((a, ob3) :: (X.pn ++ pins))) S3 g1 hm q g2
          · exact ld_blt (X := X.suite a ((a, ob3) :: (X.pn ++ pins))) S3 g1 hm hv q hnn g2
        refine test (LM.here ?_)
        cases b with
        | false =>
          show wpAny _ X.A (handleBy (.ref a) X.env hs2) _ _ _
          exact ih (no rfl)
        | true =>
          apply codeAny_handlers_suite_as
          refine HandSPX.lands_againZ fl3 (fun hp4 fl4 up4 => ?_)
          have J4 : Inv X pins τ' G' { s' with heap := hp4 } := J.landed nb fl4.1 ((up.trans up3).trans up4) os ag
          obtain ⟨ob4, vs4, ho4, hz4, hd4⟩ := fl4.there
          have S4 := J4.suite ho4 hd4 na nLoc nOut
          refine store_ok (X := X.suite a ((a, ob4) :: (X.pn ++ pins))) (v := .ref a) S4 hN at_ (.inl loc) rfl (fun s5 S5 => ?_) (.inr loc)
          have ends : ∀ {s6 : Shared} {τ6 : L2.St} {G6 : Hp} {Q : Shared → Prop}, Inv (X.suite a ((a, ob4) :: (X.pn ++ pins))) [] τ6 G6 s6 →
              (∀ s7, Inv X pins (τ6.set i none) G6 s7 → Q s7) →
              wpAny (model X.prog X.w) X.A (do bindName X.env n .none; unbindBehindTheSuite X.env n p2) (fun _ s7 => Q s7) X.xe s6 :=
            fun {s6 τ6 G6 Q} S6 hq => gone_ok (S6.unsuite okX) hN at_ loc hq
          refine wpAny_mono ((suite a ob4 cls d (X.pn ++ pins) hz4 ⟨_, hd4⟩).run [] s5 _ G' _ S5 (yes rfl J.len a na)) (fun f s6 hsp => ?_) (fun _ _ z => z.elim)
          cases f with
          | ret u =>
            obtain ⟨v6, τ6, G6, S6, r6, q6⟩ := hsp
            exact ends S6 (fun s7 J7 => ⟨_, _, _, J7, r6, q6⟩)
          | next =>
            obtain ⟨τ6, G6, S6, q6⟩ := hsp
            exact ends S6 (fun s7 J7 => ⟨_, _, J7, q6⟩)
          | brk =>
            obtain ⟨τ6, G6, S6, q6⟩ := hsp
            exact ends S6 (fun s7 J7 => ⟨_, _, J7, q6⟩)
          | cont =>
            obtain ⟨τ6, G6, S6, q6⟩ := hsp
            exact ends S6 (fun s7 J7 => ⟨_, _, J7, q6⟩)
    exact go cl w
  · cases f with
    | ret u =>
      obtain ⟨v, τ1, G1, J1, r, q⟩ := hsp
      exact ⟨v, τ1, G1, J1.ofTry okX, r, q⟩
    | next =>
      obtain ⟨τ1, G1, J1, q⟩ := hsp
      exact wpAny_execs_nil ⟨τ1, G1, J1.ofTry okX, q⟩
    | brk =>
      obtain ⟨τ1, G1, J1, q⟩ := hsp
      exact ⟨τ1, G1, J1.ofTry okX, q⟩
    | cont =>
      obtain ⟨τ1, G1, J1, q⟩ := hsp
      exact ⟨τ1, G1, J1.ofTry okX, q⟩
end
end TA2


set_option Elab.async false
set_option linter.all false
set_option maxRecDepth 100000
set_option maxHeartbeats 2000000
/-! try: return [call()] / except A as e: return (word, e.field) / .. , given a lambda -/
namespace Hd
open PySem PySem.Spec PyProof.Rows L2 LamX TA2
/-- what a clause hands back -/
def word (w f : Str) (C : Addr) (i : Nat) : Suite := fun a cls d => tRet (tTup (tCons (tC (.str w)) (tCons (tXf a cls d C f (tVar i)) tNil)))
/-- word, field, class -/
abbrev Row := Str × Str × Addr
def rowsOf (i : Nat) (l : List Row) : List (Value × Nat × Suite) := l.map fun r => (.ref r.2.2, i, word r.1 r.2.1 r.2.2 i)
theorem one_clause {X : Cx} {w f x n : Str} {i k1 k2 : Nat} {C : Addr} {p1 p2 p3 p4 p5 p6 p7 : Pos} {hs : List ExceptHandler} {l : List Row} (T : XfC X.K C) (no : PySem.W.findIn X.K (.ref C) f = some none)
    (named : Names X x (.ref C)) (at_ : X.N[i]? = some n) (loc : X.env.kindOf n = some .local) (rest : Clauses X hs (rowsOf i l))
    (hd : (n == ("__debug__" : Str)) = false := by decide) (hcd : (n == ("__classdict__" : Str)) = false := by decide)
    (hb : attributeBase (.Name n p4) f X.env (eval (.Name n p4) X.env) = eval (.Name n p4) X.env := by rfl) :
    Clauses X (.ExceptHandler (some (.Name x p1)) (some n) [.Return (some (.Tuple [.Constant (.str w) k1 p3, .Attribute (.Name n p4) f p5] k2 p6)) p7] p2 :: hs) (rowsOf i ((w, f, C) :: l)) :=
  .more named at_ loc (fun a oe cls d pn hz hf => pss_one (ps_ret (pe_tup (pa_cons pe_str (pa_cons (pe_xf T no hz hf (pe_var at_ (.inl loc) hd hcd) hb) pa_nil))))) rest
/-- the wish, free of slots -/
def hE (K : PySem.W.Frag) (Q : VK) : List Row → XK
  | [] => fun _ _ _ => False
  | (w, f, C) :: more => fun cls d H => ∃ b, PySem.W.exmOne K cls (.ref C) = some b ∧
      (b = true → cls = .ref C ∧ ∃ (dd : Addr) (fs : List (Str × V)) (v : V), d = some dd ∧ H dd = some (.xd fs) ∧ fs.lookup f = some v ∧ ∀ p, H p = none → Q (.ref p) (upd H p (.tup [.str w, v]))) ∧
      (b = false → hE K Q more cls d H)
theorem hE_wish {K : PySem.W.Frag} {Q : VK} {nn i : Nat} {D : Ends} (hi : i < nn) (hD : D.rt = Q) : ∀ {l : List Row} {cls : Value} {d : Option Addr} {σ : L2.St} {H : Hp}, hE K Q l cls d H → wish K nn (fun _ _ _ _ => False) D (rowsOf i l) cls d σ H
  | [], _, _, _, _, h => h
  | (w, f, C) :: more, cls, d, σ, H, h => by
    obtain ⟨b, e, yes, no⟩ := h
    refine ⟨b, e, fun hb hl a _ => ?_, fun hb => hE_wish hi hD (no hb)⟩
    obtain ⟨ec, dd, fs, v, ed, eH, ef, q⟩ := yes hb
    have at_ : (σ.set i (some (.ref a)))[i]? = some (some (V.ref a)) := by
      rw [List.getElem?_set_self (by omega)]
    refine ⟨.ref a, at_, rfl, ec, dd, fs, v, ed, eH, ef, (by show 2 ≤ sizeLine; decide), ?_⟩
    show ∀ p, H p = none → D.rt (.ref p) (upd H p (.tup [.str w, v]))
    rw [hD]
    exact q
/-- what such a def makes of the lambda's reading -/
def TTh (K : PySem.W.Frag) (l : List Row) : (XK → Hp → VK → Prop) → Hp → VK → Prop := fun tl H Q =>
  tl (hE K Q l) H (fun v H' => ∀ p, H' p = none → Q (.ref p) (upd H' p (.lst [v])))
theorem heard_gives {X : Cx} {Ng : List Str} {x a q : Str} {sg : Scope} {g : Addr} {cdg : Value} {i : Nat} {l : List Row} {h0 : ExceptHandler} {hs : List ExceptHandler} {p1 p2 p3 p4 p5 : Pos} (hN : Ng.Nodup) (hi : i < Ng.length)
    (cl : ∀ (s : Shared) (H : Hp), Clauses (cxOf C8.CX0 X.prog X.w X.K X.mg X.base Ng x sg g cdg X.A X.stack s H C8.E0).nox (h0 :: hs) (rowsOf i l))
    (h0' : ∀ f : Addr, (L2.start Ng [V.ref f])[0]? = some (some (V.ref f))) :
    GivesTo X Ng x sg g cdg [.Try [.Return (some (.List [.Call (.Name a p1) [] [] p2] p3)) p4] (h0 :: hs) [] [] p5] a q (TTh X.K l) := by
  intro f c' s H Q tl act hc h
  refine ⟨_, pss_one (try_as (X := (cxOf C8.CX0 X.prog X.w X.K X.mg X.base Ng x sg g cdg X.A X.stack s H C8.E0).nox)
      (tb := fun W D σ H => ∃ Ech : XK, (∀ cls d σ' H', Ech cls d H' → W cls d σ' H') ∧ σ[0]? = some (some (.ref f)) ∧ H c' = some (CodeO c' q) ∧ tl Ech H (fun v H' => ∀ p, H' p = none → D.rt (.ref p) (upd H' p (.lst [v]))))
      rfl rfl hN LamX.takes0 (fun W pn xe tk _ => ?_) (cl s H)), ?_⟩
  · constructor
    intro pins s' σ H' D I ⟨Ech, hW, k1, k2, k3⟩
    have hp := act W pn xe Ech p1 p2 tk hW
    have whole := pss_one (ps_ret (pos := p4) (pe_lst (pos := p3) (pa_cons hp pa_nil)))
    exact whole.run pins s' σ H' D I ⟨k1, k2, by
      refine Eq.mp ?_ k3
      congr 1
      funext v H1
      refine propext ⟨fun z => ⟨(by show 1 ≤ sizeLine; decide), z⟩, fun z => z.2⟩⟩
  · exact ⟨hE X.K Q l, fun cls d σ' H' z => hE_wish (D := { nx := fun _ H' => Q .non H', rt := Q }) hi rfl z, h0' f, hc, h⟩
end Hd


/-! fractions as pairs of integers: the mathematics alone -/
namespace Fq
abbrev F := Int × Int
def gI (a b : Int) : Int := ((Nat.gcd a.natAbs b.natAbs : Nat) : Int)
/-- least terms, the bottom above nought -/
def red (a b : Int) : F := (a / gI a b, b / gI a b)
/-- least terms, the bottom not nought -/
def redP (a b : Int) : F := if b < 0 then red (-a) (-b) else red a b
theorem gI_neg (a b : Int) : gI (-a) (-b) = gI a b := by simp [gI]
theorem gI_pos {a b : Int} (h : b ≠ 0) : 0 < gI a b := by
  have : 0 < Nat.gcd a.natAbs b.natAbs := Nat.gcd_pos_of_pos_right _ (by omega)
  unfold gI; omega
theorem gI_le {a b : Int} (h : b ≠ 0) : (gI a b).natAbs ≤ b.natAbs := by
  have : Nat.gcd a.natAbs b.natAbs ≤ b.natAbs := Nat.gcd_le_right _ (by omega)
  unfold gI; omega
theorem redP_pos {a b : Int} (h : 0 < b) : redP a b = red a b := if_neg (by omega)
theorem redP_neg {a b : Int} (h : b < 0) : redP a b = red (-a) (-b) := if_pos h
/-- what the program reckons: by the divisor with b's sign -/
theorem redP_eq {a b g : Int} (hb : b ≠ 0) (hg : g = if b < 0 then -gI a b else gI a b) : (a.fdiv g, b.fdiv g) = redP a b := by
  have hp := gI_pos (a := a) hb
  by_cases c : b < 0
  · rw [if_pos c] at hg
    subst hg
    rw [redP_neg c, red, gI_neg]
    have e : ∀ x : Int, x.fdiv (-gI a b) = (-x) / gI a b := fun x => by
      have := Int.neg_fdiv_neg (-x) (gI a b)
      rw [Int.neg_neg] at this
      rw [this, Int.fdiv_eq_ediv_of_nonneg _ (by omega)]
    rw [e, e]
  · rw [if_neg c] at hg
    subst hg
    rw [redP, if_neg c, red, Int.fdiv_eq_ediv_of_nonneg _ (by omega), Int.fdiv_eq_ediv_of_nonneg _ (by omega)]
/-- a fraction in least terms -/
def Ok (q : F) : Prop := 0 < q.2 ∧ Nat.gcd q.1.natAbs q.2.natAbs = 1
theorem gI_dvd_l (a b : Int) : gI a b ∣ a := by
  unfold gI
  exact Int.ofNat_dvd_left.mpr (Nat.gcd_dvd_left _ _)
theorem gI_dvd_r (a b : Int) : gI a b ∣ b := by
  unfold gI
  exact Int.ofNat_dvd_left.mpr (Nat.gcd_dvd_right _ _)
theorem red_ok {a b : Int} (h : 0 < b) : Ok (red a b) := by
  have hg := gI_pos (a := a) (b := b) (by omega)
  obtain ⟨x, hx⟩ := gI_dvd_l a b
  obtain ⟨y, hy⟩ := gI_dvd_r a b
  have e1 : a / gI a b = x := Int.ediv_eq_of_eq_mul_right (by omega) hx
  have e2 : b / gI a b = y := Int.ediv_eq_of_eq_mul_right (by omega) hy
  refine ⟨?_, ?_⟩
  · show 0 < b / gI a b
    rw [e2]
    apply Int.pos_of_mul_pos_right (a := gI a b) (b := y) ?_ hg |> id
    rw [← hy]; exact h
  · show Nat.gcd (a / gI a b).natAbs (b / gI a b).natAbs = 1
    rw [e1, e2]
    have q1 : a.natAbs = (gI a b).natAbs * x.natAbs := by
      have := congrArg Int.natAbs hx
      rwa [Int.natAbs_mul] at this
    have q2 : b.natAbs = (gI a b).natAbs * y.natAbs := by
      have := congrArg Int.natAbs hy
      rwa [Int.natAbs_mul] at this
    have q3 : (gI a b).natAbs = Nat.gcd a.natAbs b.natAbs := by unfold gI; omega
    have q4 : Nat.gcd a.natAbs b.natAbs = (gI a b).natAbs * Nat.gcd x.natAbs y.natAbs := by
      rw [q1, q2, Nat.gcd_mul_left]
    have hp : 0 < (gI a b).natAbs := by omega
    have : (gI a b).natAbs * 1 = (gI a b).natAbs * Nat.gcd x.natAbs y.natAbs := by rw [← q4, q3]; omega
    exact (Nat.eq_of_mul_eq_mul_left hp this).symm
theorem red_of {q : F} (h : Ok q) : red q.1 q.2 = q := by
  have : gI q.1 q.2 = 1 := by unfold gI; rw [h.2]; rfl
  unfold red
  rw [this, Int.ediv_one, Int.ediv_one]
/-- sums, differences, products, quotients -/
def add (q r : F) : F := red (q.1 * r.2 + r.1 * q.2) (q.2 * r.2)
def sub (q r : F) : F := red (q.1 * r.2 - r.1 * q.2) (q.2 * r.2)
def mul (q r : F) : F := red (q.1 * r.1) (q.2 * r.2)
def div (q r : F) : F := redP (q.1 * r.2) (q.2 * r.1)
def lt (q r : F) : Bool := decide (q.1 * r.2 < r.1 * q.2)
def pw (q : F) (n : Nat) : F := (q.1 ^ n, q.2 ^ n)
theorem pw_ok {q : F} (h : Ok q) (n : Nat) : Ok (pw q n) := by
  refine ⟨Int.pow_pos h.1, ?_⟩
  show Nat.gcd (q.1 ^ n).natAbs (q.2 ^ n).natAbs = 1
  rw [Int.natAbs_pow, Int.natAbs_pow]
  exact Nat.Coprime.pow n n h.2
theorem pw_succ (q : F) (n : Nat) (h : Ok q) : mul (pw q n) q = pw q (n + 1) := by
  have := red_of (pw_ok h (n + 1))
  show red (q.1 ^ n * q.1) (q.2 ^ n * q.2) = _
  rw [← Int.pow_succ, ← Int.pow_succ]
  exact this
end Fq


set_option Elab.async false
set_option linter.all false
set_option maxRecDepth 100000
set_option maxHeartbeats 2000000
namespace Rs
open PySem L2 Bs Fq
def top (i : Nat) : Stmt := PySem.Challenge.pw_rungshare_k22_whole_ways.main.body.getD i (.Pass ⟨0, 0, 0, 0⟩)
abbrev fr (q : F) : HO := .tup [.int q.1, .int q.2]
/-- a value that is a fraction's tuple -/
def Fr (K : PySem.W.Frag) (H : Hp) (v : V) (q : F) : Prop := ∃ a, v = .ref a ∧ SqT K H a [.int q.1, .int q.2]
theorem Fr.of {K : PySem.W.Frag} {H : Hp} {p : Addr} {q : F} (h : H p = some (fr q)) : Fr K H (.ref p) q := ⟨p, rfl, SqT.of h⟩
theorem Fr.mono {K : PySem.W.Frag} {H H' : Hp} {v : V} {q : F} (h : Fr K H v q) (e : Same H H') : Fr K H' v q := by
  obtain ⟨a, rfl, s⟩ := h
  exact ⟨a, rfl, Same.t e s⟩
def Lt2 (n : Nat) (x : Int) : Prop := x.natAbs < 2 ^ n
theorem Lt2.mono {m n : Nat} {x : Int} (h : Lt2 m x) (k : m ≤ n) : Lt2 n x := Nat.lt_of_lt_of_le h (Nat.pow_le_pow_right (by decide) k)
theorem Lt2.c {m n : Nat} {x y : Int} (h : Lt2 m x) (k : Lt2 n y) (h0 : 0 < m := by decide) (h1 : 0 < n := by decide) (h2 : m + n ≤ 1000000 := by decide) : CMulW x y := wide_mul h k h0 h1 h2
/-- what the program reckons with -/
structure Dm (q : F) : Prop where
  big : Lt2 4000 q.1
  pos : 0 < q.2
  low : Lt2 4000 q.2
theorem Dm.l2 {q : F} (h : Dm q) : Lt2 4000 q.2 := h.low
theorem lt2m {a b : Int} (h : Lt2 4000 a) (g : Lt2 4000 b) : Lt2 8000 (a * b) := by
  show (a * b).natAbs < 2 ^ (4000 + 4000)
  rw [Int.natAbs_mul, Nat.pow_add]
  exact Nat.mul_lt_mul'' h g
structure DefN (K : PySem.W.Frag) (mg : Str → Option Value) (x : Str) (st : Stmt) (ps : List Str) : Prop where
  ex : ∃ (f : Addr) (fd : FuncData), Fun K x x st f fd ∧ mg x = some (.ref f) ∧ Binds K fd ps []
/-- the built-ins keep their names -/
structure Blt (mg : Str → Option Value) : Prop where
  isinstance : mg "isinstance" = none
  len : mg "len" = none
  int : mg "int" = none
  bool : mg "bool" = none
  tuple : mg "tuple" = none
  range : mg "range" = none
  list : mg "list" = none
  abs : mg "abs" = none
  min : mg "min" = none
  repr : mg "repr" = none
  gcd : mg "gcd" = some (.builtin "math.gcd")
section
variable {P : Program} {w : World} {K : PySem.W.Frag} {mg : Str → Option Value} {base : Heap} {k : Nat} {x : Str} {st : Stmt} {ps : List Str} {sp : Sp}
theorem DefN.cal (D : DefN K mg x st ps) (h : ∀ f fd, Fun K x x st f fd → FnOk P w K mg base CX0 k f fd ps sp) : Cal P w K mg base k x sp := by
  obtain ⟨f, fd, F, m, b⟩ := D.ex
  exact ⟨f, fd, ps, h f fd F, m, F.kp, b⟩
theorem DefN.calX (D : DefN K mg x st ps) (h : ∀ f fd, Fun K x x st f fd → FnOk P w K mg base (L2.CX P w) k f fd ps sp) : CalX P w K mg base k x sp := by
  obtain ⟨f, fd, F, m, b⟩ := D.ex
  exact ⟨f, fd, ps, h f fd F, m, F.kp, b⟩
theorem DefN.calG (D : DefN K mg x st ps) (h : ∀ f fd, Fun K x x st f fd → FnG P w K mg base k f fd ps sp) : CalG P w K mg base k x sp := by
  obtain ⟨f, fd, F, m, b⟩ := D.ex
  exact ⟨f, fd, ps, h f fd F, m, F.kp, b⟩
end
/-! ### bare -/
abbrev sReduced : Stmt := top 4
abbrev sTimed : Stmt := top 5
/-- reduced(top, bottom) -/
def spReduced : Sp := fun vs H Q _ => ∃ (a b : Int), vs = [.int a, .int b] ∧ 0 < b ∧ Lt2 8000 b ∧ ∀ p, H p = none → Q (.ref p) (upd H p (fr (red a b)))
/-- two fractions in, one out -/
def spOp (K : PySem.W.Frag) (op : F → F → F) (dom : F → F → Prop) : Sp := fun vs H Q _ => ∃ (x y : V) (q r : F), vs = [x, y] ∧ Fr K H x q ∧ Fr K H y r ∧ dom q r ∧ ∀ p, H p = none → Q (.ref p) (upd H p (fr (op q r)))
def dom2 (q r : F) : Prop := Dm q ∧ Dm r
def domD (q r : F) : Prop := Dm q ∧ Dm r ∧ r.1 ≠ 0 ∧ r.1.natAbs < 32768
def spLt (K : PySem.W.Frag) : Sp := fun vs H Q _ => ∃ (x y : V) (q r : F), vs = [x, y] ∧ Fr K H x q ∧ Fr K H y r ∧ dom2 q r ∧ Q (.bl (lt q r)) H
def spRaised (K : PySem.W.Frag) : Sp := fun vs H Q _ => ∃ (x : V) (q : F) (n : Int), vs = [x, .int n] ∧ Fr K H x q ∧ Lt2 6 q.1 ∧ Lt2 6 q.2 ∧ 0 ≤ n ∧ n ≤ 20 ∧ ∀ p, H p = none → Q (.ref p) (upd H p (fr (pw q n.toNat)))
section
variable {P : Program} {w : World} {K : PySem.W.Frag} {mg : Str → Option Value} {base : Heap} {f : Addr} {fd : FuncData}
theorem scReduced : FnScope ["top", "bottom", "common"] ["top", "bottom"] (defScope sReduced) := ⟨rfl, rfl, rfl, by decide +kernel, rfl, by decide +kernel, by decide +kernel⟩
theorem ok_reduced (F : Fun K "reduced" "reduced" sReduced f fd) (T : Blt mg) : FnOk P w K mg base CX0 1 f fd ["top", "bottom"] spReduced := by
  refine F.ok scReduced (fun vs H Q E h => ?_) (fun cdv A outer s H vs Q E hr h => ?_)
  · obtain ⟨a, b, rfl, _⟩ := h
    rfl
  · obtain ⟨a, b, rfl, hb, hw, k⟩ := h
    refine ⟨_, pss_cons (ps_set (i := 2) scReduced.nd rfl (Or.inl rfl) (pe_callBfun cr_gcd (by rfl) T.gcd (pa_cons (pv 0) (pa_cons (pv 1) pa_nil))))
      (pss_cons (ps_if (pt_cmpR op_lt (pv 1) pe_int (nomark _)) (pss_one (ps_set (i := 2) scReduced.nd rfl (Or.inl rfl) (pe_un un_neg (pv 2)))) pss_nil)
      (pss_one (ps_ret (pe_tup (pa_cons (pe_op op_fdivW (pv 0) (pv 2)) (pa_cons (pe_op op_fdivW (pv 1) (pv 2)) pa_nil)))))), ?_⟩
    refine ⟨_, rfl, _, rfl, a, b, rfl, ?_⟩
    refine ⟨_, rfl, _, _, rfl, rfl, _, rfl, ?_⟩
    have hp := gI_pos (a := a) (b := b) (by omega)
    have hle := gI_le (a := a) (b := b) (by omega)
    have hgw : Lt2 8000 (gI a b) := Nat.lt_of_le_of_lt hle hw
    refine ite2 (fun c => ?_) (fun c => ?_)
    · have := of_decide_eq_true c
      omega
    · exact ⟨_, rfl, _, rfl, _, _, rfl, rfl, wide_div hp hgw (by decide) (by decide), _, rfl, _, rfl, _, _, rfl, rfl, wide_div hp hgw (by decide) (by decide), (by show 2 ≤ sizeLine; decide), fun p hp => k p hp⟩
theorem scOp : ∀ i ∈ [5], FnScope ["one", "other"] ["one", "other"] (defScope (top i)) := by
  intro i hi
  simp only [List.mem_cons, List.not_mem_nil, or_false] at hi
  rcases hi with rfl <;> exact ⟨rfl, rfl, rfl, by decide +kernel, rfl, by decide +kernel, by decide +kernel⟩

theorem ok_timed (F : Fun K "timed" "timed" sTimed f fd) (C : Cal P w K mg base 1 "reduced" spReduced) : FnOk P w K mg base CX0 2 f fd ["one", "other"] (spOp K mul dom2) := by
  refine F.ok (scOp 5 (by decide)) (fun vs H Q E h => ?_) (fun cdv A outer s H vs Q E hr h => ?_)
  · obtain ⟨x, y, q, r, rfl, _⟩ := h
    rfl
  · obtain ⟨x, y, q, r, rfl, ⟨a, rfl, h1⟩, ⟨b, rfl, h2⟩, ⟨d1, d2⟩, k⟩ := h
    refine ⟨_, pss_one (ps_ret (pe_n C hr (by decide) (by rfl) (pa_cons (pe_op op_mulW (pe_ix ix_tup (pv 0) pe_int (fun _ _ => rfl)) (pe_ix ix_tup (pv 1) pe_int (fun _ _ => rfl)))
      (pa_cons (pe_op op_mulW (pe_ix ix_tup (pv 0) pe_int (fun _ _ => rfl)) (pe_ix ix_tup (pv 1) pe_int (fun _ _ => rfl))) pa_nil)))), ?_⟩
    refine ⟨_, rfl, a, _, _, _, rfl, rfl, h1, atI_nat (j := 0) rfl, _, rfl, b, _, _, _, rfl, rfl, h2, atI_nat (j := 0) rfl, _, _, rfl, rfl, d1.big.c d2.big,
      _, rfl, a, _, _, _, rfl, rfl, h1, atI_nat (j := 1) rfl, _, rfl, b, _, _, _, rfl, rfl, h2, atI_nat (j := 1) rfl, _, _, rfl, rfl, d1.l2.c d2.l2, ?_⟩
    exact ⟨_, _, rfl, Int.mul_pos d1.pos d2.pos, lt2m d1.low d2.low, fun p hp => k p hp⟩
theorem pow_lt2 {x : Int} {n : Nat} (h : Lt2 6 x) (hn : n ≤ 20) : Lt2 121 (x ^ n) := by
  have h' : x.natAbs < 64 := h
  show (x ^ n).natAbs < 2 ^ 121
  rw [Int.natAbs_pow]
  have a := Nat.pow_le_pow_left (show x.natAbs ≤ 64 by omega) n
  have b := Nat.pow_le_pow_right (show 0 < 64 by decide) hn
  have c : (64 : Nat) ^ 20 < 2 ^ 121 := by decide
  omega
end
end Rs


set_option Elab.async false
set_option linter.all false
set_option maxRecDepth 100000
set_option maxHeartbeats 400000
namespace Rs
open PySem L2 Bs Fq
/-! ### data and kinds -/
def dF (q : F) : PyData := .tuple [.int q.1, .int q.2]
theorem Fr.dp {K : PySem.W.Frag} {H : Hp} {v : V} {q : F} (h : Fr K H v q) : Dp K H v (dF q) := by
  obtain ⟨a, rfl, s⟩ := h
  exact .tup s (.cons (.int _) (.cons (.int _) .nil))
def tyD : PyData → String
  | .none => "NoneType" | .bool _ => "bool" | .int _ => "int" | .str _ => "str" | .list _ => "list" | .tuple _ => "tuple" | .dict _ => "dict"
theorem _root_.L2.Dp.ty {K : PySem.W.Frag} {H : Hp} {v : V} {d : PyData} (h : Dp K H v d) : TyX K H v (.type (tyD d)) := by
  cases h with
  | non => exact .base .non
  | bl b => exact .base (.bl b)
  | int i => exact .base (.int i)
  | str x => exact .base (.str x)
  | lst s _ =>
    rcases s with (s | ⟨o, s⟩) | ⟨o, its, n, e, c, _⟩
    · exact .base (.lst s)
    · exact .base (.frz s)
    · exact .kList e c
  | tup s _ =>
    rcases s with (s | ⟨o, s⟩) | ⟨o, its, n, e, c, _⟩
    · exact .base (.tup s)
    · exact .fTuple s
    · exact .kTuple e c
def wholeD : PyData → Bool
  | .int _ => true
  | _ => false
def fracD : PyData → Bool
  | .tuple [.int a, .int b] => decide (1 ≤ b) && decide (gI a b = 1)
  | _ => false
def betwD (lo hi : Int) : PyData → Bool
  | .int i => decide (lo ≤ i) && decide (i ≤ hi)
  | _ => false
theorem fracD_dF {q : F} (h : Ok q) : fracD (dF q) = true := by
  have : gI q.1 q.2 = 1 := by unfold gI; rw [h.2]; rfl
  simp only [fracD, dF, Bool.and_eq_true, decide_eq_true_eq]
  exact ⟨by have := h.1; omega, this⟩
theorem fracD_true {d : PyData} (h : fracD d = true) : ∃ q, d = dF q ∧ Ok q := by
  unfold fracD at h
  split at h
  · rename_i a b
    simp only [Bool.and_eq_true, decide_eq_true_eq] at h
    refine ⟨(a, b), rfl, by show 0 < b; omega, ?_⟩
    have := h.2
    unfold gI at this
    show Nat.gcd a.natAbs b.natAbs = 1
    omega
  · cases h
def isInt : PyData → Bool
  | .int _ => true
  | .bool _ => true
  | _ => false
theorem kitI (K : PySem.W.Frag) (d : PyData) : PySem.W.kitOne K (.type (tyD d)) (.type "int") = some (isInt d) := by
  cases d with
  | none => exact kit_ty (a := "NoneType") (b := "int") (r := false) (by decide +kernel)
  | bool _ => exact kit_ty (a := "bool") (b := "int") (r := true) (by decide +kernel)
  | int _ => exact kit_ty (a := "int") (b := "int") (r := true) (by decide +kernel)
  | str _ => exact kit_ty (a := "str") (b := "int") (r := false) (by decide +kernel)
  | list _ => exact kit_ty (a := "list") (b := "int") (r := false) (by decide +kernel)
  | tuple _ => exact kit_ty (a := "tuple") (b := "int") (r := false) (by decide +kernel)
  | dict _ => exact kit_ty (a := "dict") (b := "int") (r := false) (by decide +kernel)
def isBool : PyData → Bool
  | .bool _ => true
  | _ => false
theorem kitB' (K : PySem.W.Frag) (d : PyData) : PySem.W.kitOne K (.type (tyD d)) (.type "bool") = some (isBool d) := by
  cases d with
  | none => exact kit_ty (a := "NoneType") (b := "bool") (r := false) (by decide +kernel)
  | bool _ => exact kit_ty (a := "bool") (b := "bool") (r := true) (by decide +kernel)
  | int _ => exact kit_ty (a := "int") (b := "bool") (r := false) (by decide +kernel)
  | str _ => exact kit_ty (a := "str") (b := "bool") (r := false) (by decide +kernel)
  | list _ => exact kit_ty (a := "list") (b := "bool") (r := false) (by decide +kernel)
  | tuple _ => exact kit_ty (a := "tuple") (b := "bool") (r := false) (by decide +kernel)
  | dict _ => exact kit_ty (a := "dict") (b := "bool") (r := false) (by decide +kernel)
def isTup : PyData → Bool
  | .tuple _ => true
  | _ => false
theorem kitT (K : PySem.W.Frag) (d : PyData) : PySem.W.kitOne K (.type (tyD d)) (.type "tuple") = some (isTup d) := by
  cases d with
  | none => exact kit_ty (a := "NoneType") (b := "tuple") (r := false) (by decide +kernel)
  | bool _ => exact kit_ty (a := "bool") (b := "tuple") (r := false) (by decide +kernel)
  | int _ => exact kit_ty (a := "int") (b := "tuple") (r := false) (by decide +kernel)
  | str _ => exact kit_ty (a := "str") (b := "tuple") (r := false) (by decide +kernel)
  | list _ => exact kit_ty (a := "list") (b := "tuple") (r := false) (by decide +kernel)
  | tuple _ => exact kit_ty (a := "tuple") (b := "tuple") (r := true) (by decide +kernel)
  | dict _ => exact kit_ty (a := "dict") (b := "tuple") (r := false) (by decide +kernel)
abbrev sWhole : Stmt := top 13
abbrev sBetween : Stmt := top 14
abbrev sFraction : Stmt := top 15
abbrev sNeedB : Stmt := top 18
def spWhole (K : PySem.W.Frag) : Sp := fun vs H Q _ => ∃ (v : V) (d : PyData), vs = [v] ∧ Dp K H v d ∧ Q (.bl (wholeD d)) H
def spBetween (K : PySem.W.Frag) : Sp := fun vs H Q _ => ∃ (v : V) (d : PyData) (lo hi : Int), vs = [v, .int lo, .int hi] ∧ Dp K H v d ∧ Q (.bl (betwD lo hi d)) H
def spFraction (K : PySem.W.Frag) : Sp := fun vs H Q _ => ∃ (v : V) (d : PyData), vs = [v] ∧ Dp K H v d ∧ Q (.bl (fracD d)) H
section
variable {P : Program} {w : World} {K : PySem.W.Frag} {mg : Str → Option Value} {base : Heap} {f : Addr} {fd : FuncData}
theorem sc15 : FnScope ["thing"] ["thing"] (defScope sWhole) := ⟨rfl, rfl, rfl, by decide +kernel, rfl, by decide +kernel, by decide +kernel⟩
theorem ok_whole (F : Fun K "is_whole" "is_whole" sWhole f fd) (T : Blt mg) : FnOk P w K mg base CX0 1 f fd ["thing"] (spWhole K) := by
  refine F.ok sc15 (fun vs H Q E h => ?_) (fun cdv A outer s H vs Q E hr h => ?_)
  · obtain ⟨v, d, rfl, _⟩ := h
    rfl
  · obtain ⟨v, d, rfl, hd, k⟩ := h
    refine ⟨_, pss_one (ps_ret (pe_and (pe_callB call_isi (by rfl) T.isinstance (by decide +kernel) (pa_cons (pv 0) (pa_cons (pe_bltn (v := .ty "int") (by rfl) T.int (by decide +kernel) rfl) pa_nil)))
      (pe_one (pe_not (pe_callB call_isi (by rfl) T.isinstance (by decide +kernel) (pa_cons (pv 0) (pa_cons (pe_bltn (v := .ty "bool") (by rfl) T.bool (by decide +kernel) rfl) pa_nil))))))), ?_⟩
    refine ⟨v, rfl, v, _, _, _, _, rfl, .ty _, hd.ty, kitI K d, _, rfl, ?_⟩
    have second : ∀ b : Bool, wholeD d = (!isBool d) → tNotV (tCB (rIsi K) (tCons (tVar 0) (tCons (tC (.ty "bool")) tNil))) (start ["thing"] [v]) H Q := fun b e => by
      refine ⟨v, rfl, v, _, _, _, _, rfl, .ty _, hd.ty, kitB' K d, _, rfl, ?_⟩
      rw [← e]
      exact k
    cases d with
    | int i => exact iteT (second true rfl)
    | bool b => exact iteT (second true rfl)
    | none => exact iteF k
    | str x => exact iteF k
    | list xs => exact iteF k
    | tuple xs => exact iteF k
    | dict xs => exact iteF k

theorem sc16 : FnScope ["thing", "low", "high"] ["thing", "low", "high"] (defScope sBetween) := ⟨rfl, rfl, rfl, by decide +kernel, rfl, by decide +kernel, by decide +kernel⟩
theorem ok_between (F : Fun K "is_between" "is_between" sBetween f fd) (W : Cal P w K mg base 1 "is_whole" (spWhole K)) : FnOk P w K mg base CX0 2 f fd ["thing", "low", "high"] (spBetween K) := by
  refine F.ok sc16 (fun vs H Q E h => ?_) (fun cdv A outer s H vs Q E hr h => ?_)
  · obtain ⟨v, d, lo, hi, rfl, _⟩ := h
    rfl
  · obtain ⟨v, d, lo, hi, rfl, hd, k⟩ := h
    refine ⟨_, pss_one (ps_ret (pe_and (pe_n W hr (by decide) (by rfl) (pa_cons (pv 0) pa_nil)) (pe_and (pe_cmpR op_le (pv 1) (pv 0) (nomark _)) (pe_one (pe_cmpR op_le (pv 0) (pv 2) (nomark _)))))), ?_⟩
    refine ⟨v, rfl, v, d, rfl, hd, _, rfl, ?_⟩
    cases d with
    | int i =>
      cases hd
      refine iteT ⟨_, rfl, _, rfl, _, _, rfl, rfl, _, rfl, ?_⟩
      have e : betwD lo hi (.int i) = (decide (lo ≤ i) && decide (i ≤ hi)) := rfl
      refine ite2 (fun c => ⟨_, rfl, _, rfl, _, _, rfl, rfl, ?_⟩) (fun c => ?_)
      · rw [e, c, Bool.true_and] at k
        exact k
      · rw [e, Bool.eq_false_iff.mpr c, Bool.false_and] at k
        exact k
    | bool b => exact iteF k
    | none => exact iteF k
    | str x => exact iteF k
    | list xs => exact iteF k
    | tuple xs => exact iteF k
    | dict xs => exact iteF k
theorem sc17 : FnScope ["thing", "top", "bottom"] ["thing"] (defScope sFraction) := ⟨rfl, rfl, rfl, by decide +kernel, rfl, by decide +kernel, by decide +kernel⟩
theorem fracD_not {d : PyData} (h : isTup d = false) : fracD d = false := by
  cases d <;> first | rfl | cases h
theorem fracD_len : ∀ {ds : List PyData}, ds.length ≠ 2 → fracD (.tuple ds) = false
  | [], _ => rfl
  | [d], _ => by cases d <;> rfl
  | [_, _], h => absurd rfl h
  | a :: b :: _ :: _, _ => by cases a <;> cases b <;> rfl
theorem fracD_first {d e : PyData} (h : wholeD d = false) : fracD (.tuple [d, e]) = false := by
  cases d <;> first | rfl | cases h
theorem fracD_second {d e : PyData} (h : wholeD e = false) : fracD (.tuple [d, e]) = false := by
  cases d <;> cases e <;> first | rfl | cases h
theorem wholeD_true {d : PyData} (h : wholeD d = true) : ∃ i, d = .int i := by
  cases d with
  | int i => exact ⟨i, rfl⟩
  | _ => cases h
theorem dpAll_len {K : PySem.W.Frag} {H : Hp} : ∀ {ds : List PyData} {xs : List V}, DpAll K H xs ds → xs.length = ds.length
  | [], _, .nil => rfl
  | _ :: _, _, .cons _ r => congrArg Nat.succ (dpAll_len r)
theorem two_of {K : PySem.W.Frag} {H : Hp} {xs : List V} {ds : List PyData} (h : DpAll K H xs ds) (l : xs.length = 2) : ∃ v1 v2 d1 d2, xs = [v1, v2] ∧ ds = [d1, d2] ∧ Dp K H v1 d1 ∧ Dp K H v2 d2 := by
  cases h with
  | nil => cases l
  | cons h1 h2 =>
    cases h2 with
    | nil => cases l
    | cons h3 h4 =>
      cases h4 with
      | nil => exact ⟨_, _, _, _, rfl, rfl, h1, h3⟩
      | cons h5 h6 => simp at l
theorem ok_fraction (F : Fun K "is_fraction" "is_fraction" sFraction f fd) (T : Blt mg) (W : Cal P w K mg base 1 "is_whole" (spWhole K)) : FnOk P w K mg base CX0 2 f fd ["thing"] (spFraction K) := by
  refine F.ok sc17 (fun vs H Q E h => ?_) (fun cdv A outer s H vs Q E hr h => ?_)
  · obtain ⟨v, d, rfl, _⟩ := h
    rfl
  · obtain ⟨v, d, rfl, hd, k⟩ := h
    refine ⟨_, pss_cons (ps_if (PW.pt (pw_or (pt_not (pt_val (pe_callB call_isi (by rfl) T.isinstance (by decide +kernel) (pa_cons (pv 0) (pa_cons (pe_bltn (v := .ty "tuple") (by rfl) T.tuple (by decide +kernel) rfl) pa_nil)))))
        (pw_or1 (pt_cmpR op_ne (pe_callB call_len_seq (by rfl) T.len PySem.boot_len (pa_cons (pv 0) pa_nil)) pe_int (nomark _))))) (pss_one (ps_ret pe_bl)) pss_nil)
      (pss_cons (ps_asg (pv 0) (pg_tup rfl (pgs_cons (pg_name (i := 1) sc17.nd rfl (.inl rfl)) (pgs_cons (pg_name (i := 2) sc17.nd rfl (.inl rfl)) pgs_nil))))
      (pss_one (ps_ret (pe_and (pe_n W hr (by decide) (by rfl) (pa_cons (pv 1) pa_nil)) (pe_and (pe_n W hr (by decide) (by rfl) (pa_cons (pv 2) pa_nil))
        (pe_and (pe_cmpR op_ge (pv 2) pe_int (nomark _)) (pe_one (pe_cmpR op_eq (pe_callBfun cr_gcd (by rfl) T.gcd (pa_cons (pv 1) (pa_cons (pv 2) pa_nil))) pe_int (nomark _))))))))), ?_⟩
    refine ⟨v, rfl, v, _, _, _, _, rfl, .ty _, hd.ty, kitT K d, _, rfl, ?_⟩
    cases ht : isTup d with
    | false =>
      rw [fracD_not ht] at k
      exact iteT (iteT k)
    | true =>
      refine iteF ?_
      cases hd with
      | tup hS hA =>
        rename_i a xs ds
        refine ⟨_, rfl, a, _, rfl, .inr hS, rfl, _, rfl, ?_⟩
        refine ite2 (fun c => ?_) (fun c => ?_)
        · have l := dpAll_len hA
          rw [fracD_len (fun z => by rw [← l] at z; simp [z] at c)] at k
          exact k
        · have l := dpAll_len hA
          have l2 : xs.length = 2 := by
            have c2 : ((xs.length : Nat) : Int) = 2 := by simpa using c
            omega
          obtain ⟨v1, v2, d1, d2, rfl, rfl, h1, h2⟩ := two_of hA l2
          refine ⟨_, rfl, a, [v1, v2], rfl, hS, rfl, v1, [v2], rfl, v2, [], rfl, rfl, ?_⟩
          refine ⟨_, rfl, v1, d1, rfl, h1, _, rfl, ?_⟩
          cases hw1 : wholeD d1 with
          | false =>
            rw [fracD_first hw1] at k
            exact iteF k
          | true =>
            refine iteT ⟨_, rfl, v2, d2, rfl, h2, _, rfl, ?_⟩
            cases hw2 : wholeD d2 with
            | false =>
              rw [fracD_second hw2] at k
              exact iteF k
            | true =>
              obtain ⟨i1, rfl⟩ := wholeD_true hw1
              obtain ⟨i2, rfl⟩ := wholeD_true hw2
              cases h1
              cases h2
              have e : fracD (.tuple [.int i1, .int i2]) = (decide (1 ≤ i2) && decide (gI i1 i2 = 1)) := rfl
              refine iteT ⟨_, rfl, _, _, rfl, rfl, _, rfl, ?_⟩
              refine ite2 (fun c1 => ⟨_, rfl, _, rfl, i1, i2, rfl, rfl, ?_⟩) (fun c1 => ?_)
              · rw [e, show decide (1 ≤ i2) = true from c1, Bool.true_and] at k
                have e3 : decide (V.int ((Nat.gcd i1.natAbs i2.natAbs : Nat) : Int) = V.int 1) = decide (gI i1 i2 = 1) := by
                  unfold gI
                  simp only [V.int.injEq]
                rw [← e3] at k
                exact k
              · rw [e, show decide (1 ≤ i2) = false from Bool.eq_false_iff.mpr c1, Bool.false_and] at k
                exact k
      | non => cases ht
      | bl b => cases ht
      | int b => cases ht
      | str b => cases ht
      | lst _ _ => cases ht
end
end Rs


set_option Elab.async false
set_option linter.all false
set_option maxRecDepth 100000
set_option maxHeartbeats 400000
namespace Rs
open PySem L2 Bs Fq
/-! ### errors -/
/-- the class x, its __init__: self.given = given -/
structure Err (K : PySem.W.Frag) (mg : Str → Option Value) (x : Str) (qual : Str) (st : Stmt) (C : Addr) : Prop where
  gC : mg x = some (.ref C)
  oex : OexC K C
  xf : XfC K C
  no : PySem.W.findIn K (.ref C) "given" = some none
  ini : ∃ (fI : Addr) (fd : FuncData), PySem.W.findIn K (.ref C) "__init__" = some (some (.ref fI)) ∧ PySem.W.typeIn K (.ref fI) = some (.type "function") ∧ Fun K "__init__" qual st fI fd ∧ Binds K fd ["self", "given"] []
abbrev sInitN : Stmt := inClass (top 9) 0
def spInit (K : PySem.W.Frag) (C : Addr) : Sp := fun vs H Q _ => ∃ (a : Addr) (y : V), vs = [.ref a, y] ∧ H a = some (exo a C none) ∧
  ∀ dx, H dx = none → dx ≠ a → Q .non (upd (upd H dx (exd dx [("given", y)])) a (exo a C (some dx)))
theorem heap_end {H : Hp} {a d : Addr} {o1 o2 o3 o4 : HO} (h : H a = none) (n : d ≠ a) : upd (del (upd (upd (upd H a o1) d o2) a o3) a) d o4 = upd H d o4 := by
  funext b
  by_cases e1 : b = d
  · subst e1
    rw [upd_same, upd_same]
  · rw [upd_ne e1, upd_ne e1]
    by_cases e2 : b = a
    · subst e2
      rw [del_same, h]
    · rw [del_ne e2, upd_ne e2, upd_ne e1, upd_ne e2]
section
variable {P : Program} {w : World} {K : PySem.W.Frag} {mg : Str → Option Value} {base : Heap} {f : Addr} {fd : FuncData}
theorem scInitN : FnScope ["self", "given"] ["self", "given"] (defScope sInitN) := ⟨rfl, rfl, rfl, by decide +kernel, rfl, by decide +kernel, by decide +kernel⟩
theorem ok_initN {C : Addr} {q : Str} (F : Fun K "__init__" q sInitN f fd) (T : OexC K C) (no : PySem.W.findIn K (.ref C) "given" = some none) : FnOk P w K mg base CX0 1 f fd ["self", "given"] (spInit K C) := by
  refine F.ok scInitN (fun vs H Q E h => ?_) (fun cdv A outer s H vs Q E hr h => ?_)
  · obtain ⟨a, y, rfl, _⟩ := h
    rfl
  · obtain ⟨a, y, rfl, ha, k⟩ := h
    exact ⟨_, pss_one (ps_ost (pv 0) (pv 1)), _, rfl, _, rfl, a, C, rfl, T, no, .inl ⟨ha, fun dx n1 n2 => k dx n1 n2⟩⟩
/-- such an error may be made by its name -/
structure ErrOk (P : Program) (w : World) (K : PySem.W.Frag) (mg : Str → Option Value) (base : Heap) (x : Str) (C : Addr) : Prop where
  gC : mg x = some (.ref C)
  oex : OexC K C
  ini : ∃ (fI : Addr) (fd : FuncData), PySem.W.findIn K (.ref C) "__init__" = some (some (.ref fI)) ∧ PySem.W.typeIn K (.ref fI) = some (.type "function") ∧ FnOk P w K mg base CX0 1 fI fd ["self", "given"] (spInit K C) ∧ Binds K fd ["self", "given"] []
theorem Err.okN {x q : Str} {C : Addr} (T : Err K mg x q sInitN C) : ErrOk P w K mg base x C := by
  obtain ⟨fI, fd, a, b, F, bi⟩ := T.ini
  exact ⟨T.gC, T.oex, fI, fd, a, b, ok_initN F T.oex T.no, bi⟩
end
/-- the way out with an error of the class at C that carries v -/
def Out (E : XK) (C : Addr) (v : V) (H : Hp) : Prop := ∀ d : Addr, H d = none → E (.ref C) (some d) (upd H d (.xd [("given", v)]))
theorem pe_weak {X : Cx} {e : Expr} {te : TE} (he : PE X e te) : PE X e (fun σ H Q => ∃ Q0 : VK, te σ H Q0 ∧ ∀ v H1, Q0 v H1 → Q v H1) :=
  ⟨fun pins s σ H Q I ⟨Q0, h, m⟩ => PySem.wpAny_mono (he.run pins s σ H Q0 I h) (fun u s' ⟨v, H1, I1, r, q⟩ => ⟨v, H1, I1, r, m _ _ q⟩) (fun _ _ z => z)⟩
/-- raise x(e) -/
def tRz (C : Addr) (W : WX) (te : TE) : TS := fun _ σ H => te σ H fun v H1 => ∀ d : Addr, H1 d = none → W (.ref C) (some d) σ (upd H1 d (.xd [("given", v)]))
theorem ps_rz {X : Cx} {x : Str} {C : Addr} {j : Nat} {e : Expr} {te : TE} {W : WX} {p pos pos2 : Pos} (hc : X.calm = true) (T : ErrOk X.prog X.w X.K X.mg X.base x C) (hr : Room j X.A) (hj : 2 ≤ j) (tk : Takes X W) (he : PE X e te) (hg : Gl X x)
    (hdb : (x == ("__debug__" : Str)) = false := by decide) (hs : starEach (e :: []) X.env = (false, eval e X.env) :: starEach [] X.env := by rfl) (hpl : (backTo pos (starEach [] X.env)).any (·.1) = false := by rfl) :
    PS X (.Raise (some (.Call (.Name x p) [e] [] pos)) none pos2) (tRz C W te) := by
  obtain ⟨fI, fd, iC, tI, F1, b⟩ := T.ini
  have h := ps_raise (pos := pos2) hc tk (pmk_oex (x := x) (p := p) (pos := pos) T.oex iC tI F1 (hr.mono hj) b .nil pass0 hg T.gC (pa_cons (pe_weak he) pa_nil hs) hdb hs hpl)
  constructor
  intro pins s σ H D I q
  refine h.run pins s σ H D I ?_
  refine ⟨_, q, fun v H1 z => ?_⟩
  refine ⟨(by show 1 ≤ 1000; decide), fun a ha => ⟨a, v, rfl, upd_same, fun dx n1 n2 => ⟨rfl, dx, [("given", v)], upd_same, ?_, ?_, ?_⟩⟩⟩
  · rw [upd_ne n2]
    exact upd_same
  · rw [upd_ne n2] at n1
    exact n1
  · rw [upd_ne n2] at n1
    show W _ _ _ (upd (del _ a) dx _)
    rw [heap_end ha n2]
    exact z dx n1
end Rs


set_option Elab.async false
set_option linter.all false
set_option maxRecDepth 100000
set_option maxHeartbeats 400000
namespace Rs
open PySem L2 Bs Fq
theorem dp_fr {K : PySem.W.Frag} {H : Hp} {v : V} {q : F} (h : Dp K H v (dF q)) : Fr K H v q := by
  cases h with
  | tup s a =>
    cases a with
    | cons h1 h2 =>
      cases h2 with
      | cons h3 h4 =>
        cases h4
        cases h1
        cases h3
        exact ⟨_, rfl, s⟩
def spNeedF (K : PySem.W.Frag) (C : Addr) : Sp := fun vs H Q E => ∃ (v : V) (d : PyData), vs = [v] ∧ Dp K H v d ∧ (fracD d = true → Q v H) ∧ (fracD d = false → Out E C v H)
def spNeedB (K : PySem.W.Frag) (C : Addr) : Sp := fun vs H Q E => ∃ (v : V) (d : PyData) (lo hi : Int), vs = [v, .int lo, .int hi] ∧ Dp K H v d ∧ (betwD lo hi d = true → Q v H) ∧ (betwD lo hi d = false → Out E C v H)
def spRatio (K : PySem.W.Frag) (C : Addr) : Sp := fun vs H Q E => ∃ (x y : V) (dx dy : PyData), vs = [x, y] ∧ Dp K H x dx ∧ Dp K H y dy ∧ (wholeD dx = false → Out E C x H) ∧
  (∀ a, dx = .int a → (∀ b, dy = .int b → b ≠ 0 → b.natAbs < 1073741824 ∧ ∀ p, H p = none → Q (.ref p) (upd H p (fr (redP a b)))) ∧ ((∀ b, dy = .int b → b = 0) → Out E C y H))
/-- two fractions wanted; R: what is made of them -/
def spTwo (K : PySem.W.Frag) (C : Addr) (R : V → V → F → F → Hp → VK → XK → Prop) : Sp := fun vs H Q E => ∃ (x y : V) (dx dy : PyData), vs = [x, y] ∧ Dp K H x dx ∧ Dp K H y dy ∧ (fracD dx = false → Out E C x H) ∧
  (fracD dx = true → fracD dy = false → Out E C y H) ∧ (∀ q r, dx = dF q → Ok q → dy = dF r → Ok r → R x y q r H Q E)
def rOp (op : F → F → F) (dom : F → F → Prop) : V → V → F → F → Hp → VK → XK → Prop := fun _ _ q r H Q _ => dom q r ∧ ∀ p, H p = none → Q (.ref p) (upd H p (fr (op q r)))
def rLt : V → V → F → F → Hp → VK → XK → Prop := fun _ _ q r H Q _ => dom2 q r ∧ Q (.bl (lt q r)) H
def rOver (C : Addr) : V → V → F → F → Hp → VK → XK → Prop := fun _ y q r H Q E => (r.1 = 0 → Out E C y H) ∧ (r.1 ≠ 0 → domD q r ∧ ∀ p, H p = none → Q (.ref p) (upd H p (fr (div q r))))
def spPower (K : PySem.W.Frag) (CF CN : Addr) : Sp := fun vs H Q E => ∃ (x y : V) (dx dy : PyData), vs = [x, y] ∧ Dp K H x dx ∧ Dp K H y dy ∧ (fracD dx = false → Out E CF x H) ∧
  (fracD dx = true → betwD 0 20 dy = false → Out E CN y H) ∧ (∀ q n, dx = dF q → Ok q → dy = .int n → 0 ≤ n → n ≤ 20 → Lt2 6 q.1 ∧ Lt2 6 q.2 ∧ ∀ p, H p = none → Q (.ref p) (upd H p (fr (pw q n.toNat))))
/-- the module's NOUGHT -/
structure Nou (K : PySem.W.Frag) (mg : Str → Option Value) : Prop where
  ex : ∃ a : Addr, mg "NOUGHT" = some (.ref a) ∧ ∀ H : Hp, SqT K H a [.int 0, .int 1]
section
variable {P : Program} {w : World} {K : PySem.W.Frag} {mg : Str → Option Value} {base : Heap} {f : Addr} {fd : FuncData} {CF CN : Addr}
theorem sc19 : FnScope ["thing", "low", "high"] ["thing", "low", "high"] (defScope sNeedB) := ⟨rfl, rfl, rfl, by decide +kernel, rfl, by decide +kernel, by decide +kernel⟩
theorem ok_needB (F : Fun K "need_between" "need_between" sNeedB f fd) (T : ErrOk P w K mg base "BadNumber" CN) (W : Cal P w K mg base 2 "is_between" (spBetween K)) : FnOk P w K mg base (L2.CX P w) 3 f fd ["thing", "low", "high"] (spNeedB K CN) := by
  refine F.okX sc19 (fun vs H Q E h => ?_) (fun cdv A outer s H vs Q E hr h => ?_)
  · obtain ⟨v, d, lo, hi, rfl, _⟩ := h
    rfl
  · obtain ⟨v, d, lo, hi, rfl, hd, k1, k2⟩ := h
    refine ⟨_, pss_cons (ps_if (pt_not (pt_val (pe_n W hr (by decide) (by rfl) (pa_cons (pv 0) (pa_cons (pv 1) (pa_cons (pv 2) pa_nil)))))) (pss_one (ps_rz rfl T hr (by decide) (takes_of rfl rfl rfl rfl) (pv 0) (by rfl))) pss_nil) (pss_one (ps_ret (pv 0))), ?_⟩
    refine ⟨_, rfl, _, rfl, _, rfl, v, d, lo, hi, rfl, hd, _, rfl, ?_⟩
    cases e : betwD lo hi d with
    | true => exact iteF ⟨_, rfl, k1 e⟩
    | false => exact iteT ⟨_, rfl, k2 e⟩
/-- the reading of f(need_fraction(one), need_fraction(other)) -/
theorem two_needs {x y : V} {dx dy : PyData} {H : Hp} {E : XK} {Q2 : F → F → Prop} {sp : Sp} {D : Ends} (h1 : Dp K H x dx) (h2 : Dp K H y dy) (k1 : fracD dx = false → Out E CF x H) (k2 : fracD dx = true → fracD dy = false → Out E CF y H)
    (k3 : ∀ q r, dx = dF q → Ok q → dy = dF r → Ok r → Q2 q r) (fin : ∀ q r, Fr K H x q → Fr K H y r → Q2 q r → sp [x, y] H D.rt E0) :
    tRet (tCall sp [] E0 (tCons (tCall (spNeedF K CF) [] E (tCons (tVar 0) tNil)) (tCons (tCall (spNeedF K CF) [] E (tCons (tVar 1) tNil)) tNil))) D (start ["one", "other"] [x, y]) H := by
  refine ⟨x, rfl, x, dx, rfl, h1, fun e1 => ⟨y, rfl, y, dy, rfl, h2, fun e2 => ?_, fun e2 => k2 e1 e2⟩, k1⟩
  obtain ⟨q, rfl, o1⟩ := fracD_true e1
  obtain ⟨r, rfl, o2⟩ := fracD_true e2
  exact fin q r (dp_fr h1) (dp_fr h2) (k3 q r rfl o1 rfl o2)
end
end Rs


set_option Elab.async false
set_option linter.all false
set_option maxRecDepth 100000
set_option maxHeartbeats 400000
namespace Rs
open PySem L2 Bs Fq
abbrev sMixed : Stmt := top 39
abbrev sLRatio : Stmt := top 42
abbrev sLTimes : Stmt := top 43
def spMixed : Sp := fun vs H Q _ => ∃ (c k : Int), vs = [.int c, .int k] ∧ 0 ≤ k ∧ k ≤ 100000 ∧ ∀ r : Int, 0 ≤ r → r < 2147483629 → Q (.int r) H
/-- _law_ratio(top, bottom), bottom above nought -/
def spLRatio : Sp := fun vs H Q _ => ∃ (a b : Int), vs = [.int a, .int b] ∧ 0 < b ∧ Lt2 8000 b ∧ ∀ p, H p = none → Q (.ref p) (upd H p (fr (red a b)))
/-- the law's own numbers: any size that a reckoning may have -/
structure Dl (q : F) : Prop where
  big : Lt2 4000 q.1
  pos : 0 < q.2
  low : Lt2 4000 q.2
def domL (q r : F) : Prop := Dl q ∧ Dl r
def domLD (q r : F) : Prop := Dl q ∧ Dl r ∧ 0 < r.1
def spLt' (K : PySem.W.Frag) : Sp := fun vs H Q _ => ∃ (x y : V) (q r : F), vs = [x, y] ∧ Fr K H x q ∧ Fr K H y r ∧ domL q r ∧ Q (.bl (lt q r)) H
/-- the law's quotient, the divisor above nought -/
def divL (q r : F) : F := red (q.1 * r.2) (q.2 * r.1)
section
variable {P : Program} {w : World} {K : PySem.W.Frag} {mg : Str → Option Value} {base : Heap} {f : Addr} {fd : FuncData}
theorem scMixed : FnScope ["cell", "k"] ["cell", "k"] (defScope sMixed) := ⟨rfl, rfl, rfl, by decide +kernel, rfl, by decide +kernel, by decide +kernel⟩
theorem ok_mixed (F : Fun K "_law_mixed" "_law_mixed" sMixed f fd) (T : Blt mg) : FnOk P w K mg base CX0 1 f fd ["cell", "k"] spMixed := by
  refine F.ok scMixed (fun vs H Q E h => ?_) (fun cdv A outer s H vs Q E hr h => ?_)
  · obtain ⟨c, k, rfl, _⟩ := h
    rfl
  · obtain ⟨c, k, rfl, k0, k1, g⟩ := h
    refine ⟨_, pss_cons (ps_set (i := 0) scMixed.nd rfl (Or.inl rfl) (pe_op op_mod (pe_callTy call_int1 (by rfl) T.int (by decide +kernel) (pa_cons (pv 0) pa_nil)) pe_int))
      (pss_one (ps_ret (pe_op op_mod (pe_op op_mul (pe_op op_mod (pe_op op_add (pe_op op_add (pe_op op_mul (pv 0) (pe_op op_add pe_int (pe_op op_mul (pe_op op_mul pe_int (pv 1)) (pv 1)))) (pe_op op_mul pe_int (pv 1))) pe_int) pe_int) pe_int) pe_int))), ?_⟩
    refine ⟨_, rfl, .inl ⟨c, rfl, _, _, rfl, rfl, (by show (0 : Int) < 2147483647; decide), ?_⟩⟩
    have m0 := Int.emod_nonneg c (b := 2147483647) (by decide)
    have m1 := Int.emod_lt_of_pos c (b := 2147483647) (by decide)
    refine ⟨_, rfl, _, rfl, _, _, rfl, rfl, .inl ⟨by decide, by decide⟩, _, rfl, _, _, rfl, rfl, .inr ⟨by omega, by omega⟩, _, _, rfl, rfl, _, _, rfl, rfl, .inl ⟨by omega, by omega⟩, _, rfl, _, _, rfl, rfl, .inl ⟨by decide, by decide⟩, _, _, rfl, rfl, _, _, rfl, rfl,
      _, _, rfl, rfl, (by show (0 : Int) < 2147483647; decide), _, _, rfl, rfl, .inr ⟨by decide, by decide⟩, _, _, rfl, rfl, (by show (0 : Int) < 2147483629; decide), ?_⟩
    exact g _ (Int.emod_nonneg _ (by decide)) (Int.emod_lt_of_pos _ (by decide))
theorem scLRatio : FnScope ["top", "bottom", "one", "other"] ["top", "bottom"] (defScope sLRatio) := ⟨rfl, rfl, rfl, by decide +kernel, rfl, by decide +kernel, by decide +kernel⟩
theorem ok_lratio (F : Fun K "_law_ratio" "_law_ratio" sLRatio f fd) (T : Blt mg) : FnOk P w K mg base CX0 1 f fd ["top", "bottom"] spLRatio := by
  refine F.ok scLRatio (fun vs H Q E h => ?_) (fun cdv A outer s H vs Q E hr h => ?_)
  · obtain ⟨a, b, rfl, _⟩ := h
    rfl
  · obtain ⟨a, b, rfl, hb, hl, k⟩ := h
    refine ⟨_, pss_cons (ps_par (i := 2) (j := 3) (by rfl) scLRatio.nd rfl rfl (by decide) rfl rfl (pa_cons (pe_callB call_abs (by rfl) T.abs (by decide +kernel) (pa_cons (pv 0) pa_nil)) (pa_cons (pv 1) pa_nil)) (by rfl))
      (pss_cons (ps_while PassesOwn.never (pt_cmpR op_ne (pv 3) pe_int (nomark _))
        (pss_one (ps_par (i := 2) (j := 3) (by rfl) scLRatio.nd rfl rfl (by decide) rfl rfl (pa_cons (pv 3) (pa_cons (pe_op op_modN (pe_callTy call_int1 (by rfl) T.int (by decide +kernel) (pa_cons (pv 2) pa_nil)) (pv 3)) pa_nil)) (by rfl))))
      (pss_one (ps_ret (pe_tup (pa_cons (pe_op op_fdivW (pv 0) (pv 2)) (pa_cons (pe_op op_fdivW (pv 1) (pv 2)) pa_nil)))))), ?_⟩
    refine ⟨_, rfl, a, rfl, _, rfl, _, _, rfl, ?_⟩
    have hp := gI_pos (a := a) (b := b) (by omega)
    have hle := gI_le (a := a) (b := b) (by omega)
    refine while_by (fun σ H' => H' = H ∧ ∃ x y : Int, σ = [some (V.int a), some (V.int b), some (V.int x), some (V.int y)] ∧ 0 ≤ x ∧ 0 ≤ y ∧ gI x y = gI a b) (fun σ _ => match σ with | [_, _, _, some (V.int y)] => y.natAbs | _ => 0)
      ⟨rfl, _, b, rfl, by split <;> omega, by omega, ?_⟩ ?_ (fun σ H Q Q' m h => ?_)
    · unfold gI
      split
      · rw [Int.natAbs_neg]
      · rfl
    · rintro σ H' ⟨rfl, x, y, rfl, x0, y0, e⟩
      refine ⟨_, rfl, rfl, _, rfl, ?_⟩
      by_cases hy : y = 0
      · subst hy
        refine iteF ?_
        have ex : x = gI a b := by
          rw [← e]
          unfold gI
          have : Nat.gcd x.natAbs (0 : Int).natAbs = x.natAbs := Nat.gcd_zero_right _
          rw [this]
          omega
        subst ex
        have hgw : Lt2 8000 (gI a b) := Nat.lt_of_le_of_lt hle hl
        exact ⟨_, rfl, _, rfl, _, _, rfl, rfl, wide_div hp hgw (by decide) (by decide), _, rfl, _, rfl, _, _, rfl, rfl, wide_div hp hgw (by decide) (by decide), (by show 2 ≤ sizeLine; decide), fun p hp => k p hp⟩
      · have d : decide (V.int y = V.int 0) = false := decide_eq_false (fun z => hy (V.int.inj z))
        show if (!decide (V.int y = V.int 0)) = true then _ else _
        rw [d]
        refine iteT ?_
        refine ⟨_, rfl, _, rfl, .inl ⟨x, rfl, _, rfl, _, _, rfl, rfl, hy, _, _, rfl, ⟨rfl, y, x.fmod y, rfl, y0, ?_, ?_⟩, ?_⟩⟩
        · exact Int.fmod_nonneg_of_pos x (by omega)
        · rw [← e]
          unfold gI
          rw [Int.fmod_eq_emod_of_nonneg x y0]
          have h1 : (x % y).natAbs = x.natAbs % y.natAbs := by
            have := Int.natAbs_emod_of_nonneg (b := y) x0
            exact this
          rw [h1, Nat.gcd_comm y.natAbs, ← Nat.gcd_rec y.natAbs x.natAbs, Nat.gcd_comm]
        · show (x.fmod y).natAbs < y.natAbs
          rw [Int.fmod_eq_emod_of_nonneg x y0]
          have := Int.emod_lt_of_pos x (show 0 < y by omega)
          have := Int.emod_nonneg x hy
          omega
    · obtain ⟨v, e1, e2, b', e3, q⟩ := h
      exact ⟨v, e1, e2, b', e3, m _ _ q⟩
end
end Rs


set_option Elab.async false
set_option linter.all false
set_option maxRecDepth 100000
set_option maxHeartbeats 400000
namespace Rs
open PySem L2 Bs Fq
section
variable {P : Program} {w : World} {K : PySem.W.Frag} {mg : Str → Option Value} {base : Heap} {f : Addr} {fd : FuncData}
theorem scLOp : ∀ i ∈ [43], FnScope ["one", "other"] ["one", "other"] (defScope (top i)) := by
  intro i hi
  simp only [List.mem_cons, List.not_mem_nil, or_false] at hi
  rcases hi with rfl <;> exact ⟨rfl, rfl, rfl, by decide +kernel, rfl, by decide +kernel, by decide +kernel⟩
theorem ok_ltimes (F : Fun K "_law_times" "_law_times" sLTimes f fd) (C : Cal P w K mg base 1 "_law_ratio" spLRatio) : FnOk P w K mg base CX0 2 f fd ["one", "other"] (spOp K mul domL) := by
  refine F.ok (scLOp 43 (by decide)) (fun vs H Q E h => ?_) (fun cdv A outer s H vs Q E hr h => ?_)
  · obtain ⟨x, y, q, r, rfl, _⟩ := h
    rfl
  · obtain ⟨x, y, q, r, rfl, ⟨a, rfl, h1⟩, ⟨b, rfl, h2⟩, ⟨d1, d2⟩, k⟩ := h
    refine ⟨_, pss_one (ps_ret (pe_n C hr (by decide) (by rfl) (pa_cons (pe_op op_mulW (pe_ix ix_tup (pv 0) pe_int (fun _ _ => rfl)) (pe_ix ix_tup (pv 1) pe_int (fun _ _ => rfl)))
      (pa_cons (pe_op op_mulW (pe_ix ix_tup (pv 0) pe_int (fun _ _ => rfl)) (pe_ix ix_tup (pv 1) pe_int (fun _ _ => rfl))) pa_nil)))), ?_⟩
    refine ⟨_, rfl, a, _, _, _, rfl, rfl, h1, atI_nat (j := 0) rfl, _, rfl, b, _, _, _, rfl, rfl, h2, atI_nat (j := 0) rfl, _, _, rfl, rfl, d1.big.c d2.big,
      _, rfl, a, _, _, _, rfl, rfl, h1, atI_nat (j := 1) rfl, _, rfl, b, _, _, _, rfl, rfl, h2, atI_nat (j := 1) rfl, _, _, rfl, rfl, d1.low.c d2.low, ?_⟩
    exact ⟨_, _, rfl, Int.mul_pos d1.pos d2.pos, wide_lt d1.low d2.low, fun p hp => k p hp⟩
/-- _law_power(one, many): one in least terms -/
def spLPower (K : PySem.W.Frag) : Sp := fun vs H Q _ => ∃ (x : V) (q : F) (n : Int), vs = [x, .int n] ∧ Fr K H x q ∧ Ok q ∧ Lt2 6 q.1 ∧ Lt2 6 q.2 ∧ 0 ≤ n ∧ n ≤ 20 ∧ ∀ H' p, Same H H' → H' p = some (fr (pw q n.toNat)) → Q (.ref p) H'
/-- _law_divided(one, far): the quotient, far not nought -/
def spLDivided (K : PySem.W.Frag) : Sp := fun vs H Q _ => ∃ (x y : V) (q r : F), vs = [x, y] ∧ Fr K H x q ∧ Fr K H y r ∧ domL q r ∧ r.1 ≠ 0 ∧ ∀ H' p, Same H H' → H' p = some (fr (div q r)) → Q (.ref p) H'
theorem lt2_neg {n : Nat} {x : Int} (h : Lt2 n x) : Lt2 n (-x) := by
  unfold Lt2 at h ⊢
  rw [Int.natAbs_neg]
  exact h
end
end Rs


set_option Elab.async false
set_option linter.all false
set_option maxRecDepth 100000
set_option maxHeartbeats 400000
namespace Rs
open PySem L2 Bs Fq
abbrev sBegin : Stmt := top 40
abbrev sDraw : Stmt := top 41
/-! ### the state -/
def dS (c l : Addr) (t : Int) : List (Key × V) := [(Sum.inr "cells", .ref c), (Sum.inr "lefts", .ref l), (Sum.inr "at", .int t), (Sum.inr "room", .int 0)]
theorem val_cells (c l : Addr) (t : Int) : valV (dS c l t) (Sum.inr "cells") = some (.ref c) := by rfl
theorem val_lefts (c l : Addr) (t : Int) : valV (dS c l t) (Sum.inr "lefts") = some (.ref l) := by rfl
theorem val_at (c l : Addr) (t : Int) : valV (dS c l t) (Sum.inr "at") = some (.int t) := by rfl
theorem put_at (c l : Addr) (t u : Int) : putK (dS c l t) (Sum.inr "at") (.int u) = dS c l u := by rfl
structure Sta (H : Hp) (p c l : Addr) (n : Nat) (t : Int) : Prop where
  d : H p = some (.dK (dS c l t))
  cs : ∃ cs : List Int, H c = some (.lst (cs.map V.int)) ∧ cs.length = n
  ls : ∃ ls : List Int, H l = some (.lst (ls.map V.int)) ∧ ls.length = n ∧ ∀ z ∈ ls, 0 ≤ z
  ne : c ≠ l
  n1 : 1 ≤ n
  n2 : n ≤ 63
  t0 : 0 ≤ t
section
variable {H H' : Hp} {p c l : Addr} {n : Nat} {t : Int}
theorem Sta.gCells (S : Sta H p c l n t) : DGet H p (.str "cells") (some (.ref c)) := by
  have := DGet.k (k := (Sum.inr "cells" : Key)) S.d
  rwa [val_cells] at this
theorem Sta.gLefts (S : Sta H p c l n t) : DGet H p (.str "lefts") (some (.ref l)) := by
  have := DGet.k (k := (Sum.inr "lefts" : Key)) S.d
  rwa [val_lefts] at this
theorem Sta.gAt (S : Sta H p c l n t) : DGet H p (.str "at") (some (.int t)) := by
  have := DGet.k (k := (Sum.inr "at" : Key)) S.d
  rwa [val_at] at this
theorem Sta.pc (S : Sta H p c l n t) : p ≠ c := by
  obtain ⟨cs, h, _⟩ := S.cs
  exact ne_of S.d h (by intro z; cases z)
theorem Sta.pl (S : Sta H p c l n t) : p ≠ l := by
  obtain ⟨ls, h, _⟩ := S.ls
  exact ne_of S.d h (by intro z; cases z)
theorem Sta.mono (S : Sta H p c l n t) (e : Same H H') : Sta H' p c l n t := by
  obtain ⟨cs, a1, a2⟩ := S.cs
  obtain ⟨ls, b1, b2⟩ := S.ls
  exact ⟨e _ _ S.d, ⟨cs, e _ _ a1, a2⟩, ⟨ls, e _ _ b1, b2⟩, S.ne, S.n1, S.n2, S.t0⟩
/-- the state alone was changed -/
def Kp (p l : Addr) (H H' : Hp) : Prop := ∀ b o, H b = some o → b ≠ p → b ≠ l → H' b = some o
theorem Kp.trans {H1 H2 H3 : Hp} (a : Kp p l H1 H2) (b : Kp p l H2 H3) : Kp p l H1 H3 := fun x o e n1 n2 => b x o (a x o e n1 n2) n1 n2
theorem Kp.of (e : Same H H') : Kp p l H H' := fun x o h _ _ => e x o h
theorem Kp.fr {K : PySem.W.Frag} {v : V} {q : F} (k : Kp p l H H') (S : Sta H p c l n t) (h : Fr K H v q) : Fr K H' v q := by
  obtain ⟨a, rfl, s⟩ := h
  obtain ⟨ls, b1, _⟩ := S.ls
  refine ⟨a, rfl, ?_⟩
  rcases s with (s | ⟨o, s⟩) | s
  · exact .inl (.inl (k a _ s (ne_of s S.d (by intro z; cases z)) (ne_of s b1 (by intro z; cases z))))
  · exact .inl (.inr ⟨o, k a _ s (ne_of s S.d (by intro z; cases z)) (ne_of s b1 (by intro z; cases z))⟩)
  · exact .inr s
end
/-- _law_draw(state, many) -/
def spDraw : Sp := fun vs H Q _ => ∃ (p c l : Addr) (n : Nat) (t m : Int), vs = [.ref p, .int m] ∧ Sta H p c l n t ∧ t ≤ 10000 ∧ 1 ≤ m ∧ m < 1000000 ∧
  ∀ (H' : Hp) (r : Int), 0 ≤ r → r < m → Sta H' p c l n (t + 1) → Kp p l H H' → Q (.int r) H'
section
variable {P : Program} {w : World} {K : PySem.W.Frag} {mg : Str → Option Value} {base : Heap} {f : Addr} {fd : FuncData}
theorem scDraw : FnScope ["state", "many", "at", "place", "left", "number"] ["state", "many"] (defScope sDraw) := ⟨rfl, rfl, rfl, by decide +kernel, rfl, by decide +kernel, by decide +kernel⟩
theorem int_at {cs : List Int} {i : Nat} (h : i < cs.length) : ∃ z, cs[i]? = some z ∧ (cs.map V.int)[i]? = some (V.int z) := by
  refine ⟨cs[i], List.getElem?_eq_getElem h, ?_⟩
  rw [List.getElem?_map, List.getElem?_eq_getElem h]
  rfl
theorem ok_draw (F : Fun K "_law_draw" "_law_draw" sDraw f fd) (T : Blt mg) (C : Cal P w K mg base 1 "_law_mixed" spMixed) : FnOk P w K mg base CX0 2 f fd ["state", "many"] spDraw := by
  refine F.ok scDraw (fun vs H Q E h => ?_) (fun cdv A outer s H vs Q E hr h => ?_)
  · obtain ⟨p, c, l, n, t, m, rfl, _⟩ := h
    rfl
  · obtain ⟨p, c, l, n, t, m, rfl, S, ht, m1, m2, k⟩ := h
    have hu := hu_of hr
    refine ⟨_, pss_cons (ps_set (i := 2) scDraw.nd rfl (Or.inl rfl) (pe_dget hu (pv 0) pe_str (fun _ _ => rfl)))
      (pss_cons (ps_dput hu (pv 0) pe_str (pe_op op_add (pv 2) pe_int) rfl)
      (pss_cons (ps_set (i := 3) scDraw.nd rfl (Or.inl rfl) (pe_op op_mod (pe_callTy call_int1 (by rfl) T.int (by decide +kernel) (pa_cons (pv 2) pa_nil)) (pe_callB call_len_seq (by rfl) T.len PySem.boot_len (pa_cons (pe_dget hu (pv 0) pe_str (fun _ _ => rfl)) pa_nil))))
      (pss_cons (ps_set (i := 4) scDraw.nd rfl (Or.inl rfl) (pe_ix ix_list (pe_dget hu (pv 0) pe_str (fun _ _ => rfl)) (pv 3) (fun _ _ => rfl)))
      (pss_cons (ps_if (pt_cmpR op_gt (pv 4) pe_int (nomark _))
        (pss_cons (ps_asg (pe_op op_fdivN (pv 4) (pv 1)) (pg_sub (pe_dget hu (pv 0) pe_str (fun _ _ => rfl)) (pv 3) set_list))
          (pss_one (ps_ret (pe_op op_mod (pe_callTy call_int1 (by rfl) T.int (by decide +kernel) (pa_cons (pv 4) pa_nil)) (pv 1))))) pss_nil)
      (pss_cons (ps_set (i := 5) scDraw.nd rfl (Or.inl rfl) (pe_n C hr (by decide) (by rfl) (pa_cons (pe_n C hr (by decide) (by rfl) (pa_cons (pe_ix ix_list (pe_dget hu (pv 0) pe_str (fun _ _ => rfl)) (pv 3) (fun _ _ => rfl)) (pa_cons (pv 2) pa_nil))) (pa_cons (pe_op op_add pe_int (pv 2)) pa_nil))))
      (pss_one (ps_ret (pe_op op_mod (pe_op op_fdiv (pe_callTy call_int1 (by rfl) T.int (by decide +kernel) (pa_cons (pe_op op_add (pe_op op_mul (pv 5) pe_int) (pe_n C hr (by decide) (by rfl) (pa_cons (pv 5) (pa_cons (pe_op op_add pe_int (pv 2)) pa_nil)))) pa_nil)) pe_int) (pv 1))))))))), ?_⟩
    refine ⟨_, rfl, p, _, rfl, S.gAt, ?_⟩
    have S1 : Sta (upd H p (.dK (dS c l (t + 1)))) p c l n (t + 1) := by
      obtain ⟨cs, a1, a2⟩ := S.cs
      obtain ⟨ls, b1, b2, b3⟩ := S.ls
      exact ⟨upd_same, ⟨cs, by rw [upd_ne S.pc.symm]; exact a1, a2⟩, ⟨ls, by rw [upd_ne S.pl.symm]; exact b1, b2, b3⟩, S.ne, S.n1, S.n2, by have := S.t0; omega⟩
    have k1 : Kp p l H (upd H p (.dK (dS c l (t + 1)))) := fun b o e n1 _ => (upd_ne n1).trans e
    refine ⟨_, rfl, _, _, rfl, rfl, _, rfl, p, _, rfl, DPut.k (k := Sum.inr "at") S.d (by show 4 < sizeLine; decide), ?_⟩
    rw [put_at]
    generalize upd H p (.dK (dS c l (t + 1))) = H1 at S1 k1 ⊢
    obtain ⟨cs, a1, a2⟩ := S1.cs
    obtain ⟨ls, b1, b2, b3⟩ := S1.ls
    have n1 := S.n1
    have t0 := S.t0
    have r0 := Int.emod_nonneg t (b := (n : Int)) (by omega)
    have r1 := Int.emod_lt_of_pos t (b := (n : Int)) (by omega)
    obtain ⟨i, hi⟩ : ∃ i : Nat, t % (n : Int) = (i : Int) := ⟨(t % (n : Int)).toNat, by omega⟩
    have hin : i < n := by omega
    obtain ⟨zc, c1, c2⟩ := int_at (cs := cs) (i := i) (by omega)
    obtain ⟨zl, l1, l2⟩ := int_at (cs := ls) (i := i) (by omega)
    have zl0 : 0 ≤ zl := b3 zl (List.mem_of_getElem? l1)
    refine ⟨_, rfl, .inl ⟨t, rfl, _, rfl, p, _, rfl, S1.gCells, c, _, rfl, .inl (SqL.of a1), _, _, rfl, rfl, ?_, ?_⟩⟩
    · show (0 : Int) < ((cs.map V.int).length : Nat)
      rw [List.length_map, a2]
      omega
    · rw [List.length_map, a2]
      have l3 : atI (ls.map V.int) (t % (n : Int)) = some (V.int zl) := by
        rw [hi]
        exact atI_nat l2
      have c3 : atI (cs.map V.int) (t % (n : Int)) = some (V.int zc) := by
        rw [hi]
        exact atI_nat c2
      have hix : ixN (ls.map V.int).length (t % (n : Int)) = some i := by
        rw [hi, List.length_map, b2]
        unfold ixN
        rw [if_pos (by omega), if_pos (by omega)]
        simp
      refine ⟨_, rfl, p, _, rfl, S1.gLefts, _, rfl, l, _, _, _, rfl, rfl, SqL.of b1, l3, ?_⟩
      refine ⟨_, rfl, _, _, rfl, rfl, _, rfl, ?_⟩
      refine ite2 (fun q => ?_) (fun q => ?_)
      · refine ⟨_, rfl, _, rfl, _, _, rfl, rfl, ⟨by omega, by omega⟩, ?_⟩
        refine ⟨_, rfl, p, _, rfl, S1.gLefts, _, rfl, l, _, _, i, rfl, rfl, b1, hix, ?_⟩
        refine ⟨_, rfl, .inl ⟨zl, rfl, _, rfl, _, _, rfl, rfl, (by show (0 : Int) < m; omega), ?_⟩⟩
        refine k _ _ (Int.emod_nonneg _ (by omega)) (Int.emod_lt_of_pos _ (by omega)) ⟨?_, ⟨cs, ?_, a2⟩, ⟨ls.set i (zl.fdiv m), ?_, ?_, ?_⟩, S1.ne, S1.n1, S1.n2, S1.t0⟩ (k1.trans (fun b o e _ n2 => (upd_ne n2).trans e))
        · rw [upd_ne S1.pl]
          exact S1.d
        · rw [upd_ne S1.ne]
          exact a1
        · rw [upd_same, List.map_set]
        · rw [List.length_set, b2]
        · intro z hz
          rcases List.mem_or_eq_of_mem_set hz with h | h
          · exact b3 z h
          · rw [h, Int.fdiv_eq_ediv_of_nonneg _ (by omega)]
            exact Int.ediv_nonneg zl0 (by omega)
      · refine ⟨_, rfl, p, _, rfl, S1.gCells, _, rfl, c, _, _, _, rfl, rfl, SqL.of a1, c3, _, rfl, zc, t, rfl, t0, by omega, fun x x0 x1 => ?_⟩
        refine ⟨_, rfl, _, _, rfl, rfl, x, 40 + t, rfl, by omega, by omega, fun y y0 y1 => ?_⟩
        refine ⟨_, rfl, _, _, rfl, rfl, .inl ⟨by omega, by omega⟩, _, rfl, _, rfl, _, _, rfl, rfl, y, 7 + t, rfl, by omega, by omega, fun z z0 z1 => ?_⟩
        refine ⟨_, _, rfl, rfl, .inl ⟨_, rfl, _, _, rfl, rfl, ⟨by decide, by decide⟩, _, rfl, _, _, rfl, rfl, (by show (0 : Int) < m; omega), ?_⟩⟩
        exact k _ _ (Int.emod_nonneg _ (by omega)) (Int.emod_lt_of_pos _ (by omega)) S1 k1
end
end Rs


set_option Elab.async false
set_option linter.all false
set_option maxRecDepth 100000
set_option maxHeartbeats 400000
namespace Rs
open PySem L2 Bs Fq
/-- _law_begin(script) -/
def spBegin (K : PySem.W.Frag) : Sp := fun vs H Q _ => ∃ (a : Addr) (ns : List Int), vs = [.ref a] ∧ SqL K H a (ns.map V.int) ∧ ns.length ≤ 63 ∧
  ∀ (H' : Hp) (p c l : Addr) (n : Nat), Same H H' → H p = none → H l = none → Sta H' p c l n 0 → Q (.ref p) H'
/-- _law_of(state, some) -/
def spOf (K : PySem.W.Frag) : Sp := fun vs H Q _ => ∃ (p c l b : Addr) (n : Nat) (t : Int) (xs : List V), vs = [.ref p, .ref b] ∧ Sta H p c l n t ∧ t ≤ 10000 ∧ SqL K H b xs ∧ 1 ≤ xs.length ∧ xs.length ≤ 1000 ∧ b ≠ l ∧
  ∀ (H' : Hp) (v : V), v ∈ xs → Sta H' p c l n (t + 1) → Kp p l H H' → Q v H'
/-- _law_small(state) -/
def spSmall : Sp := fun vs H Q _ => ∃ (p c l : Addr) (n : Nat) (t : Int), vs = [.ref p] ∧ Sta H p c l n t ∧ t ≤ 9000 ∧
  ∀ (H' : Hp) (b : Addr) (x y : Int), -6 ≤ x → x ≤ 6 → 1 ≤ y → y ≤ 3 → H' b = some (fr (red x y)) → Sta H' p c l n (t + 2) → Kp p l H H' → Q (.ref b) H'
section
variable {P : Program} {w : World} {K : PySem.W.Frag} {mg : Str → Option Value} {base : Heap} {f : Addr} {fd : FuncData}
theorem scBegin : FnScope ["script", "cells", "cell"] ["script"] (defScope sBegin) := ⟨rfl, rfl, rfl, by decide +kernel, rfl, by decide +kernel, by decide +kernel⟩
theorem dp_ints {K : PySem.W.Frag} {H : Hp} : ∀ ns : List Int, DpAll K H (ns.map V.int) (ns.map PyData.int)
  | [] => .nil
  | n :: ns => .cons (.int n) (dp_ints ns)
def left (z : Int) : Int := if z ≥ 10 ^ 18 then z else 0
theorem left_nonneg (z : Int) : 0 ≤ left z := by
  unfold left
  split
  · have : (0 : Int) ≤ 10 ^ 18 := by decide
    omega
  · omega
theorem can_ints : ∀ ns : List Int, PyData.canLayAll0 (ns.map PyData.int) = true
  | [] => by simp [PyData.canLayAll0]
  | n :: ns => by
    have := can_ints ns
    simp [PyData.canLayAll0, PyData.canLay0, this]
theorem dep_ints : ∀ ns : List Int, PyData.depthAll (ns.map PyData.int) ≤ 1
  | [] => by simp [PyData.depthAll]
  | n :: ns => by
    have := dep_ints ns
    simp only [List.map_cons, PyData.depthAll, PyData.depth]
    omega
theorem shaped_ints (ns : List Int) : SeqAt.shaped (.list (ns.map PyData.int)) = true := by
  unfold SeqAt.shaped
  rw [Bool.and_eq_true_iff]
  refine ⟨?_, decide_eq_true ?_⟩
  · simpa [PyData.canLay0] using can_ints ns
  · have := dep_ints ns
    simp only [PyData.depth]
    omega
theorem some_int {cs : List Int} {i : Nat} {x : V} (h : (cs.map V.int)[i]? = some x) : ∃ z, cs[i]? = some z ∧ x = V.int z := by
  rw [List.getElem?_map] at h
  cases e : cs[i]? with
  | none =>
    rw [e] at h
    cases h
  | some z =>
    rw [e] at h
    exact ⟨z, rfl, (Option.some.inj h).symm⟩
theorem take_one {α : Type} {l : List α} {i : Nat} {x : α} (h : l[i]? = some x) : l.take (i + 1) = l.take i ++ [x] := by
  rw [List.take_add_one, h]
  rfl
theorem ok_begin (F : Fun K "_law_begin" "_law_begin" sBegin f fd) (T : Blt mg) : FnOk P w K mg base CX0 2 f fd ["script"] (spBegin K) := by
  refine F.ok scBegin (fun vs H Q E h => ?_) (fun cdv A outer s H vs Q E hr h => ?_)
  · obtain ⟨a, ns, rfl, _⟩ := h
    rfl
  · obtain ⟨a, ns, rfl, hS, hl, k⟩ := h
    refine ⟨_, C8.pss_cut (ps_set (i := 1) scBegin.nd rfl (Or.inl rfl) (pe_ifExp (pt_cmpR (op_neD hr.units) (pv 0) (pe_lst pa_nil) (nomark _)) (pe_callTy call_list_of (by rfl) T.list (by decide +kernel) (pa_cons (pv 0) pa_nil)) (pe_lst (pa_cons pe_int pa_nil))))
      (pss_one (ps_ret (pe_disp (pps_cons pe_str (pv 1) (pps_cons pe_str (pe_lc (own := [("cell", 2)]) (g := gName 2) (tt := tYes) rfl scBegin.nd (pi_list (pv 1)) (blkOk_by (N := ["script", "cells", "cell"]) (sc := defScope sBegin) (by decide +kernel))
          (fun _ _ _ _ _ => pg_name (i := 2) scBegin.nd rfl (Or.inl rfl)) (fun _ _ _ _ _ => pts_nil) (fun _ _ _ _ _ => pe_ifExp (pt_cmpR op_ge (pv 2) (pe_op op_pow pe_int pe_int) (nomark _)) (pv 2) pe_int))
        (pps_cons pe_str pe_int (pps_cons pe_str pe_int pps_nil)))) (by rfl) (by rfl) (fun z => by cases z) (by decide)))), ?_⟩
    refine ⟨fun σ H1 => ∃ (c : Addr) (cs : List Int), Same H H1 ∧ H1 c = some (.lst (cs.map V.int)) ∧ 1 ≤ cs.length ∧ cs.length ≤ 63 ∧ σ = [some (V.ref a), some (V.ref c), none], ?_, ?_⟩
    · refine ⟨_, rfl, (by show 0 ≤ sizeLine; decide), fun p0 hp0 => ?_⟩
      have s0 : Same H (upd H p0 (.lst [])) := same_new hp0
      refine ⟨.list (ns.map PyData.int), .list [], .lst (s0.seq hS) (dp_ints ns), .lst (SqL.of upd_same) .nil, ?_, rfl, _, rfl, ?_⟩
      · exact shaped_ints ns
      · have e : PyData.eqv (.list (ns.map PyData.int)) (.list []) = ns.isEmpty := by
          cases ns <;> rfl
        show if (!PyData.eqv (.list (ns.map PyData.int)) (.list [])) = true then _ else _
        rw [e]
        cases hn : ns with
        | nil =>
          refine iteF ⟨(by show 1 ≤ sizeLine; decide), fun p1 hp1 => ?_⟩
          exact ⟨p1, [0], s0.trans (same_new hp1), upd_same, Nat.le_refl _, (by show 1 ≤ 63; decide), rfl⟩
        | cons n ns' =>
          refine iteT ⟨_, rfl, a, _, rfl, .inl (s0.seq hS), fun p1 hp1 => ?_⟩
          exact ⟨p1, ns, s0.trans (same_new hp1), upd_same, by rw [hn]; exact Nat.succ_le_succ (Nat.zero_le _), hl, rfl⟩
    · rintro σ H1 ⟨c, cs, s1, hc, l1, l2, rfl⟩
      intro p hp
      have sp : Same H1 (upd H1 p (.dK [])) := same_new hp
      refine ⟨_, rfl, ?_⟩
      have np : H1 p = none := hp
      have hpc : c ≠ p := ne_of_none hc np
      refine ⟨_, rfl, c, rfl, ⟨_, SqL.of (sp _ _ hc)⟩, fun D hD => lc_list (K := K) (a := c) (xs := cs.map V.int)
        (fun i H2 => Same (upd H1 p (.dK [])) H2 ∧ H2 D = some (.lst ((cs.take i).map (fun z => V.int (left z))))) ⟨same_new hD, upd_same⟩ (fun i H2 _ z => SqL.of (z.1 _ _ (sp _ _ hc))) ?_ ?_⟩
      · rintro i x H2 hx ⟨s2, hD2⟩
        obtain ⟨z, hz, rfl⟩ := some_int hx
        have ln : (cs.take i).length ≤ 63 := by rw [List.length_take]; omega
        have fin : ∀ u : Int, u = left z → ∃ acc, H2 D = some (.lst acc) ∧ acc.length < sizeLine ∧ (Same (upd H1 p (.dK [])) (upd H2 D (.lst (acc ++ [V.int u]))) ∧ upd H2 D (.lst (acc ++ [V.int u])) D = some (.lst ((cs.take (i + 1)).map (fun z => V.int (left z))))) := by
          rintro u rfl
          refine ⟨_, hD2, by rw [List.length_map]; exact small1000 (by omega), fun b o e => ?_, ?_⟩
          · have : b ≠ D := ne_of_none e hD
            exact (upd_ne this).trans (s2 b o e)
          · rw [upd_same, take_one hz, List.map_append]
            rfl
        refine ⟨rfl, ?_⟩
        refine iteT (B := Same (upd H1 p (.dK [])) H2 ∧ H2 D = some (.lst ((cs.take (i + 1)).map (fun z => V.int (left z))))) ?_
        refine ⟨_, rfl, _, _, rfl, rfl, ⟨by decide, by decide, by decide⟩, _, _, rfl, rfl, _, rfl, ?_⟩
        refine ite2 (fun q => ⟨_, rfl, ?_⟩) (fun q => ?_)
        · have q' : z ≥ 10 ^ 18 := of_decide_eq_true q
          exact fin z (show z = left z from (if_pos q').symm)
        · have q' : ¬ z ≥ 10 ^ 18 := fun w => q (decide_eq_true w)
          exact fin 0 (show 0 = left z from (if_neg q').symm)
      · rintro H2 ⟨s2, hD2⟩
        have hpD : p ≠ D := by
          intro z
          rw [← z, upd_same] at hD
          cases hD
        rw [List.length_map, List.take_length] at hD2
        refine ⟨s2 _ _ upd_same, dS c D 0, rfl, (by show 4 ≤ 15; decide), ?_⟩
        have hDn : H1 D = none := by
          rw [upd_ne hpD.symm] at hD
          exact hD
        refine k _ p c D cs.length ?_ ?_ ?_ ⟨upd_same, ⟨cs, ?_, rfl⟩, ⟨cs.map left, ?_, by rw [List.length_map], ?_⟩, ne_of_none hc hDn, l1, l2, Int.le_refl _⟩
        · intro b o e
          have nb : b ≠ p := ne_of_none (s1 b o e) np
          rw [upd_ne nb]
          exact s2 b o (sp b o (s1 b o e))
        · exact s1.free np
        · exact s1.free hDn
        · rw [upd_ne hpc]
          exact s2 _ _ (sp _ _ hc)
        · rw [upd_ne hpD.symm, hD2, List.map_map]
          rfl
        · intro z hz
          obtain ⟨y, _, rfl⟩ := List.mem_map.mp hz
          exact left_nonneg y
end
end Rs


set_option Elab.async false
set_option linter.all false
set_option maxRecDepth 100000
set_option maxHeartbeats 400000
namespace Rs
open PySem L2 Bs Fq
theorem Kp.lst {K : PySem.W.Frag} {H H' : Hp} {p c l b : Addr} {n : Nat} {t : Int} {xs : List V} (k : Kp p l H H') (S : Sta H p c l n t) (h : SqL K H b xs) (nb : b ≠ l) : SqL K H' b xs := by
  rcases h with (s | ⟨o, s⟩) | s
  · exact .inl (.inl (k b _ s (ne_of s S.d (by intro z; cases z)) nb))
  · exact .inl (.inr ⟨o, k b _ s (ne_of s S.d (by intro z; cases z)) nb⟩)
  · exact .inr s
section
variable {P : Program} {w : World} {K : PySem.W.Frag} {mg : Str → Option Value} {base : Heap} {f : Addr} {fd : FuncData}
end
end Rs


set_option linter.all false
namespace Fq
/-- worth a divided by b -/
def Vl (q : F) (a b : Int) : Prop := q.1 * b = a * q.2
theorem vl_red {a b : Int} (h : 0 < b) : Vl (red a b) a b := by
  have hg := gI_pos (a := a) (b := b) (by omega)
  obtain ⟨x, hx⟩ := gI_dvd_l a b
  obtain ⟨y, hy⟩ := gI_dvd_r a b
  have e1 : a / gI a b = x := Int.ediv_eq_of_eq_mul_right (by omega) hx
  have e2 : b / gI a b = y := Int.ediv_eq_of_eq_mul_right (by omega) hy
  show (a / gI a b) * b = a * (b / gI a b)
  rw [e1, e2]
  generalize gI a b = g at *
  subst hx hy
  grind
theorem mul_cancel {a b m : Int} (hm : m ≠ 0) (h : a * m = b * m) : a = b := Int.eq_of_mul_eq_mul_right hm h
theorem vl_add {q r : F} {a b c d : Int} (hq : 0 < q.2) (hr : 0 < r.2) (h1 : Vl q a b) (h2 : Vl r c d) : Vl (add q r) (a * d + c * b) (b * d) := by
  have hm : 0 < q.2 * r.2 := Int.mul_pos hq hr
  have v := vl_red (a := q.1 * r.2 + r.1 * q.2) hm
  unfold Vl at *
  show (red _ _).1 * _ = _ * (red _ _).2
  generalize red (q.1 * r.2 + r.1 * q.2) (q.2 * r.2) = s at *
  refine mul_cancel (m := q.2 * r.2) (by omega) ?_
  generalize q.1 = q1 at *; generalize q.2 = q2 at *; generalize r.1 = r1 at *; generalize r.2 = r2 at *; generalize s.1 = s1 at *; generalize s.2 = s2 at *
  have e : s1 * (b * d) * (q2 * r2) = (s1 * (q2 * r2)) * (b * d) := by grind
  rw [e, v]
  have e2 : (q1 * r2 + r1 * q2) * s2 * (b * d) = s2 * ((q1 * b) * r2 * d + (r1 * d) * q2 * b) := by grind
  rw [e2, h1, h2]
  grind
theorem vl_mul {q r : F} {a b c d : Int} (hq : 0 < q.2) (hr : 0 < r.2) (h1 : Vl q a b) (h2 : Vl r c d) : Vl (mul q r) (a * c) (b * d) := by
  have hm : 0 < q.2 * r.2 := Int.mul_pos hq hr
  have v := vl_red (a := q.1 * r.1) hm
  unfold Vl at *
  show (red _ _).1 * _ = _ * (red _ _).2
  generalize red (q.1 * r.1) (q.2 * r.2) = s at *
  refine mul_cancel (m := q.2 * r.2) (by omega) ?_
  generalize q.1 = q1 at *; generalize q.2 = q2 at *; generalize r.1 = r1 at *; generalize r.2 = r2 at *; generalize s.1 = s1 at *; generalize s.2 = s2 at *
  have e : s1 * (b * d) * (q2 * r2) = (s1 * (q2 * r2)) * (b * d) := by grind
  rw [e, v]
  have e2 : (q1 * r1) * s2 * (b * d) = s2 * ((q1 * b) * (r1 * d)) := by grind
  rw [e2, h1, h2]
  grind
theorem vl_times {q : F} {a b : Int} (k : Int) (h : Vl q a b) : Vl q (a * k) (b * k) := by
  unfold Vl at *
  have : q.1 * (b * k) = (q.1 * b) * k := by grind
  rw [this, h]
  grind
theorem cop_dvd {x y z : Int} (h : Nat.gcd x.natAbs y.natAbs = 1) (d : y ∣ x * z) : y ∣ z := by
  rw [← Int.natAbs_dvd_natAbs] at *
  rw [Int.natAbs_mul] at d
  exact Nat.Coprime.dvd_of_dvd_mul_left (Nat.Coprime.symm h) d
theorem vl_dvd {q : F} {a b : Int} (o : Ok q) (h : Vl q a b) : q.2 ∣ b := cop_dvd o.2 ⟨a, by unfold Vl at h; rw [h, Int.mul_comm]⟩
theorem vl_uniq {q r : F} {a b : Int} (o : Ok q) (o' : Ok r) (hb : b ≠ 0) (h1 : Vl q a b) (h2 : Vl r a b) : q = r := by
  have e : q.1 * r.2 = r.1 * q.2 := by
    unfold Vl at h1 h2
    refine mul_cancel hb ?_
    have : q.1 * r.2 * b = (q.1 * b) * r.2 := by grind
    rw [this, h1]
    have : r.1 * q.2 * b = (r.1 * b) * q.2 := by grind
    rw [this, h2]
    grind
  have d1 : q.2 ∣ r.2 := cop_dvd o.2 ⟨r.1, by rw [e, Int.mul_comm]⟩
  have d2 : r.2 ∣ q.2 := cop_dvd o'.2 ⟨q.1, by rw [← e, Int.mul_comm]⟩
  have p1 := o.1
  have p2 := o'.1
  have e2 : q.2 = r.2 := Int.le_antisymm (Int.le_of_dvd p2 d1) (Int.le_of_dvd p1 d2)
  have e1 : q.1 = r.1 := by
    rw [e2] at e
    exact mul_cancel (by omega) e
  exact Prod.ext e1 e2
theorem ok_add' {q r : F} (hq : 0 < q.2) (hr : 0 < r.2) : Ok (add q r) := red_ok (Int.mul_pos hq hr)
theorem ok_sub' {q r : F} (hq : 0 < q.2) (hr : 0 < r.2) : Ok (sub q r) := red_ok (Int.mul_pos hq hr)
theorem ok_mul' {q r : F} (hq : 0 < q.2) (hr : 0 < r.2) : Ok (mul q r) := red_ok (Int.mul_pos hq hr)
theorem ok01 : Ok (0, 1) := ⟨by decide, by decide⟩
theorem vl_self (q : F) : Vl q q.1 q.2 := rfl
theorem add_zero : add (0, 1) (0, 1) = (0, 1) := by decide
theorem sub_zero : sub (0, 1) (0, 1) = (0, 1) := by decide
/-- the bottom of a sum where both divide one number -/
theorem dvd_add {q r : F} {D : Int} (o : Ok q) (o' : Ok r) (hD : D ≠ 0) (h1 : q.2 ∣ D) (h2 : r.2 ∣ D) : (add q r).2 ∣ D := by
  obtain ⟨x, hx⟩ := h1
  obtain ⟨y, hy⟩ := h2
  have v1 : Vl q (q.1 * x) D := by unfold Vl; rw [hx]; grind
  have v2 : Vl r (r.1 * y) D := by unfold Vl; rw [hy]; grind
  have v := vl_add o.1 o'.1 v1 v2
  have v' : Vl (add q r) (q.1 * x + r.1 * y) D := by
    unfold Vl at *
    refine mul_cancel hD ?_
    rw [Int.mul_assoc, v]
    grind
  exact vl_dvd (ok_add' o.1 o'.1) v'
theorem dvd_mul {q r : F} {D E : Int} (o : Ok q) (o' : Ok r) (h1 : q.2 ∣ D) (h2 : r.2 ∣ E) : (mul q r).2 ∣ D * E :=
  Int.dvd_trans (vl_dvd (ok_mul' o.1 o'.1) (vl_mul o.1 o'.1 (vl_self q) (vl_self r))) (Int.mul_dvd_mul h1 h2)
end Fq
namespace Rs
open Fq
/-- what it has at a power -/
def co (qs : List F) (k : Nat) : F := qs.getD k (0, 1)
/-- noughts at the end left out -/
def trimN (qs : List F) : Nat → List F
  | 0 => []
  | n + 1 => if co qs n = (0, 1) then trimN qs n else qs.take (n + 1)
def trim (qs : List F) : List F := trimN qs qs.length
theorem trimN_is (qs : List F) : ∀ n, n ≤ qs.length → ∃ k, k ≤ n ∧ trimN qs n = qs.take k
  | 0, _ => ⟨0, Nat.le_refl _, by simp [trimN]⟩
  | n + 1, h => by
    unfold trimN
    split
    · obtain ⟨k, h1, h2⟩ := trimN_is qs n (by omega)
      exact ⟨k, by omega, h2⟩
    · exact ⟨n + 1, Nat.le_refl _, rfl⟩
theorem co_get {qs : List F} {k : Nat} {q : F} (h : qs[k]? = some q) : co qs k = q := by
  unfold co
  rw [List.getD_eq_getElem?_getD, h]
  rfl
theorem co_lt {qs : List F} {k : Nat} (h : k < qs.length) : qs[k]? = some (co qs k) := by
  rw [List.getElem?_eq_getElem h, co_get (List.getElem?_eq_getElem h)]
theorem co_ge {qs : List F} {k : Nat} (h : qs.length ≤ k) : co qs k = (0, 1) := by
  unfold co
  rw [List.getD_eq_getElem?_getD, List.getElem?_eq_none h]
  rfl
theorem co_mem {qs : List F} {k : Nat} (h : k < qs.length) : co qs k ∈ qs := List.mem_of_getElem? (co_lt h)
theorem co_all {P : F → Prop} {qs : List F} (h : ∀ q ∈ qs, P q) (h0 : P (0, 1)) (k : Nat) : P (co qs k) := by
  by_cases c : k < qs.length
  · exact h _ (co_mem c)
  · rw [co_ge (by omega)]
    exact h0
theorem co_snoc {ws : List F} {z : F} {k : Nat} (h : k < ws.length) : co (ws ++ [z]) k = co ws k := by
  refine co_get ?_
  rw [List.getElem?_append_left h, co_lt h]
theorem trimN_snoc {ws : List F} {z : F} : ∀ n, n ≤ ws.length → trimN (ws ++ [z]) n = trimN ws n
  | 0, _ => rfl
  | n + 1, h => by
    unfold trimN
    rw [co_snoc (by omega), trimN_snoc n (by omega), List.take_append_of_le_length h]
theorem trim_snoc (ws : List F) : trim (ws ++ [(0, 1)]) = trim ws := by
  unfold trim
  rw [List.length_append, List.length_singleton]
  show (if co (ws ++ [(0, 1)]) ws.length = (0, 1) then _ else _) = _
  rw [if_pos (co_get (by simp)), trimN_snoc _ (Nat.le_refl _)]
theorem trim_rep : ∀ n : Nat, trim (List.replicate n (0, 1)) = []
  | 0 => rfl
  | n + 1 => by
    rw [List.replicate_succ', trim_snoc, trim_rep n]
theorem trimN_nz (qs : List F) : ∀ n, n ≤ qs.length → trimN qs n = [] ∨ ∃ k, k < n ∧ trimN qs n = qs.take (k + 1) ∧ co qs k ≠ (0, 1)
  | 0, _ => .inl rfl
  | n + 1, h => by
    unfold trimN
    split
    · rcases trimN_nz qs n (by omega) with e | ⟨k, h1, h2, h3⟩
      · exact .inl e
      · exact .inr ⟨k, by omega, h2, h3⟩
    · rename_i c
      exact .inr ⟨n, by omega, rfl, c⟩
/-- a polynomial: the last one not nought -/
def Pn (qs : List F) : Prop := qs = [] ∨ co qs (qs.length - 1) ≠ (0, 1)
theorem trim_pn (qs : List F) : Pn (trim qs) := by
  rcases trimN_nz qs qs.length (Nat.le_refl _) with e | ⟨k, h1, h2, h3⟩
  · exact .inl e
  · right
    have l : (trim qs).length = k + 1 := by
      show (trimN _ _).length = _
      rw [h2, List.length_take]
      omega
    rw [l, Nat.add_sub_cancel]
    have : co (trim qs) k = co qs k := by
      refine co_get ?_
      show (trimN _ _)[k]? = _
      rw [h2, List.getElem?_take_of_lt (by omega), co_lt h1]
    rw [this]
    exact h3
theorem trim_mem {qs : List F} {q : F} (h : q ∈ trim qs) : q ∈ qs := by
  obtain ⟨k, _, e⟩ := trimN_is qs qs.length (Nat.le_refl _)
  rw [trim, e] at h
  exact List.mem_of_mem_take h
theorem trim_len (qs : List F) : (trim qs).length ≤ qs.length := by
  obtain ⟨k, h, e⟩ := trimN_is qs qs.length (Nat.le_refl _)
  rw [trim, e, List.length_take]
  omega
theorem trim_of {qs : List F} (h : Pn qs) : trim qs = qs := by
  unfold trim
  rcases h with rfl | h
  · rfl
  · cases e : qs.length with
    | zero => rw [List.eq_nil_of_length_eq_zero e]; rfl
    | succ n =>
      rw [e, Nat.add_sub_cancel] at h
      unfold trimN
      rw [if_neg h, ← e, List.take_length]
/-- power by power -/
def byPower (op : F → F → F) (qs rs : List F) (n : Nat) : List F := (List.range n).map fun k => op (co qs k) (co rs k)
theorem byPower_succ (op : F → F → F) (qs rs : List F) (n : Nat) : byPower op qs rs (n + 1) = byPower op qs rs n ++ [op (co qs n) (co rs n)] := by
  rw [byPower, List.range_succ, List.map_append]
  rfl
theorem byPower_len (op : F → F → F) (qs rs : List F) (n : Nat) : (byPower op qs rs n).length = n := by
  rw [byPower, List.length_map, List.length_range]
theorem byPower_trim {op : F → F → F} (h0 : op (0, 1) (0, 1) = (0, 1)) {qs rs : List F} {m : Nat} (h1 : qs.length ≤ m) (h2 : rs.length ≤ m) : ∀ d, trim (byPower op qs rs (m + d)) = trim (byPower op qs rs m)
  | 0 => rfl
  | d + 1 => by
    rw [← Nat.add_assoc, byPower_succ, co_ge (by omega), co_ge (by omega), h0, trim_snoc, byPower_trim h0 h1 h2 d]
theorem byPower_mem {op : F → F → F} {qs rs : List F} {n : Nat} {q : F} (h : q ∈ byPower op qs rs n) : ∃ k, q = op (co qs k) (co rs k) := by
  obtain ⟨k, _, rfl⟩ := List.mem_map.mp h
  exact ⟨k, rfl⟩
/-! ### products -/
def stepJ (w : List F) (i : Nat) (p : F) (rs : List F) : Nat → List F
  | 0 => w
  | j + 1 => (stepJ w i p rs j).set (i + j) (add (co (stepJ w i p rs j) (i + j)) (mul p (co rs j)))
def stepI (w : List F) (qs rs : List F) : Nat → List F
  | 0 => w
  | i + 1 => stepJ (stepI w qs rs i) i (co qs i) rs rs.length
def prodN (n : Nat) (qs rs : List F) : List F := stepI (List.replicate n (0, 1)) qs rs qs.length
theorem stepJ_len (w : List F) (i : Nat) (p : F) (rs : List F) : ∀ j, (stepJ w i p rs j).length = w.length
  | 0 => rfl
  | j + 1 => by
    show (List.set _ _ _).length = _
    rw [List.length_set, stepJ_len w i p rs j]
theorem stepI_len (w qs rs : List F) : ∀ i, (stepI w qs rs i).length = w.length
  | 0 => rfl
  | i + 1 => by
    show (stepJ _ _ _ _ _).length = _
    rw [stepJ_len, stepI_len w qs rs i]
theorem prodN_len (n : Nat) (qs rs : List F) : (prodN n qs rs).length = n := by
  rw [prodN, stepI_len, List.length_replicate]
theorem stepJ_snoc (w : List F) (z : F) (i : Nat) (p : F) (rs : List F) : ∀ j, i + j ≤ w.length → stepJ (w ++ [z]) i p rs j = stepJ w i p rs j ++ [z]
  | 0, _ => rfl
  | j + 1, h => by
    have l := stepJ_len w i p rs j
    show (stepJ (w ++ [z]) i p rs j).set _ _ = (stepJ w i p rs j).set _ _ ++ [z]
    rw [stepJ_snoc w z i p rs j (by omega), co_snoc (by omega), List.set_append_left _ _ (by omega)]
theorem stepI_snoc (w : List F) (z : F) (qs rs : List F) : ∀ i, i + rs.length ≤ w.length + 1 → stepI (w ++ [z]) qs rs i = stepI w qs rs i ++ [z]
  | 0, _ => rfl
  | i + 1, h => by
    have l := stepI_len w qs rs i
    show stepJ (stepI (w ++ [z]) qs rs i) _ _ _ _ = stepJ (stepI w qs rs i) _ _ _ _ ++ [z]
    rw [stepI_snoc w z qs rs i (by omega), stepJ_snoc _ _ _ _ _ _ (by omega)]
def prodL (qs rs : List F) : List F := if qs = [] ∨ rs = [] then [] else prodN (qs.length + rs.length - 1) qs rs
theorem prodN_nil (n : Nat) (qs : List F) : prodN n qs [] = List.replicate n (0, 1) := by
  have : ∀ (w : List F) i, stepI w qs [] i = w := fun w i => by
    induction i with
    | zero => rfl
    | succ i h =>
      show stepJ (stepI w qs [] i) i (co qs i) [] 0 = _
      exact h
  exact this _ _
theorem prod_all (qs rs : List F) : trim (prodN (qs.length + rs.length) qs rs) = trim (prodL qs rs) := by
  unfold prodL
  split
  · rename_i c
    rcases c with rfl | rfl
    · show trim (List.replicate _ _) = _
      rw [trim_rep]
      rfl
    · rw [prodN_nil, trim_rep]
      rfl
  · rename_i c
    have h1 : qs ≠ [] := fun z => c (.inl z)
    have h2 : rs ≠ [] := fun z => c (.inr z)
    have l1 := List.length_pos_iff.mpr h1
    have l2 := List.length_pos_iff.mpr h2
    obtain ⟨n, e⟩ : ∃ n, qs.length + rs.length = n + 1 := ⟨qs.length + rs.length - 1, by omega⟩
    rw [e, Nat.add_sub_cancel]
    unfold prodN
    rw [List.replicate_succ', stepI_snoc _ _ _ _ _ (by rw [List.length_replicate]; omega), trim_snoc]
/-- small fractions -/
structure S3 (q : F) : Prop where
  ok : Fq.Ok q
  b : q.2 ≤ 3
  a : q.1.natAbs < 16
theorem S3.zero : S3 (0, 1) := ⟨Fq.ok01, by decide, by decide⟩
theorem S3.cases {q : F} (h : S3 q) : q.2 = 1 ∨ q.2 = 2 ∨ q.2 = 3 := by
  have := h.ok.1
  have := h.b
  omega
theorem S3.d6 {q : F} (h : S3 q) : q.2 ∣ 6 := by
  rcases h.cases with e | e | e <;> rw [e] <;> decide
/-- what a product's parts may be, behind so many steps -/
structure Pb (k : Nat) (q : F) : Prop where
  ok : Fq.Ok q
  b : q.2 ∣ 36
  a : q.1.natAbs < 2 ^ (20 + 8 * k)
theorem Pb.zero : Pb 0 (0, 1) := ⟨Fq.ok01, by decide, by decide⟩
theorem Pb.mono {k m : Nat} {q : F} (h : Pb k q) (e : k ≤ m) : Pb m q := ⟨h.ok, h.b, Nat.lt_of_lt_of_le h.a (Nat.pow_le_pow_right (by decide) (by omega))⟩
theorem Pb.le {k : Nat} {q : F} (h : Pb k q) : q.2 ≤ 36 := Int.le_of_dvd (by decide) h.b
theorem red_top {a b : Int} (h : 0 < b) : (red a b).1.natAbs ≤ a.natAbs := by
  have hg := gI_pos (a := a) (b := b) (by omega)
  show (a / gI a b).natAbs ≤ a.natAbs
  obtain ⟨x, hx⟩ := gI_dvd_l a b
  have e1 : a / gI a b = x := Int.ediv_eq_of_eq_mul_right (by omega) hx
  rw [e1]
  have q1 : a.natAbs = (gI a b).natAbs * x.natAbs := by
    have := congrArg Int.natAbs hx
    rwa [Int.natAbs_mul] at this
  rw [q1]
  exact Nat.le_mul_of_pos_left _ (by omega)
theorem mul_s3 {p r : F} (hp : S3 p) (hr : S3 r) : Fq.Ok (mul p r) ∧ (mul p r).2 ∣ 36 ∧ (mul p r).1.natAbs < 256 := by
  refine ⟨ok_mul' hp.ok.1 hr.ok.1, dvd_mul hp.ok hr.ok hp.d6 hr.d6, ?_⟩
  refine Nat.lt_of_le_of_lt (red_top (Int.mul_pos hp.ok.1 hr.ok.1)) ?_
  rw [Int.natAbs_mul]
  have := hp.a
  have := hr.a
  have : p.1.natAbs * r.1.natAbs ≤ 15 * 15 := Nat.mul_le_mul (by omega) (by omega)
  omega
theorem Pb.step {k : Nat} {q p r : F} (h : Pb k q) (hp : S3 p) (hr : S3 r) : Pb (k + 1) (add q (mul p r)) := by
  obtain ⟨o, d, l⟩ := mul_s3 hp hr
  refine ⟨ok_add' h.ok.1 o.1, dvd_add h.ok o (by decide) h.b d, ?_⟩
  refine Nat.lt_of_le_of_lt (red_top (Int.mul_pos h.ok.1 o.1)) ?_
  have b1 := h.le
  have b2 : (mul p r).2 ≤ 36 := Int.le_of_dvd (by decide) d
  have p1 := h.ok.1
  have p2 := o.1
  have := Int.natAbs_add_le (q.1 * (mul p r).2) ((mul p r).1 * q.2)
  rw [Int.natAbs_mul, Int.natAbs_mul] at this
  have m1 : q.1.natAbs * (mul p r).2.natAbs ≤ q.1.natAbs * 36 := Nat.mul_le_mul (Nat.le_refl _) (by omega)
  have m2 : (mul p r).1.natAbs * q.2.natAbs ≤ 255 * 36 := Nat.mul_le_mul (by omega) (by omega)
  have e : 2 ^ (20 + 8 * (k + 1)) = 2 ^ (20 + 8 * k) * 256 := by
    rw [show 20 + 8 * (k + 1) = (20 + 8 * k) + 8 by omega, Nat.pow_add]
  have := h.a
  have : 2 ^ 20 ≤ 2 ^ (20 + 8 * k) := Nat.pow_le_pow_right (by decide) (by omega)
  have : (2 : Nat) ^ 20 = 1048576 := by decide
  rw [e]
  omega
theorem stepJ_pb {k i : Nat} {w : List F} {p : F} {rs : List F} (hw : ∀ q ∈ w, Pb k q) (hp : S3 p) (hr : ∀ r ∈ rs, S3 r) : ∀ j, i + j ≤ w.length → ∀ q ∈ stepJ w i p rs j, Pb (k + j) q
  | 0, _ => hw
  | j + 1, h => fun q hq => by
    have ih := stepJ_pb (i := i) hw hp hr j (by omega)
    have l := stepJ_len w i p rs j
    rcases List.mem_or_eq_of_mem_set hq with m | rfl
    · exact (ih q m).mono (by omega)
    · exact (ih _ (co_mem (by omega))).step hp (co_all hr S3.zero j)
theorem stepI_pb {k : Nat} {w qs rs : List F} (hw : ∀ q ∈ w, Pb k q) (hp : ∀ q ∈ qs, S3 q) (hr : ∀ r ∈ rs, S3 r) : ∀ i, i + rs.length ≤ w.length + 1 → ∀ q ∈ stepI w qs rs i, Pb (k + i * rs.length) q
  | 0, _ => by
    rw [Nat.zero_mul]
    exact hw
  | i + 1, h => fun q hq => by
    have ih := stepI_pb (qs := qs) hw hp hr i (by omega)
    have l := stepI_len w qs rs i
    have := stepJ_pb (i := i) ih (co_all hp S3.zero i) hr rs.length (by omega) q hq
    rw [Nat.succ_mul, ← Nat.add_assoc]
    exact this
theorem rep_pb (n : Nat) : ∀ q ∈ List.replicate n ((0, 1) : F), Pb 0 q := fun q h => by
  rw [(List.mem_replicate.mp h).2]
  exact Pb.zero
/-! ### worths -/
def hor (m : F) : List F → F
  | [] => (0, 1)
  | c :: cs => add (mul (hor m cs) m) c
def wat (m : F) : List Int → Int × Int
  | [] => (0, 1)
  | v :: vs => ((wat m vs).1 * m.1 + v * (wat m vs).2, (wat m vs).2 * m.2)
/-- each is g times the integer, divided by B -/
inductive HV (g B : Int) : List F → List Int → Prop
  | nil : HV g B [] []
  | cons {q : F} {qs : List F} {v : Int} {vs : List Int} : Fq.Ok q → Vl q (g * v) B → HV g B qs vs → HV g B (q :: qs) (v :: vs)
theorem HV.len {g B : Int} {qs : List F} {vs : List Int} (h : HV g B qs vs) : qs.length = vs.length := by
  induction h with
  | nil => rfl
  | cons _ _ _ ih => rw [List.length_cons, List.length_cons, ih]
theorem wat_pow (m : F) : ∀ vs : List Int, (wat m vs).2 = m.2 ^ vs.length
  | [] => by rw [List.length_nil, Int.pow_zero]; rfl
  | v :: vs => by
    show (wat m vs).2 * m.2 = _
    rw [wat_pow m vs, List.length_cons, Int.pow_succ]
theorem hor_vl {m : F} (hm : 0 < m.2) {g B : Int} (hB : 0 < B) {qs : List F} {vs : List Int} (h : HV g B qs vs) :
    Fq.Ok (hor m qs) ∧ Vl (hor m qs) (g * (wat m vs).1 * m.2) (B * (wat m vs).2) ∧ 0 < (wat m vs).2 := by
  induction h with
  | nil => exact ⟨ok01, by show (0 : Int) * _ = g * 0 * m.2 * 1; rw [Int.mul_zero, Int.zero_mul, Int.zero_mul, Int.zero_mul], Int.zero_lt_one⟩
  | cons o hv h ih =>
    rename_i q qs v vs
    obtain ⟨i1, i2, i3⟩ := ih
    have om := ok_mul' i1.1 hm
    refine ⟨ok_add' om.1 o.1, ?_, Int.mul_pos i3 hm⟩
    have t := vl_add om.1 o.1 (vl_mul i1.1 hm i2 (vl_self m)) hv
    show Vl (add (mul (hor m qs) m) q) (g * ((wat m vs).1 * m.1 + v * (wat m vs).2) * m.2) (B * ((wat m vs).2 * m.2))
    generalize add (mul (hor m qs) m) q = s at *
    generalize (wat m vs).1 = W at *
    generalize (wat m vs).2 = b at *
    unfold Vl at *
    refine mul_cancel (m := B) (by omega) ?_
    have e : s.1 * (B * (b * m.2)) * B = s.1 * (B * b * m.2 * B) := by grind
    rw [e, t]
    grind
theorem worth_eq {m : F} (hm : 0 < m.2) {g B : Int} (hB : 0 < B) {qs : List F} {vs : List Int} (h : HV g B qs vs) :
    mul (red g B) (red (wat m vs).1 (m.2 ^ (vs.length - 1))) = hor m qs := by
  obtain ⟨i1, i2, i3⟩ := hor_vl hm hB h
  have hp : 0 < m.2 ^ (vs.length - 1) := Int.pow_pos hm
  have o1 := red_ok (a := g) hB
  have o2 := red_ok (a := (wat m vs).1) hp
  have t := vl_mul o1.1 o2.1 (vl_red hB) (vl_red hp)
  refine vl_uniq (ok_mul' o1.1 o2.1) i1 (Int.ne_of_gt (Int.mul_pos hB i3)) ?_ i2
  cases vs with
  | nil =>
    have e : (wat m []).1 = 0 := rfl
    have e2 : (wat m []).2 = 1 := rfl
    rw [e] at t ⊢
    rw [e2]
    have e3 : m.2 ^ (([] : List Int).length - 1) = 1 := by rw [List.length_nil, Nat.zero_sub, Int.pow_zero]
    rw [e3] at t ⊢
    rw [Int.mul_zero] at t ⊢
    rw [Int.zero_mul]
    exact t
  | cons v vs =>
    have e : m.2 ^ ((v :: vs).length - 1) * m.2 = (wat m (v :: vs)).2 := by
      rw [wat_pow, List.length_cons, Nat.add_sub_cancel, Int.pow_succ]
    have t2 := vl_times m.2 t
    rw [Int.mul_assoc B, e] at t2
    exact t2
end Rs
namespace Rs
open Fq
theorem hv6 : ∀ {qs : List F}, (∀ q ∈ qs, S3 q) → HV 1 6 qs (qs.map fun q => q.1 * (6 / q.2))
  | [], _ => .nil
  | q :: qs, h => by
    have s := h q List.mem_cons_self
    refine .cons s.ok ?_ (hv6 fun r hr => h r (List.mem_cons_of_mem _ hr))
    show q.1 * 6 = 1 * (q.1 * (6 / q.2)) * q.2
    rw [Int.one_mul, Int.mul_assoc, Int.ediv_mul_cancel s.d6]
theorem pow3 {m : F} (hm : S3 m) (k : Nat) : 0 < m.2 ^ k ∧ m.2 ^ k ≤ 3 ^ k := by
  refine ⟨Int.pow_pos hm.ok.1, ?_⟩
  induction k with
  | zero => simp
  | succ k ih =>
    have := hm.ok.1
    have := hm.b
    rw [Int.pow_succ, Int.pow_succ]
    exact Int.mul_le_mul ih hm.b (by omega) (Int.le_of_lt (Int.pow_pos (by decide)))
theorem pow3_le {k : Nat} (h : k ≤ 6) : (3 : Int) ^ k ≤ 729 := by
  have : ∀ k, k < 7 → (3 : Int) ^ k ≤ 729 := by decide
  exact this k (by omega)
theorem hor_ok {m : F} (hm : S3 m) {qs : List F} (h : ∀ q ∈ qs, S3 q) : Fq.Ok (hor m qs) ∧ (hor m qs).2 ≤ 6 * 3 ^ qs.length := by
  obtain ⟨o, v, p⟩ := hor_vl hm.ok.1 (g := 1) (B := 6) (by decide) (hv6 h)
  refine ⟨o, ?_⟩
  have d := vl_dvd o v
  have hp : 0 < 6 * (wat m (qs.map fun q => q.1 * (6 / q.2))).2 := Int.mul_pos (by decide) p
  have l := Int.le_of_dvd hp d
  rw [wat_pow, List.length_map] at l
  have := (pow3 hm qs.length).2
  omega
theorem hor_num {m : F} (hm : S3 m) : ∀ {qs : List F}, (∀ q ∈ qs, S3 q) → qs.length ≤ 6 → (hor m qs).1.natAbs < 2 ^ (20 + 12 * qs.length)
  | [], _, _ => by
    show (0 : Nat) < _
    exact Nat.pow_pos (by decide)
  | c :: cs, h, l => by
    have hc := h c List.mem_cons_self
    have hs : ∀ q ∈ cs, S3 q := fun r hr => h r (List.mem_cons_of_mem _ hr)
    simp only [List.length_cons] at l ⊢
    have ih := hor_num hm hs (by omega)
    obtain ⟨o, d⟩ := hor_ok hm hs
    show (add (mul (hor m cs) m) c).1.natAbs < _
    generalize hor m cs = q at *
    have mp := Int.mul_pos o.1 hm.ok.1
    have om := ok_mul' o.1 hm.ok.1
    have t1 : (mul q m).1.natAbs ≤ q.1.natAbs * 16 := by
      refine Nat.le_trans (red_top mp) ?_
      rw [Int.natAbs_mul]
      exact Nat.mul_le_mul (Nat.le_refl _) (by have := hm.a; omega)
    have t2 : (mul q m).2 ≤ q.2 * m.2 := Int.le_of_dvd mp (vl_dvd om (vl_mul o.1 hm.ok.1 (vl_self q) (vl_self m)))
    have t3 : q.2 * m.2 ≤ 4374 * 3 := by
      have := pow3_le (k := cs.length) (by omega)
      exact Int.mul_le_mul (by omega) hm.b (by have := hm.ok.1; omega) (by decide)
    refine Nat.lt_of_le_of_lt (red_top (Int.mul_pos om.1 hc.ok.1)) ?_
    have p1 := om.1
    have p2 := hc.ok.1
    have b2 := hc.b
    have := Int.natAbs_add_le ((mul q m).1 * c.2) (c.1 * (mul q m).2)
    rw [Int.natAbs_mul, Int.natAbs_mul] at this
    have m1 : (mul q m).1.natAbs * c.2.natAbs ≤ (q.1.natAbs * 16) * 3 := Nat.mul_le_mul t1 (by omega)
    have m2 : c.1.natAbs * (mul q m).2.natAbs ≤ 15 * 13122 := Nat.mul_le_mul (by have := hc.a; omega) (by omega)
    have e : 2 ^ (20 + 12 * (cs.length + 1)) = 2 ^ (20 + 12 * cs.length) * 4096 := by
      rw [show 20 + 12 * (cs.length + 1) = (20 + 12 * cs.length) + 12 by omega, Nat.pow_add]
    have : 2 ^ 20 ≤ 2 ^ (20 + 12 * cs.length) := Nat.pow_le_pow_right (by decide) (by omega)
    have : (2 : Nat) ^ 20 = 1048576 := by decide
    rw [e]
    omega
/-! ### the common bottom, the common divisor -/
def botN (qs : List F) : Nat → Int
  | 0 => 1
  | i + 1 => botN qs i / gI (botN qs i) (co qs i).2 * (co qs i).2
def B6 (b : Int) : Prop := b = 1 ∨ b = 2 ∨ b = 3 ∨ b = 6
theorem bot_step {b d : Int} (hb : B6 b) (hd : d = 1 ∨ d = 2 ∨ d = 3) : B6 (b / gI b d * d) ∧ b ∣ b / gI b d * d ∧ d ∣ b / gI b d * d := by
  unfold B6
  rcases hb with rfl | rfl | rfl | rfl <;> rcases hd with rfl | rfl | rfl <;> decide
theorem botN_ok {qs : List F} (h : ∀ q ∈ qs, S3 q) : ∀ i, B6 (botN qs i) ∧ ∀ k, k < i → (co qs k).2 ∣ botN qs i
  | 0 => ⟨.inl rfl, fun k hk => absurd hk (by omega)⟩
  | i + 1 => by
    obtain ⟨a, b⟩ := botN_ok h i
    obtain ⟨c, d, e⟩ := bot_step a (co_all h S3.zero i).cases
    refine ⟨c, fun k hk => ?_⟩
    by_cases z : k = i
    · rw [z]
      exact e
    · exact Int.dvd_trans (b k (by omega)) d
theorem B6.pos {b : Int} (h : B6 b) : 0 < b ∧ b ≤ 6 := by unfold B6 at h; omega
def wholeL (B : Int) (qs : List F) : List Int := qs.map fun q => q.1 * (B / q.2)
def cmN (ws : List Int) : Nat → Int
  | 0 => 0
  | i + 1 => gI (cmN ws i) (ws.getD i 0)
theorem gI_lt {a b : Int} {n : Nat} (h1 : a.natAbs < n) (h2 : b.natAbs < n) : 0 ≤ gI a b ∧ (gI a b).natAbs < n := by
  unfold gI
  refine ⟨Int.natCast_nonneg _, ?_⟩
  rw [Int.natAbs_natCast]
  by_cases z : b.natAbs = 0
  · rw [z, Nat.gcd_zero_right]
    exact h1
  · exact Nat.lt_of_le_of_lt (Nat.gcd_le_right _ (by omega)) h2
theorem getD_mem {ws : List Int} {P : Int → Prop} (h : ∀ w ∈ ws, P w) (h0 : P 0) (k : Nat) : P (ws.getD k 0) := by
  rw [List.getD_eq_getElem?_getD]
  cases e : ws[k]? with
  | none => exact h0
  | some w => exact h w (List.mem_of_getElem? e)
theorem cmN_ok {ws : List Int} (h : ∀ w ∈ ws, w.natAbs < 128) : ∀ i, 0 ≤ cmN ws i ∧ (cmN ws i).natAbs < 128 ∧ ∀ k, k < i → cmN ws i ∣ ws.getD k 0
  | 0 => ⟨Int.le_refl _, (by show (0 : Int).natAbs < 128; decide), fun k hk => absurd hk (by omega)⟩
  | i + 1 => by
    obtain ⟨a, b, c⟩ := cmN_ok h i
    obtain ⟨d, e⟩ := gI_lt b (getD_mem (P := fun w => w.natAbs < 128) h (by decide) i)
    refine ⟨d, e, fun k hk => ?_⟩
    by_cases z : k = i
    · rw [z]
      exact gI_dvd_r _ _
    · exact Int.dvd_trans (gI_dvd_l _ _) (c k (by omega))
def gg (c : Int) : Int := if (1 : Int) > c then 1 else c
theorem gg_ok {ws : List Int} (h : ∀ w ∈ ws, w.natAbs < 128) : 0 < gg (cmN ws ws.length) ∧ (gg (cmN ws ws.length)).natAbs < 128 ∧ ∀ w ∈ ws, gg (cmN ws ws.length) ∣ w := by
  obtain ⟨a, b, c⟩ := cmN_ok h ws.length
  unfold gg
  split
  · exact ⟨by decide, by decide, fun w _ => Int.one_dvd w⟩
  · refine ⟨by omega, b, fun w hw => ?_⟩
    obtain ⟨k, hk, e⟩ := List.getElem_of_mem hw
    have := c k hk
    rw [List.getD_eq_getElem?_getD, List.getElem?_eq_getElem hk] at this
    rw [← e]
    exact this
theorem whole_lt {B : Int} {qs : List F} (hB : B6 B) (h : ∀ q ∈ qs, S3 q) (hd : ∀ q ∈ qs, q.2 ∣ B) : ∀ w ∈ wholeL B qs, w.natAbs < 128 := by
  intro w hw
  obtain ⟨q, hq, rfl⟩ := List.mem_map.mp hw
  have s := h q hq
  have l : B / q.2 ≤ 6 ∧ 0 ≤ B / q.2 := by
    have := hB.pos
    rcases s.cases with e | e | e <;> rw [e] <;> omega
  rw [Int.natAbs_mul]
  have := s.a
  have : q.1.natAbs * (B / q.2).natAbs ≤ 15 * 6 := Nat.mul_le_mul (by omega) (by omega)
  omega
theorem hv_of {B g : Int} : ∀ {qs : List F}, (∀ q ∈ qs, S3 q) → (∀ q ∈ qs, q.2 ∣ B) → (∀ w ∈ wholeL B qs, g ∣ w) → HV g B qs ((wholeL B qs).map (· / g))
  | [], _, _, _ => .nil
  | q :: qs, h, hd, hg => by
    refine .cons (h q List.mem_cons_self).ok ?_ (hv_of (fun r hr => h r (List.mem_cons_of_mem _ hr)) (fun r hr => hd r (List.mem_cons_of_mem _ hr)) (fun w hw => hg w (List.mem_cons_of_mem _ hw)))
    show q.1 * B = g * (q.1 * (B / q.2) / g) * q.2
    rw [Int.mul_ediv_cancel' (hg _ List.mem_cons_self), Int.mul_assoc, Int.ediv_mul_cancel (hd q List.mem_cons_self)]
theorem wat_num {m : F} (hm : S3 m) : ∀ {vs : List Int}, (∀ v ∈ vs, v.natAbs < 128) → vs.length ≤ 6 → (wat m vs).1.natAbs < 2 ^ (20 + 8 * vs.length) ∧ 0 < (wat m vs).2 ∧ (wat m vs).2 ≤ 729
  | [], _, _ => ⟨by show (0 : Nat) < _; exact Nat.pow_pos (by decide), Int.zero_lt_one, (by show (1 : Int) ≤ 729; decide)⟩
  | v :: vs, h, l => by
    have hv := h v List.mem_cons_self
    simp only [List.length_cons] at l
    obtain ⟨i1, i2, i3⟩ := wat_num hm (vs := vs) (fun r hr => h r (List.mem_cons_of_mem _ hr)) (by omega)
    refine ⟨?_, ?_, ?_⟩
    · show ((wat m vs).1 * m.1 + v * (wat m vs).2).natAbs < 2 ^ (20 + 8 * (vs.length + 1))
      have := Int.natAbs_add_le ((wat m vs).1 * m.1) (v * (wat m vs).2)
      rw [Int.natAbs_mul, Int.natAbs_mul] at this
      have m1 : (wat m vs).1.natAbs * m.1.natAbs ≤ (wat m vs).1.natAbs * 16 := Nat.mul_le_mul (Nat.le_refl _) (by have := hm.a; omega)
      have m2 : v.natAbs * (wat m vs).2.natAbs ≤ 127 * 729 := Nat.mul_le_mul (by omega) (by omega)
      have e : 2 ^ (20 + 8 * (vs.length + 1)) = 2 ^ (20 + 8 * vs.length) * 256 := by
        rw [show 20 + 8 * (vs.length + 1) = (20 + 8 * vs.length) + 8 by omega, Nat.pow_add]
      have : 2 ^ 20 ≤ 2 ^ (20 + 8 * vs.length) := Nat.pow_le_pow_right (by decide) (by omega)
      have : (2 : Nat) ^ 20 = 1048576 := by decide
      rw [e]
      omega
    · rw [wat_pow]
      exact (pow3 hm _).1
    · rw [wat_pow]
      have := (pow3 hm (v :: vs).length).2
      have := pow3_le (k := (v :: vs).length) (by rw [List.length_cons]; omega)
      omega
theorem div_lt {ws : List Int} {g : Int} (h : ∀ w ∈ ws, w.natAbs < 128) : ∀ v ∈ ws.map (· / g), v.natAbs < 128 := by
  intro v hv
  obtain ⟨w, hw, rfl⟩ := List.mem_map.mp hv
  exact Nat.lt_of_le_of_lt (Int.natAbs_ediv_le_natAbs w g) (h w hw)
end Rs


set_option Elab.async false
set_option linter.all false
set_option maxRecDepth 100000
set_option maxHeartbeats 2000000
/-! a lambda with one parameter that has an integer as its default, handed to a def that calls it without arguments -/
namespace LmD
open PySem PySem.Spec PyProof.Rows L2 LamX PySem.W
/-- the function's object: its default's tuple at T -/
abbrev fdD (qual : Str) (params : Arguments) (body : Expr) (scope : Scope) (cl : List (Str × Addr)) (T : Addr) (pm cdv ct : Value) : FuncData :=
  { kla_fn "<lambda>" qual params body scope cl pm cdv ct with defaults := .ref T }
abbrev obD (qual : Str) (params : Arguments) (body : Expr) (scope : Scope) (cl : List (Str × Addr)) (T : Addr) (pm cdv ct : Value) : Obj :=
  { cls := .type "function", data := .func (fdD qual params body scope cl T pm cdv ct) }
section
variable {M : Model} {A : Around} {E : Value → Shared → Prop} {s : Shared} {qual : Str} {params : Arguments} {body : Expr} {scope : Scope} {env : Env} {c P T : Addr} {ps : Array Value} {pos : Pos} {ln : Nat} {mg : Str → Option Value}
  {clos : List (Str × Addr)} {Q : Value → Shared → Prop}
theorem tailNew (hcl : closureFor scope env = pure clos) (g0 : env.globals = mainGlobals) (hg : s.heap.Ns mainGlobals mg) (hcode : env.code = .ref c) (C : CodeHd s.heap c P)
    (hP : s.heap.get? P = some (tabObj ps)) (ht : TriplesOk ps.toList) (hnf : codeAmong pos ps.toList = none) (hgP : mainGlobals ≠ P) (hb : s.heap.BuiltinsAt mg P)
    (h : ∀ c' ctv h' tk, Heap.ExtBut P s.heap h' → s.heap.objs.size ≤ c' → c' < h'.objs.size → h'.CodeRec (.ref c') qual →
      h'.get? P = some (tabObj (ps ++ #[rawInt pos.line, rawInt pos.col, .ref c'])) →
      Q (.ref h'.objs.size) { s with heap := h'.push (obD qual params body scope clos T ((mg "__name__").getD .none) (.ref c') ctv), toks := tk }) :
    wpAny M A (makeTail "<lambda>" qual params (.expr body) scope env (.ref T) .none none pos ln) Q E s := by
  obtain ⟨bm, ob, e1, e2, _, e3, e4, e5, e6, e7⟩ := hb
  unfold makeTail
  rw [hcl, g0]
  refine wpAny_bind (wpAny_pure ?_)
  by_cases hz : clos = []
  · subst hz
    simp only [List.isEmpty_nil, if_true]
    refine wpAny_bind (wpAny_pure (wpAny_bind (wpAny_functionCodeX hcode (C.code hP ht) (C.tab hP) hnf ?_)))
    intro c' h' tk hx hge hlt _ hrec htb _
    refine wpAny_bind (wpAny_builtinsFor (hg.extBut hx hgP) e1 e2 (hx _ _ e3 e4) e5 e6 e7 (wpAny_bind (wpAny_nsGet (hg.extBut hx hgP) ?_)))
    exact wpAny_bind (wpAny_pure (wpAny_newObj_type (h c' .none h' tk hx hge hlt hrec htb.2) (by size_fits)))
  · have hz' : clos.isEmpty = false := by
      cases clos with
      | nil => exact absurd rfl hz
      | cons _ _ => rfl
    simp only [hz', Bool.false_eq_true, if_false]
    have up : ∀ {oT : Obj} b o, s.heap.get? b = some o → (s.heap.push oT).get? b = some o := fun b o e => Heap.get?_push_of_some _ e
    refine wpAny_bind (wpAny_newTextTuple (wpAny_bind (wpAny_functionCodeX hcode ((C.keeps up).code (up _ _ hP) ht) ((C.keeps up).tab (up _ _ hP)) hnf ?_)))
    intro c' h' tk hx hge hlt _ hrec htb _
    have hx' : Heap.ExtBut P s.heap h' := fun b o nb e => hx b o nb (up _ _ e)
    have hgn := (hg.push _).extBut hx hgP
    have big : s.heap.objs.size ≤ c' := Nat.le_trans (by rw [Heap.size_push]; omega) hge
    refine wpAny_bind (wpAny_builtinsFor hgn e1 e2 (hx' _ _ e3 e4) e5 e6 e7 (wpAny_bind (wpAny_nsGet hgn ?_)))
    exact wpAny_bind (wpAny_pure (wpAny_newObj_type (h c' _ h' tk hx' big hlt hrec htb.2) (by size_fits)))
theorem tailOld {cv : Value} (hcl : closureFor scope env = pure clos) (g0 : env.globals = mainGlobals) (hg : s.heap.Ns mainGlobals mg) (hcode : env.code = .ref c) (C : CodeHd s.heap c P)
    (hP : s.heap.get? P = some (tabObj ps)) (ht : TriplesOk ps.toList) (hf : codeAmong pos ps.toList = some cv) (hb : s.heap.BuiltinsAt mg P)
    (h : ∀ (ctv : Value) (h' : Heap) (tk : Tok), (∀ b o, s.heap.get? b = some o → h'.get? b = some o) → s.heap.objs.size ≤ h'.objs.size →
      Q (.ref h'.objs.size) { s with heap := h'.push (obD qual params body scope clos T ((mg "__name__").getD .none) cv ctv), toks := tk }) :
    wpAny M A (makeTail "<lambda>" qual params (.expr body) scope env (.ref T) .none none pos ln) Q E s := by
  obtain ⟨bm, ob, e1, e2, _, e3, e4, e5, e6, e7⟩ := hb
  unfold makeTail
  rw [hcl, g0]
  refine wpAny_bind (wpAny_pure ?_)
  by_cases hz : clos = []
  · subst hz
    simp only [List.isEmpty_nil, if_true]
    refine wpAny_bind (wpAny_pure (wpAny_bind (wpAny_functionCode_hit hcode (C.code hP ht) hf ?_)))
    refine wpAny_bind (wpAny_builtinsFor hg e1 e2 e4 e5 e6 e7 (wpAny_bind (wpAny_nsGet hg ?_)))
    exact wpAny_bind (wpAny_pure (wpAny_newObj_type (h .none s.heap s.toks (fun _ _ e => e) (Nat.le_refl _)) (by size_fits)))
  · have hz' : clos.isEmpty = false := by
      cases clos with
      | nil => exact absurd rfl hz
      | cons _ _ => rfl
    simp only [hz', Bool.false_eq_true, if_false]
    have up : ∀ {oT : Obj} b o, s.heap.get? b = some o → (s.heap.push oT).get? b = some o := fun b o e => Heap.get?_push_of_some _ e
    refine wpAny_bind (wpAny_newTextTuple (wpAny_bind (wpAny_functionCode_hit hcode ((C.keeps up).code (up _ _ hP) ht) hf ?_)))
    refine wpAny_bind (wpAny_builtinsFor (hg.push _) e1 e2 (up _ _ e4) e5 e6 e7 (wpAny_bind (wpAny_nsGet (hg.push _) ?_)))
    exact wpAny_bind (wpAny_pure (wpAny_newObj_type (h _ _ s.toks up (by rw [Heap.size_push]; omega)) (by size_fits)))
end
/-- the parameters: one, x, with the default i -/
def one (x : Str) (i : Int) (p1 p2 : Pos) (j : Nat) : Arguments :=
  { posonlyargs := [], args := [{ arg := x, annotation := none, pos := p1 }], vararg := none, kwonlyargs := [], kw_defaults := [], kwarg := none, defaults := [.Constant (.int i) j p2] }
theorem evalD {M : Model} {A : Around} {E : Value → Shared → Prop} {s : Shared} {x : Str} {i : Int} {p1 p2 pos : Pos} {j : Nat} {body : Expr} {scope : Scope} {env : Env} {Q : Value → Shared → Prop}
    (h : wpAny M A (makeTail "<lambda>" (env.qual ++ "<lambda>") (one x i p1 p2 j) (.expr body) scope env (.ref s.heap.objs.size) .none none pos pos.line) Q E
      { s with heap := s.heap.push { cls := .type "tuple", data := .seq #[.int i s.toks] }, toks := s.toks + 1 }) :
    wpAny M A (eval (.Lambda (one x i p1 p2 j) body scope pos) env) Q E s := by
  rw [arm_eval_Lambda]
  show wpAny M A (do let dv ← evalAll [eval (.Constant (.int i) j p2) env]; let kdv ← holding dv (evalAllOpt []); makeFunction "<lambda>" (env.qual ++ "<lambda>") (one x i p1 p2 j) (.expr body) scope env dv kdv [] pos pos.line) Q E s
  refine wpAny_bind (wpAny_bind (wpAny_Constant_int (wpAny_bind (wpAny_holding (wpAny_pure (wpAny_pure ?_))))))
  refine wpAny_bind (wpAny_holding (wpAny_pure ?_))
  rw [makeFunction_eq]
  show wpAny M A (do let d ← newTextTuple [.int i s.toks]; makeTail "<lambda>" (env.qual ++ "<lambda>") (one x i p1 p2 j) (.expr body) scope env d .none none pos pos.line) Q E _
  exact wpAny_bind (wpAny_newTextTuple h)
/-- the default's tuple -/
abbrev tupD (i : Int) (t : Tok) : Obj := { cls := .type "tuple", data := .seq #[.int i t] }
section
variable {X : Cx} {pins : List (Addr × Obj)} {σ : L2.St} {H : Hp} {s : Shared}
theorem makeD {Ts : List (Addr × Str)} {c P : Addr} {x : Str} {i : Int} {p1 p2 pos : Pos} {j : Nat} {body : Expr} {scope : Scope} {E : Value → Shared → Prop} {Q : Value → Shared → Prop} (I : L2.Inv X pins σ H s) (TB : TabB X.base X.mg c P) (hcode : X.env.code = .ref c)
    (hm : (P, X.env.qual ++ "<lambda>") ∈ Ts) (hu : ∀ p ∈ Ts, p.1 = P → p.2 = X.env.qual ++ "<lambda>") (hT : Tabs Ts H) (hfree : ∀ y ∈ scope.names, y.2 = .free → ∃ c, X.env.cells.lookup y.1 = some c)
    (h : ∀ (f c' Ta : Addr) (pm ctv : Value) (H1 : Hp) (s' : Shared) (t : Tok), L2.Inv X pins σ H1 s' → ExtN H H1 → Tabs Ts H1 →
      s'.heap.get? f = some (obD (X.env.qual ++ "<lambda>") (one x i p1 p2 j) body scope (cloFrom X.env.cells scope.names []) Ta pm (.ref c') ctv) → H1 f = none → f ∉ frs X.stack →
      s'.heap.get? Ta = some (tupD i t) → H1 Ta = none → Ta ∉ frs X.stack → H1 c' = some (CodeO c' (X.env.qual ++ "<lambda>")) → Q (.ref f) s') :
    wpAny (model X.prog X.w) X.A (eval (.Lambda (one x i p1 p2 j) body scope pos) X.env) Q E s := by
  refine evalD ?_
  have I0 : L2.Inv X pins σ H { s with heap := s.heap.push (tupD i s.toks), toks := s.toks + 1 } := I.kept fun b o e => Heap.get?_push_of_some _ e
  have atT : (s.heap.push (tupD i s.toks)).get? s.heap.objs.size = some (tupD i s.toks) := Heap.get?_push_size _ rfl
  have noT : H s.heap.objs.size = none := I.hok.fresh (Nat.le_refl _)
  have outside : ∀ a, s.heap.objs.size ≤ a → a ∉ frs X.stack := fun a ha z => by
    rcases List.mem_cons.mp (I.stkSub _ z) with e | e
    · exact Nat.lt_irrefl _ (Nat.lt_of_lt_of_le (e ▸ I.lt) ha)
    · exact I.nofs ha e
  obtain ⟨ps, hP, ht, ha⟩ := hT _ hm
  have sz0 : s.heap.objs.size < (s.heap.push (tupD i s.toks)).objs.size := by rw [Heap.size_push]; omega
  have bP : (s.heap.push (tupD i s.toks)).BuiltinsAt X.mg P := TB.bm.keeps I0.bk
  have hP' : (s.heap.push (tupD i s.toks)).get? P = some { cls := .none, data := .fields ps } := I0.hok P _ hP
  have PT : s.heap.objs.size ≠ P := fun z => by
    rw [← z, noT] at hP
    cases hP
  cases hc : codeAmong pos ps.toList with
  | none =>
    refine tailNew (mg := X.mg) (c := c) (P := P) (ps := ps) (closure_ok hfree) I0.ok.glob (I0.mod.glob.keeps I0.bk) hcode (TB.code.keeps I0.bk) hP' ht hc TB.gP bP (fun c' ctv h' tk hx hge hlt hrec htb => ?_)
    obtain ⟨c2, oc, vs, t, e2, hoc, hd, hv⟩ := hrec
    cases e2
    have szl : (s.heap.push (tupD i s.toks)).objs.size ≤ h'.objs.size := Nat.le_trans hge (Nat.le_of_lt hlt)
    have nC : H c' = none := I0.hok.fresh hge
    have J := inv_table (t' := tk) (more := #[rawInt pos.line, rawInt pos.col, .ref c'])
      (h' := h'.push (obD (X.env.qual ++ "<lambda>") (one x i p1 p2 j) body scope (cloFrom X.env.cells scope.names []) s.heap.objs.size ((X.mg "__name__").getD .none) (.ref c') ctv)) I0 hP
      (fun b o nb e => Heap.get?_push_of_some _ (hx b o nb e)) (Heap.get?_push_of_some _ htb) hge ⟨oc, vs, t, Heap.get?_push_of_some _ hoc, hd, hv⟩
    have grown : ExtN H (upd (upd H P (.tbl (ps ++ #[rawInt pos.line, rawInt pos.col, .ref c']))) c' (CodeO c' (X.env.qual ++ "<lambda>"))) := by
      intro b o e n
      have nb : b ≠ P := fun z => n ps (Option.some.inj (e.symm.trans (z ▸ hP)))
      rw [upd_ne (ne_of_none e nC), upd_ne nb]
      exact e
    have asList : (ps ++ #[rawInt pos.line, rawInt pos.col, .ref c']).toList = ps.toList ++ [rawInt pos.line, rawInt pos.col, .ref c'] := by simp
    have tabs' : Tabs Ts (upd (upd H P (.tbl (ps ++ #[rawInt pos.line, rawInt pos.col, .ref c']))) c' (CodeO c' (X.env.qual ++ "<lambda>"))) := by
      intro p hp
      by_cases hb : p.1 = P
      · rw [hu p hp hb, hb]
        refine ⟨_, (upd_ne (ne_of_none hP nC)).trans upd_same, by rw [asList]; exact PySem.TriplesOk_snoc _ _ _ _ ht, fun p' cv hcv => ?_⟩
        rw [asList] at hcv
        rcases among_app _ ht hcv with z | z
        · obtain ⟨c0, q1, q2⟩ := ha p' cv z
          exact ⟨c0, q1, grown _ _ q2 codeO_ne⟩
        · exact ⟨c', z, upd_same⟩
      · obtain ⟨ps', a1, a2, a3⟩ := hT p hp
        refine ⟨ps', by rw [upd_ne (ne_of_none a1 nC), upd_ne hb]; exact a1, a2, fun p' cv hcv => ?_⟩
        obtain ⟨c0, q1, q2⟩ := a3 p' cv hcv
        exact ⟨c0, q1, grown _ _ q2 codeO_ne⟩
    have old : ∀ {b : Addr}, b ≠ c' → b ≠ P → H b = none → upd (upd H P (.tbl (ps ++ #[rawInt pos.line, rawInt pos.col, .ref c']))) c' (CodeO c' (X.env.qual ++ "<lambda>")) b = none := fun {b} n1 n2 e => by rw [upd_ne n1, upd_ne n2]; exact e
    refine h h'.objs.size c' s.heap.objs.size ((X.mg "__name__").getD .none) ctv _ _ s.toks J grown tabs' (Heap.get?_push_size _ rfl) ?_ (outside _ (Nat.le_trans (Nat.le_of_lt sz0) szl)) (Heap.get?_push_of_some _ (hx _ _ PT atT)) ?_ (outside _ (Nat.le_refl _)) upd_same
    · exact old (Nat.ne_of_gt hlt) (Nat.ne_of_gt (Nat.lt_of_lt_of_le (Heap.lt_size hP') szl)) (I0.hok.fresh szl)
    · exact old (Nat.ne_of_lt (Nat.lt_of_lt_of_le sz0 hge)) PT noT
  | some cv =>
    obtain ⟨c', e, hco⟩ := ha pos cv hc
    subst e
    refine tailOld (mg := X.mg) (c := c) (P := P) (ps := ps) (closure_ok hfree) I0.ok.glob (I0.mod.glob.keeps I0.bk) hcode (TB.code.keeps I0.bk) hP' ht hc bP (fun ctv h' tk hx hsz => ?_)
    have J : L2.Inv X pins σ H { s with heap := h'.push (obD (X.env.qual ++ "<lambda>") (one x i p1 p2 j) body scope (cloFrom X.env.cells scope.names []) s.heap.objs.size ((X.mg "__name__").getD .none) (.ref c') ctv), toks := tk } :=
      I.kept fun b o e => Heap.get?_push_of_some _ (hx b o (Heap.get?_push_of_some _ e))
    exact h h'.objs.size c' s.heap.objs.size ((X.mg "__name__").getD .none) ctv H _ s.toks J (ExtN.refl H) hT (Heap.get?_push_size _ rfl) (I0.hok.fresh hsz) (outside _ (Nat.le_trans (Nat.le_of_lt sz0) hsz)) (Heap.get?_push_of_some _ (hx _ _ atT)) noT (outside _ (Nat.le_refl _)) hco
end
/-! ### the names of such a lambda -/
/-- x its parameter; no cells; the others are captured or global -/
structure ScD (sc scope : Scope) (x : Str) : Prop where
  kind : scope.kind = .function
  co : scope.isCoroutine = false
  gen : scope.isGenerator = false
  own : ∀ y ∈ scope.names, y.2 ≠ .cell ∧ (y.2 = .local → y.1 = x)
  has : scope.names.lookup x = some .local
  free : ∀ y ∈ scope.names, y.2 = .free → sc.names.lookup y.1 = some .cell ∨ sc.names.lookup y.1 = some .free
def scDB (sc scope : Scope) (x : Str) : Bool :=
  decide (scope.kind = .function) && (!scope.isCoroutine) && (!scope.isGenerator) && decide (scope.names.lookup x = some .local) &&
    scope.names.all fun y => (!decide (y.2 = .cell)) && ((!decide (y.2 = .local)) || decide (y.1 = x)) && ((!decide (y.2 = .free)) || decide (sc.names.lookup y.1 = some .cell) || decide (sc.names.lookup y.1 = some .free))
theorem scD_by {sc scope : Scope} {x : Str} (h : scDB sc scope x = true) : ScD sc scope x := by
  unfold scDB at h
  simp only [Bool.and_eq_true, Bool.or_eq_true, Bool.not_eq_true', decide_eq_true_eq, decide_eq_false_iff_not, List.all_eq_true] at h
  obtain ⟨⟨⟨⟨h1, h2⟩, h3⟩, h5⟩, h4⟩ := h
  refine ⟨h1, h2, h3, fun y hy => ⟨(h4 y hy).1.1, fun e => ?_⟩, h5, fun y hy e => ?_⟩
  · rcases (h4 y hy).1.2 with z | z
    · exact absurd e z
    · exact z
  · rcases (h4 y hy).2 with (z | z) | z
    · exact absurd e z
    · exact .inl z
    · exact .inr z
theorem ScD.look {X : Cx} {scope : Scope} {x : Str} (S : ScD X.env.scope scope x) (ok : X.Ok) : ∀ y ∈ scope.names, y.2 = .free → ∃ c, X.env.cells.lookup y.1 = some c := fun y hy e =>
  ok.has _ (S.free y hy e)
section
variable {X : Cx} {pins : List (Addr × Obj)} {σ : L2.St} {H HZ : Hp} {s s1 : Shared}
theorem startD {A : Around} {outer : List Env} {E : XK} {scope : Scope} {x : Str} {v : Value} {f c' : Addr} {h₁ : Heap} {tk : Nat} (I : L2.Inv X pins σ H s) (S : ScD X.env.scope scope x) (nx : ∀ i : Nat, X.N[i]? ≠ some x)
    (e0 : Env0 X.prog X.w X.K X.mg X.base A outer s1 HZ) (hd : A.handled = none) (un : Un (frs X.stack) [] H HZ s.heap s1.heap)
    (hns : h₁.Ns s1.heap.objs.size fun y => ([(x, v)] : List (Str × Value)).reverse.lookup y) (kp : ∀ b o, s1.heap.get? b = some o → h₁.get? b = some o) :
    L2.Inv (lamCx X A outer s1 HZ E scope f c') [] σ HZ { s1 with heap := h₁, toks := tk } := by
  have hfree := S.look I.ok
  have fromCells : ∀ {y c}, (cloFrom X.env.cells scope.names []).lookup y = some c → X.env.cells.lookup y = some c := by
    intro y c e
    rcases cloFrom_mem (PySem.mem_of_lookup e) with hm | ⟨k1, k2⟩
    · cases hm
    · obtain ⟨c1, hc⟩ := hfree _ k1 rfl
      have hc : X.env.cells.lookup y = some c1 := hc
      have : c = c1 := by rw [k2, hc] <;> rfl
      rw [this]
      exact hc
  have toCells : ∀ {y}, scope.names.lookup y = some .free → ∃ c, (cloFrom X.env.cells scope.names []).lookup y = some c := fun {y} hl =>
    mem_lookup (cloFrom_has (cells := X.env.cells) (acc := []) (PySem.mem_of_lookup hl))
  have cellKept : ∀ {c : Addr} {u : Option Value}, H c = none → s.heap.IsCell c u → h₁.IsCell c u := by
    intro c u n ⟨o, ho, hdt⟩
    obtain ⟨sl, q⟩ := un.any ho n (by simp)
    exact ⟨_, kp _ _ q, hdt⟩
  have none_ : ∀ b : Addr, b ∉ (lamCx X A outer s1 HZ E scope f c').ex := fun b z => nomatch (show b ∈ ([] : List Addr) from z)
  refine ⟨⟨e0.mod, S.kind, rfl, rfl, Nat.le_refl _, fun y z c k1 k2 => I.ok.inj y z c (fromCells k1) (fromCells k2), fun y hy => ?_, fun y c z _ => (Bool.false_ne_true z).elim, fun _ => hd,
      Around.frames_deeper e0.frames, .inr ⟨rfl, rfl⟩, fun b z => absurd z (none_ b), e0.bs, e0.bsz, fun b _ _ => none_ b, fun b z => absurd z (none_ b), e0.funs, e0.frf⟩,
    rfl, e0.bare, Un.kept kp, ⟨_, hns, fun i y u k1 k2 k3 => ?_⟩, fun y c e => ?_, e0.hok.fresh (Nat.le_refl _), fun y c e => ?_, fun q hq => (List.not_mem_nil (show q ∈ ([] : List (Addr × Obj)) from hq)).elim, e0.hok.kept kp, I.len⟩
  · have hy : scope.names.lookup y = some .cell ∨ scope.names.lookup y = some .free := hy
    rcases hy with hy | hy
    · exact absurd rfl (S.own _ (PySem.mem_of_lookup hy)).1
    · exact toCells hy
  · have k3 : Vis scope y := k3
    rcases k3 with k | k | k
    · have : y = x := (S.own _ (PySem.mem_of_lookup k)).2 rfl
      exact absurd (this ▸ k1) (nx i)
    · exact absurd rfl (S.own _ (PySem.mem_of_lookup k)).1
    · obtain ⟨m, hn, hl⟩ := I.loc
      have outerK := S.free _ (PySem.mem_of_lookup k) rfl
      obtain ⟨w', r, q⟩ := hl i y u k1 k2 (outerK.elim (fun z => .inr (.inl z)) (fun z => .inr (.inr z)))
      obtain ⟨c2, h2⟩ := toCells k
      refine ⟨w', r, .inr ⟨.inr k, c2, h2, ?_⟩⟩
      have c1 := fromCells h2
      rcases q with ⟨kl, _⟩ | ⟨_, c3, e', z⟩
      · have kl : X.env.scope.names.lookup y = some .local := kl
        rcases outerK with o2 | o2 <;> rw [show X.env.scope.names.lookup y = _ from o2] at kl <;> cases kl
      · rw [c1] at e'
        cases e'
        exact cellKept (I.freeC y _ c1) z
  · obtain ⟨w', z⟩ := I.cell y c (fromCells e)
    exact ⟨w', cellKept (I.freeC y c (fromCells e)) z⟩
  · obtain ⟨u, o, ho, hdt⟩ := I.cell y c (fromCells e)
    exact un.free c o ho (I.freeC y c (fromCells e)) (by simp)
/-- how the call without arguments binds -/
def BindD (x : Str) (i : Int) (params : Arguments) (body : Expr) (scope : Scope) : Prop :=
  ∀ (qual : Str) (cl : List (Str × Addr)) (T : Addr) (pm cv ctv : Value) (t : Tok), ∃ k, bindArgs (fdD qual params body scope cl T pm cv ctv) ⟨[], []⟩ = seqItems? (.ref T) >>= k ∧ k (some #[.int i t]) = pure [(x, .int i t)]
/-- a(), in the def that got the lambda -/
theorem actD {CXg : CXT} {Eg : XK} {Ng : List Str} {qg : Str} {sg : Scope} {g f c' Ta : Addr} {cdg pm ctv : Value} {params : Arguments} {body : Expr} {scope : Scope} {k i : Nat} {a x : Str} {n : Int} {t : Tok} {pn : List (Addr × Obj)} {xe : Value → Shared → Prop} {W : WX} {E : XK} {tb : TE} {p1 p2 : Pos}
    (I : L2.Inv X pins σ H s) (S : ScD X.env.scope scope x) (nx : ∀ i : Nat, X.N[i]? ≠ some x)
    (hf : s.heap.get? f = some (obD (X.env.qual ++ "<lambda>") params body scope (cloFrom X.env.cells scope.names []) Ta pm (.ref c') ctv)) (hfn : H f = none) (hfr : f ∉ frs X.stack)
    (hT : s.heap.get? Ta = some (tupD n t)) (hTn : H Ta = none) (hTr : Ta ∉ frs X.stack) (hb : BindD x n params body scope)
    (tk : Takes ((cxOf CXg X.prog X.w X.K X.mg X.base Ng qg sg g cdg X.A X.stack s H Eg).tr pn xe) W) (hW : ∀ cls d σ' H', E cls d H' → W cls d σ' H') (hr : Room (k + 1) (X.A.deeper (envOfC qg sg s.heap.objs.size g cdg)))
    (hbody : ∀ (A : Around) (outer : List Env) (s : Shared) (H : Hp), Room k (A.deeper (lamEnv X scope s.heap.objs.size f c')) → PE (lamCx X A outer s H E scope f c') body tb)
    (hN : Ng[i]? = some a) (hv : Vis sg a) (hd : (a == ("__debug__" : Str)) = false := by decide) (hcd : (a == ("__classdict__" : Str)) = false := by decide) :
    PE ((cxOf CXg X.prog X.w X.K X.mg X.base Ng qg sg g cdg X.A X.stack s H Eg).tr pn xe) (.Call (.Name a p1) [] [] p2)
      (fun σZ HZ Q => σZ[i]? = some (some (.ref f)) ∧ HZ c' = some (CodeO c' (X.env.qual ++ "<lambda>")) ∧ tb σ HZ Q) := by
  constructor
  intro pinsZ sZ σZ HZ Q IZ ⟨hs, hc, ht⟩
  refine wpAny_Call_Name_kw (thn ((pe_var (pos := p1) (i := i) hN hv hd hcd).run pinsZ sZ σZ HZ (fun v H1 => v = .ref f ∧ H1 = HZ) IZ ⟨.ref f, hs, rfl, rfl⟩) (fun u s1 ⟨v, H1, I1, r1, ev, eH⟩ => ?_))
  subst ev
  subst eH
  obtain rfl : u = Value.ref f := r1
  have nil_ : ∀ b : Addr, b ∉ ([] : List Addr) := fun b z => nomatch z
  have of1 := I1.base.keep f _ hf hfn hfr (nil_ f)
  have oT1 : s1.heap.get? Ta = some (tupD n t) := I1.base.keep Ta _ hT hTn hTr (nil_ Ta)
  refine PySem.W.callWith_F0 ⟨_, _, _, _, of1⟩ ?_
  have un : Un (frs X.stack) [] H H1 s.heap s1.heap := I1.base
  obtain ⟨⟨oc, vs, tq, hoc, hdc, hvc⟩, _, _⟩ := I1.hok c' _ hc
  have rc : codeAny (model X.prog X.w) (X.A.deeper (envOfC qg sg s.heap.objs.size g cdg)) (.call (.ref f) ⟨[], []⟩)
      (CR (L2.CX X.prog X.w) (envOfC qg sg s.heap.objs.size g cdg :: X.stack) X.prog X.w H1 s1 Q E) s1 := by
    refine PySem.W.kla_callFunE hr.depth of1 rfl S.co S.gen rfl ⟨c', oc, vs, tq, rfl, hoc, hdc, hvc⟩ ?_
    obtain ⟨kk, b1, b2⟩ := hb (X.env.qual ++ "<lambda>") (cloFrom X.env.cells scope.names []) Ta pm (.ref c') ctv t
    refine BindsTo.of_defaults (T := Ta) (o := tupD n t) rfl oT1 rfl b1 b2 _ _ _ _ ?_
    refine wpAny_newFunctionEnv (fun y hy => (S.own y hy).1) (fun y hy => ?_) (fun h₁ hns hsb => ⟨I1.nolimit.fresh _ hsb, ?_⟩) S.kind
    · obtain rfl : y = (x, Value.int n t) := List.mem_singleton.mp hy
      exact S.has
    show codeAny _ _ (.expr body (lamEnv X scope s1.heap.objs.size f c')) _ _
    have kp : ∀ b o, s1.heap.get? b = some o → h₁.get? b = some o := fun b o e => hsb.extBut b o (Nat.ne_of_lt (Heap.lt_size e)) (Heap.get?_push_of_some _ e)
    have J := startD (tk := s1.toks + ([(x, Value.int n t)] : List (Str × Value)).length) (E := E) (f := f) (c' := c') I S nx I1.env0 hr.hd un hns kp
    refine PySem.W.kla_codeExpr (wpAny_mono ((hbody _ _ s1 H1 (hr.deeper _)).run [] _ _ H1 Q J ht) (fun v s' ⟨w', H', J', rv, q⟩ => ?_) (fun _ _ hq => hq))
    exact ⟨w', H', J'.os, J'.bare, J'.base, J'.hok, rv, q⟩
  have hx : Passes (L2.CX X.prog X.w) ((cxOf CXg X.prog X.w X.K X.mg X.base Ng qg sg g cdg X.A X.stack s H Eg).tr pn xe) E := passes_call tk hW
  refine wpAny_call (codeAny_mono rc (fun r s' hq => ?_))
  rcases r with e | fl
  · exact hx pinsZ σZ H1 s1 e s' I1 hq
  · cases fl with
    | ret u => exact I1.after hq
    | next => exact hq.elim
    | brk => exact hq.elim
    | cont => exact hq.elim
/-- g(lambda x=i: body) -/
theorem pe_lamD {Ts : List (Addr × Str)} {TT : (XK → Hp → VK → Prop) → Hp → VK → Prop} {gn a x : Str} {n : Int} {g c P : Addr} {k j : Nat} {pg : Arguments} {bg : List Stmt} {sg : Scope} {dV kV doc pm cdv ct oc : Value} {an od : Option Addr} {osl : Array (Option Value)} {Ng : List Str}
    {body : Expr} {scope : Scope} {t : XK → TE} {p lpos pos p1 p2 : Pos} (hg : Gl X gn) (hm : X.mg gn = some (.ref g)) (hk : PySem.W.keepIn X.K (.ref g) = true)
    (lk : X.K.lookup g = some ⟨oc, od, .func (PySem.W.fnOf gn gn pg bg sg dV kV doc pm an cdv ct), osl⟩) (hcg : PySem.W.codeIn X.K cdv gn = true) (hb : L2.Binds X.K (PySem.W.fnOf gn gn pg bg sg dV kV doc pm an cdv ct) [a] [])
    (Sg : FnScope Ng [a] sg) (hNg : Ng[0]? = some a) (hva : Vis sg a) (hG : GivesTo X Ng gn sg g cdv bg a (X.env.qual ++ "<lambda>") TT)
    (TB : TabB X.base X.mg c P) (hcode : X.env.code = .ref c) (hmT : (P, X.env.qual ++ "<lambda>") ∈ Ts) (hu : ∀ p ∈ Ts, p.1 = P → p.2 = X.env.qual ++ "<lambda>") (hr : Room (k + 2) X.A)
    (S : ScD X.env.scope scope x) (nx : ∀ i : Nat, X.N[i]? ≠ some x) (hbd : BindD x n (one x n p1 p2 j) body scope)
    (hbody : ∀ (A : Around) (outer : List Env) (s : Shared) (H : Hp) (E : XK) (f c' : Addr), Room k (A.deeper (lamEnv X scope s.heap.objs.size f c')) → PE (lamCx X A outer s H E scope f c') body (t E))
    (hdb : (gn == ("__debug__" : Str)) = false := by decide) (hd : (a == ("__debug__" : Str)) = false := by decide) (hcd : (a == ("__classdict__" : Str)) = false := by decide) :
    PE X (.Call (.Name gn p) [.Lambda (one x n p1 p2 j) body scope lpos] [] pos) (tLam Ts TT t) := by
  constructor
  intro pins s σ H Q I ⟨hT, h⟩
  refine wpAny_Call_Name_kw (ld_glob I hg hm ?_ hdb)
  refine PySem.W.callWith_K (h₀ := X.base) I.ok.mod.kin hk ?_ (by rfl) (by rfl)
  show wpAny _ _ (spliced ((false, eval (.Lambda (one x n p1 p2 j) body scope lpos) X.env) :: backTo pos (starEach [] X.env))) _ _ s
  refine Calls.spliced_cons (makeD I TB hcode hmT hu hT (S.look I.ok) (fun f c' Ta pm' ctv H1 s' tq I1 eN T1 hf hfn hfr hTa hTn hTr hco => ?_))
  refine Calls.spliced_nil ⟨I1.kIn, ?_⟩
  have rc : codeAny (model X.prog X.w) X.A (.call (.ref g) ⟨[.ref f], []⟩) (CR C8.CX0 X.stack X.prog X.w H1 s' Q C8.E0) s' := by
    refine run_ofS (N := Ng) (ps := [a]) (us := [.ref f]) (vs := [.ref f]) lk hcg Sg hr I1.env0 (hb s' [.ref f] I1.kIn rfl) (.cons rfl .nil) rfl (fun hr' => ?_)
    obtain ⟨t', ht', hq'⟩ := hG f c' s' H1 Q (fun E H' Q' => t E σ H' Q')
      (fun W pn xe E p1 p2 tk hW => actD (i := 0) I1 S nx hf hfn hfr hTa hTn hTr hbd tk hW hr' (fun A outer s H hr2 => hbody A outer s H E f c' hr2) hNg hva hd hcd) hco (h H1 eN T1)
    exact ⟨t', ht'.nox, hq'⟩
  refine wpAny_call (codeAny_mono rc (fun r s2 hq => ?_))
  rcases r with e | fl
  · exact (show False from hq).elim
  · cases fl with
    | ret u => exact I1.after hq
    | next => exact hq.elim
    | brk => exact hq.elim
    | cont => exact hq.elim
end
end LmD


set_option Elab.async false
set_option linter.all false
set_option maxRecDepth 100000
set_option maxHeartbeats 400000
namespace Rs
open PySem L2 Bs Fq LamX
/-! ### polynomials -/
inductive FrAll (K : PySem.W.Frag) (H : Hp) : List V → List F → Prop
  | nil : FrAll K H [] []
  | cons {v : V} {vs : List V} {q : F} {qs : List F} : Fr K H v q → FrAll K H vs qs → FrAll K H (v :: vs) (q :: qs)
theorem FrAll.mono {K : PySem.W.Frag} {H H' : Hp} (e : Same H H') : ∀ {vs : List V} {qs : List F}, FrAll K H vs qs → FrAll K H' vs qs
  | _, _, .nil => .nil
  | _, _, .cons a b => .cons (a.mono e) (FrAll.mono e b)
theorem FrAll.len {K : PySem.W.Frag} {H : Hp} : ∀ {vs : List V} {qs : List F}, FrAll K H vs qs → vs.length = qs.length
  | _, _, .nil => rfl
  | _, _, .cons _ b => congrArg (· + 1) (FrAll.len b)
theorem FrAll.get {K : PySem.W.Frag} {H : Hp} : ∀ {vs : List V} {qs : List F} {i : Nat}, FrAll K H vs qs → i < qs.length → ∃ v q, vs[i]? = some v ∧ qs[i]? = some q ∧ Fr K H v q
  | _, _, 0, .cons a _, _ => ⟨_, _, rfl, rfl, a⟩
  | _, _, i + 1, .cons _ b, h => by
    obtain ⟨v, q, h1, h2, h3⟩ := FrAll.get (i := i) b (by simp only [List.length_cons] at h; omega)
    exact ⟨v, q, h1, h2, h3⟩
  | _, _, _, .nil, h => absurd h (by simp)
/-- a tuple of fractions -/
def Po (K : PySem.W.Frag) (H : Hp) (v : V) (qs : List F) : Prop := ∃ a xs, v = .ref a ∧ SqT K H a xs ∧ FrAll K H xs qs
def spAt (K : PySem.W.Frag) : Sp := fun vs H Q _ => ∃ (v : V) (qs : List F) (k : Nat), vs = [v, .int k] ∧ Po K H v qs ∧ ∀ u, Fr K H u (co qs k) → Q u H
section
variable {P : Program} {w : World} {K : PySem.W.Frag} {mg : Str → Option Value} {base : Heap} {f : Addr} {fd : FuncData}
end
end Rs


set_option Elab.async false
set_option linter.all false
set_option maxRecDepth 100000
set_option maxHeartbeats 400000
namespace Rs
open PySem L2 Bs Fq LamX
theorem FrAll.take {K : PySem.W.Frag} {H : Hp} : ∀ {vs : List V} {qs : List F} (n : Nat), FrAll K H vs qs → FrAll K H (vs.take n) (qs.take n)
  | _, _, 0, _ => .nil
  | _, _, n + 1, .nil => .nil
  | _, _, n + 1, .cons a b => .cons a (FrAll.take n b)
theorem eqv_nought {q : F} : PyData.eqv (dF q) (dF (0, 1)) = decide (q = (0, 1)) := by
  obtain ⟨a, b⟩ := q
  have e : PyData.eqv (dF (a, b)) (dF (0, 1)) = (decide (a = 0) && decide (b = 1)) := by
    simp only [dF, PyData.eqv, PyData.eqvAll, Bool.and_true]
    rfl
  rw [e]
  simp [Prod.ext_iff]
def spTrim (K : PySem.W.Frag) : Sp := fun vs H Q _ => ∃ (a : Addr) (xs : List V) (qs : List F), vs = [.ref a] ∧ (SqL K H a xs ∨ SqT K H a xs) ∧ FrAll K H xs qs ∧ xs.length ≤ 1000 ∧
  ∀ H' p ys, Same H H' → SqT K H' p ys → FrAll K H' ys (trim qs) → Q (.ref p) H'
section
variable {P : Program} {w : World} {K : PySem.W.Frag} {mg : Str → Option Value} {base : Heap} {f : Addr} {fd : FuncData}
end
end Rs


set_option Elab.async false
set_option linter.all false
set_option maxRecDepth 100000
set_option maxHeartbeats 400000
namespace Rs
open PySem L2 Bs Fq LamX
theorem Fr.off {K : PySem.W.Frag} {H : Hp} {v : V} {q : F} {D : Addr} {acc : List V} {o : HO} (h : Fr K H v q) (hD : H D = some (.lst acc)) : Fr K (upd H D o) v q := by
  obtain ⟨a, rfl, s⟩ := h
  refine ⟨a, rfl, ?_⟩
  rcases s with (s | ⟨o', s⟩) | s
  · exact .inl (.inl ((upd_ne (ne_of s hD (by intro z; cases z))).trans s))
  · exact .inl (.inr ⟨o', (upd_ne (ne_of s hD (by intro z; cases z))).trans s⟩)
  · exact .inr s
theorem FrAll.off {K : PySem.W.Frag} {H : Hp} {D : Addr} {acc : List V} {o : HO} (hD : H D = some (.lst acc)) : ∀ {vs : List V} {qs : List F}, FrAll K H vs qs → FrAll K (upd H D o) vs qs
  | _, _, .nil => .nil
  | _, _, .cons a b => .cons (a.off hD) (FrAll.off hD b)
theorem FrAll.snoc {K : PySem.W.Frag} {H : Hp} : ∀ {vs : List V} {qs : List F} {v : V} {q : F}, FrAll K H vs qs → Fr K H v q → FrAll K H (vs ++ [v]) (qs ++ [q])
  | _, _, _, _, .nil, h => .cons h .nil
  | _, _, _, _, .cons a b, h => .cons a (FrAll.snoc b h)
theorem Po.mono {K : PySem.W.Frag} {H H' : Hp} {v : V} {qs : List F} (e : Same H H') (h : Po K H v qs) : Po K H' v qs := by
  obtain ⟨a, xs, rfl, s, f⟩ := h
  exact ⟨a, xs, rfl, Bs.Same.t e s, f.mono e⟩
theorem co_dm {qs : List F} (h : ∀ q ∈ qs, Dm q) (k : Nat) : Dm (co qs k) := by
  unfold co
  rw [List.getD_eq_getElem?_getD]
  cases e : qs[k]? with
  | none => exact ⟨Lt2.mono (m := 1) (by show (0 : Int).natAbs < 2; decide) (by decide), by decide, Lt2.mono (m := 1) (by show (1 : Int).natAbs < 2; decide) (by decide)⟩
  | some q => exact h q (List.mem_of_getElem? e)
def spPoly2 (K : PySem.W.Frag) (op : F → F → F) : Sp := fun vs H Q _ => ∃ (x y : V) (qs rs : List F), vs = [x, y] ∧ Po K H x qs ∧ Po K H y rs ∧ (∀ q ∈ qs, Dm q) ∧ (∀ r ∈ rs, Dm r) ∧ qs.length ≤ 500 ∧ rs.length ≤ 500 ∧
  ∀ H' p, Same H H' → Po K H' (.ref p) (trim (byPower op qs rs (max qs.length rs.length))) → Q (.ref p) H'
section
variable {P : Program} {w : World} {K : PySem.W.Frag} {mg : Str → Option Value} {base : Heap} {f : Addr} {fd : FuncData}
end
end Rs


set_option linter.all false
set_option maxRecDepth 100000
set_option maxHeartbeats 400000
namespace Fq
/-! ### the worth of a fraction -/
def val (q : F) : Rat := (q.1 : Rat) / (q.2 : Rat)
theorem ne0 {b : Int} (h : 0 < b) : (b : Rat) ≠ 0 := by exact_mod_cast (by omega : b ≠ 0)
theorem val_vl {q : F} {a b : Int} (hq : 0 < q.2) (hb : 0 < b) (h : Vl q a b) : val q = (a : Rat) / (b : Rat) := by
  have h1 := ne0 hq
  have h2 := ne0 hb
  unfold Vl at h
  have h3 : (q.1 : Rat) * (b : Rat) = (a : Rat) * (q.2 : Rat) := by
    rw [← Rat.intCast_mul, ← Rat.intCast_mul, h]
  unfold val
  grind
theorem val_add {q r : F} (hq : 0 < q.2) (hr : 0 < r.2) : val (add q r) = val q + val r := by
  have o := ok_add' hq hr
  have v := vl_add hq hr (vl_self q) (vl_self r)
  rw [val_vl o.1 (Int.mul_pos hq hr) v]
  have h1 := ne0 hq
  have h2 := ne0 hr
  unfold val
  rw [Rat.intCast_add, Rat.intCast_mul, Rat.intCast_mul, Rat.intCast_mul]
  grind
theorem val_red {a b : Int} (h : 0 < b) : val (red a b) = (a : Rat) / (b : Rat) := val_vl (red_ok h).1 h (vl_red h)
theorem val_sub {q r : F} (hq : 0 < q.2) (hr : 0 < r.2) : val (sub q r) = val q - val r := by
  show val (red _ _) = _
  rw [val_red (Int.mul_pos hq hr)]
  have h1 := ne0 hq
  have h2 := ne0 hr
  unfold val
  rw [Rat.intCast_sub, Rat.intCast_mul, Rat.intCast_mul, Rat.intCast_mul]
  grind
theorem val_mul {q r : F} (hq : 0 < q.2) (hr : 0 < r.2) : val (mul q r) = val q * val r := by
  show val (red _ _) = _
  rw [val_red (Int.mul_pos hq hr)]
  have h1 := ne0 hq
  have h2 := ne0 hr
  unfold val
  rw [Rat.intCast_mul, Rat.intCast_mul]
  grind
theorem val_zero : val (0, 1) = 0 := by
  unfold val
  simp
  grind
theorem val_one : val (1, 1) = 1 := by
  unfold val
  simp
  grind
theorem val_inj {q r : F} (o : Ok q) (o' : Ok r) (h : val q = val r) : q = r := by
  refine vl_uniq (a := r.1) (b := r.2) o o' (by have := o'.1; omega) ?_ rfl
  have h1 := ne0 o.1
  have h2 := ne0 o'.1
  have h3 : (q.1 : Rat) * (r.2 : Rat) = (r.1 : Rat) * (q.2 : Rat) := by
    unfold val at h
    grind
  show q.1 * r.2 = r.1 * q.2
  rw [← Rat.intCast_mul, ← Rat.intCast_mul] at h3
  exact_mod_cast h3
/-! ### sums of n -/
def sm (f : Nat → Rat) : Nat → Rat
  | 0 => 0
  | n + 1 => sm f n + f n
theorem sm_congr {f g : Nat → Rat} : ∀ {n : Nat}, (∀ i, i < n → f i = g i) → sm f n = sm g n
  | 0, _ => rfl
  | n + 1, h => by
    show sm f n + f n = sm g n + g n
    rw [sm_congr (fun i hi => h i (by omega)), h n (by omega)]
theorem sm_zero {f : Nat → Rat} {n : Nat} (h : ∀ i, i < n → f i = 0) : sm f n = 0 := by
  rw [sm_congr h]
  induction n with
  | zero => rfl
  | succ n ih =>
    show sm (fun _ => 0) n + 0 = 0
    rw [ih (fun i hi => h i (by omega))]
    grind
theorem sm_sub (f g : Nat → Rat) : ∀ n, sm (fun i => f i - g i) n = sm f n - sm g n
  | 0 => by show (0 : Rat) = 0 - 0; grind
  | n + 1 => by
    show sm _ n + _ = (sm f n + f n) - (sm g n + g n)
    rw [sm_sub f g n]
    grind
theorem sm_mul (c : Rat) (f : Nat → Rat) : ∀ n, sm (fun i => c * f i) n = c * sm f n
  | 0 => by show (0 : Rat) = c * 0; grind
  | n + 1 => by
    show sm _ n + _ = c * (sm f n + f n)
    rw [sm_mul c f n]
    grind
theorem sm_left (f : Nat → Rat) : ∀ n, sm f (n + 1) = f 0 + sm (fun i => f (i + 1)) n
  | 0 => by show (0 : Rat) + f 0 = f 0 + 0; grind
  | n + 1 => by
    show sm f (n + 1) + f (n + 1) = f 0 + (sm _ n + f (n + 1))
    rw [sm_left f n]
    grind
theorem sm_more {f : Nat → Rat} {n : Nat} (h : ∀ i, n ≤ i → f i = 0) : ∀ d, sm f (n + d) = sm f n
  | 0 => rfl
  | d + 1 => by
    show sm f (n + d) + f (n + d) = _
    rw [sm_more h d, h _ (by omega)]
    grind
/-! ### one step of the ways, in worths -/
def J (A B : Nat → Rat) (s : Nat → Rat) : Nat → Rat := fun h => (if h = 0 then 0 else s (h - 1)) + A h * s h + B h * s (h + 1)
def Jn (A B : Nat → Rat) : Nat → (Nat → Rat) → Nat → Rat
  | 0, u => u
  | n + 1, u => J A B (Jn A B n u)
theorem Jn_in (A B : Nat → Rat) (u : Nat → Rat) : ∀ n, Jn A B n (J A B u) = Jn A B (n + 1) u
  | 0 => rfl
  | n + 1 => by
    show J A B (Jn A B n (J A B u)) = J A B (Jn A B (n + 1) u)
    rw [Jn_in A B u n]
theorem Jn_add (A B : Nat → Rat) (u : Nat → Rat) (j : Nat) : ∀ i, Jn A B (i + j) u = Jn A B i (Jn A B j u)
  | 0 => by rw [Nat.zero_add]; rfl
  | i + 1 => by
    rw [show i + 1 + j = (i + j) + 1 by omega]
    show J A B (Jn A B (i + j) u) = J A B (Jn A B i (Jn A B j u))
    rw [Jn_add A B u j i]
theorem J_sm (A B : Nat → Rat) (c : Nat → Rat) (g : Nat → Nat → Rat) : ∀ n, J A B (fun h => sm (fun i => c i * g i h) n) = fun h => sm (fun i => c i * J A B (g i) h) n
  | 0 => by
    funext h
    show (if h = 0 then (0 : Rat) else 0) + A h * 0 + B h * 0 = 0
    split <;> grind
  | n + 1 => by
    funext h
    have ih := congrFun (J_sm A B c g n) h
    show _ = sm _ n + c n * J A B (g n) h
    rw [← ih]
    unfold J
    show (if h = 0 then (0 : Rat) else sm _ n + _) + A h * (sm _ n + _) + B h * (sm _ n + _) = _
    split <;> grind
theorem Jn_sm (A B : Nat → Rat) (c : Nat → Rat) (g : Nat → Nat → Rat) (n : Nat) : ∀ m, Jn A B m (fun h => sm (fun i => c i * g i h) n) = fun h => sm (fun i => c i * Jn A B m (g i) h) n
  | 0 => rfl
  | m + 1 => by
    show J A B (Jn A B m _) = _
    rw [Jn_sm A B c g n m, J_sm]
    rfl
/-- the standard functions -/
def ek (k : Nat) : Nat → Rat := fun h => if h = k then 1 else 0
theorem J_ek (A B : Nat → Rat) (k : Nat) : J A B (ek k) = fun h => ek (k + 1) h + A k * ek k h + (if k = 0 then 0 else B (k - 1) * ek (k - 1) h) := by
  funext h
  unfold J ek
  by_cases h0 : h = 0
  · subst h0
    by_cases k0 : k = 0
    · subst k0
      simp
    · by_cases k1 : k = 1
      · subst k1
        simp
      · simp
        have : ¬ (0 = k) := by omega
        have : ¬ (0 = k - 1) := by omega
        have : ¬ (1 = k) := by omega
        grind
  · by_cases e1 : h = k + 1
    · subst e1
      simp
      have : ¬ (k + 1 = k - 1) := by omega
      grind
    · by_cases e2 : h = k
      · subst e2
        have : ¬ (h - 1 = h) := by omega
        have : ¬ (h = h - 1) := by omega
        simp
        grind
      · by_cases e3 : h + 1 = k
        · subst e3
          simp
          grind
        · have : ¬ (h - 1 = k) := by omega
          have : ¬ (h = k - 1) := by omega
          grind
/-! ### the polynomials by the rule of three terms: their coefficients in worths -/
def pc (A B : Nat → Rat) : Nat → Nat → Rat
  | 0 => fun i => if i = 0 then 1 else 0
  | 1 => fun i => (if i = 0 then 0 else if i = 1 then 1 else 0) - A 0 * (if i = 0 then 1 else 0)
  | k + 2 => fun i => (if i = 0 then 0 else pc A B (k + 1) (i - 1)) - A (k + 1) * pc A B (k + 1) i - B k * pc A B k i
theorem pc_hi (A B : Nat → Rat) : ∀ k i, k < i → pc A B k i = 0
  | 0, i, h => by
    show (if i = 0 then (1 : Rat) else 0) = 0
    rw [if_neg (by omega)]
  | 1, i, h => by
    show (if i = 0 then (0 : Rat) else if i = 1 then 1 else 0) - A 0 * (if i = 0 then 1 else 0) = 0
    rw [if_neg (by omega), if_neg (by omega), if_neg (by omega)]
    grind
  | k + 2, i, h => by
    show (if i = 0 then (0 : Rat) else pc A B (k + 1) (i - 1)) - A (k + 1) * pc A B (k + 1) i - B k * pc A B k i = 0
    rw [if_neg (by omega), pc_hi A B (k + 1) _ (by omega), pc_hi A B (k + 1) i (by omega), pc_hi A B k i (by omega)]
    grind
/-- a polynomial at J, on u -/
def ev (A B : Nat → Rat) (c : Nat → Rat) (n : Nat) (u : Nat → Rat) : Nat → Rat := fun h => sm (fun i => c i * Jn A B i u h) n
theorem ev_more {A B c : Nat → Rat} {n : Nat} (h : ∀ i, n ≤ i → c i = 0) (u : Nat → Rat) (d : Nat) : ev A B c (n + d) u = ev A B c n u := by
  funext x
  refine sm_more (fun i hi => ?_) d
  rw [h i hi]
  grind
theorem ev_pc2 (A B : Nat → Rat) (k : Nat) (u : Nat → Rat) : ev A B (pc A B (k + 2)) (k + 3) u = fun h => ev A B (pc A B (k + 1)) (k + 2) (J A B u) h - A (k + 1) * ev A B (pc A B (k + 1)) (k + 2) u h - B k * ev A B (pc A B k) (k + 1) u h := by
  funext h
  have e1 : sm (fun i => pc A B (k + 1) i * Jn A B i u h) (k + 3) = ev A B (pc A B (k + 1)) (k + 2) u h :=
    congrFun (ev_more (n := k + 2) (fun i hi => pc_hi A B _ _ (by omega)) u 1) h
  have e2 : sm (fun i => pc A B k i * Jn A B i u h) (k + 3) = ev A B (pc A B k) (k + 1) u h :=
    congrFun (ev_more (n := k + 1) (fun i hi => pc_hi A B _ _ (by omega)) u 2) h
  have e3 : sm (fun i => (if i = 0 then 0 else pc A B (k + 1) (i - 1)) * Jn A B i u h) (k + 3) = ev A B (pc A B (k + 1)) (k + 2) (J A B u) h := by
    rw [sm_left]
    show (if 0 = 0 then (0 : Rat) else _) * _ + _ = _
    rw [if_pos rfl]
    have : sm (fun i => (if i + 1 = 0 then 0 else pc A B (k + 1) (i + 1 - 1)) * Jn A B (i + 1) u h) (k + 2) = ev A B (pc A B (k + 1)) (k + 2) (J A B u) h := by
      refine sm_congr fun i hi => ?_
      rw [if_neg (by omega), Nat.add_sub_cancel, ← Jn_in]
    rw [this]
    grind
  rw [← e1, ← e2, ← e3, ← sm_mul, ← sm_mul, ← sm_sub, ← sm_sub]
  refine sm_congr fun i hi => ?_
  show ((if i = 0 then (0 : Rat) else pc A B (k + 1) (i - 1)) - A (k + 1) * pc A B (k + 1) i - B k * pc A B k i) * Jn A B i u h = _
  grind
theorem ev_pc0 (A B : Nat → Rat) (u : Nat → Rat) : ev A B (pc A B 0) 1 u = u := by
  funext h
  show (0 : Rat) + (if 0 = 0 then 1 else 0) * u h = u h
  rw [if_pos rfl]
  grind
theorem ev_pc1 (A B : Nat → Rat) (u : Nat → Rat) : ev A B (pc A B 1) 2 u = fun h => J A B u h - A 0 * u h := by
  funext h
  show ((0 : Rat) + ((if 0 = 0 then 0 else _) - A 0 * (if 0 = 0 then 1 else 0)) * u h) + ((if 1 = 0 then (0 : Rat) else if 1 = 1 then 1 else 0) - A 0 * (if 1 = 0 then 1 else 0)) * J A B u h = _
  rw [if_pos rfl, if_pos rfl, if_neg (by decide), if_pos rfl, if_neg (by decide)]
  grind
/-- a polynomial at J commutes with J -/
theorem ev_J (A B c : Nat → Rat) (n : Nat) (u : Nat → Rat) : ev A B c n (J A B u) = J A B (ev A B c n u) := by
  show _ = J A B (fun h => sm (fun i => c i * Jn A B i u h) n)
  rw [J_sm]
  funext h
  refine sm_congr fun i _ => ?_
  rw [Jn_in]
  rfl
theorem up2 {f : Nat → Prop} (h0 : f 0) (h1 : f 1) (h : ∀ k, f k → f (k + 1) → f (k + 2)) : ∀ k, f k := by
  have : ∀ k, f k ∧ f (k + 1) := by
    intro k
    induction k with
    | zero => exact ⟨h0, h1⟩
    | succ k ih => exact ⟨ih.2, h k ih.1 ih.2⟩
  exact fun k => (this k).1
/-- the k-th polynomial takes the first function to the k-th -/
theorem favard1 (A B : Nat → Rat) : ∀ k, ev A B (pc A B k) (k + 1) (ek 0) = ek k := by
  refine up2 (ev_pc0 A B _) ?_ fun k h1 h2 => ?_
  · rw [ev_pc1, J_ek]
    funext h
    show ek 1 h + A 0 * ek 0 h + (if 0 = 0 then 0 else _) - A 0 * ek 0 h = ek 1 h
    rw [if_pos rfl]
    grind
  · rw [ev_pc2, ev_J, h1, h2, J_ek]
    funext h
    show ek (k + 1 + 1) h + A (k + 1) * ek (k + 1) h + (if k + 1 = 0 then 0 else B (k + 1 - 1) * ek (k + 1 - 1) h) - A (k + 1) * ek (k + 1) h - B k * ek k h = ek (k + 2) h
    rw [if_neg (by omega), Nat.add_sub_cancel]
    grind
/-- the product of the first k steps -/
def pB (B : Nat → Rat) : Nat → Rat
  | 0 => 1
  | k + 1 => pB B k * B k
theorem favard2 (A B : Nat → Rat) : ∀ k, ∀ u : Nat → Rat, ev A B (pc A B k) (k + 1) u 0 = pB B k * u k := by
  refine up2 (fun u => ?_) (fun u => ?_) fun k h1 h2 u => ?_
  · rw [ev_pc0]
    show u 0 = 1 * u 0
    grind
  · rw [ev_pc1]
    show (if 0 = 0 then (0 : Rat) else _) + A 0 * u 0 + B 0 * u 1 - A 0 * u 0 = 1 * B 0 * u 1
    rw [if_pos rfl]
    grind
  · rw [ev_pc2]
    show ev A B (pc A B (k + 1)) (k + 2) (J A B u) 0 - A (k + 1) * ev A B (pc A B (k + 1)) (k + 2) u 0 - B k * ev A B (pc A B k) (k + 1) u 0 = _
    rw [h2, h2, h1]
    show pB B (k + 1) * ((if k + 1 = 0 then (0 : Rat) else u (k + 1 - 1)) + A (k + 1) * u (k + 1) + B (k + 1) * u (k + 1 + 1)) - _ - _ = pB B (k + 1) * B (k + 1) * u (k + 2)
    rw [if_neg (by omega), Nat.add_sub_cancel]
    show pB B k * B k * _ - A (k + 1) * (pB B k * B k * u (k + 1)) - _ = pB B k * B k * B (k + 1) * u (k + 2)
    grind
/-- an ended ladder: above the end nothing comes back -/
theorem ended_zero (A B : Nat → Rat) {m : Nat} (hB : B (m - 1) = 0) (hm : 0 < m) : ∀ k h, h < m → Jn A B k (ek m) h = 0
  | 0, h, hh => by
    show (if h = m then (1 : Rat) else 0) = 0
    rw [if_neg (by omega)]
  | k + 1, h, hh => by
    show (if h = 0 then (0 : Rat) else Jn A B k (ek m) (h - 1)) + A h * Jn A B k (ek m) h + B h * Jn A B k (ek m) (h + 1) = 0
    rw [ended_zero A B hB hm k h hh]
    have e : B h * Jn A B k (ek m) (h + 1) = 0 := by
      by_cases c : h + 1 < m
      · rw [ended_zero A B hB hm k (h + 1) c]
        grind
      · rw [show h = m - 1 by omega, hB]
        grind
    rw [e]
    split
    · grind
    · rw [ended_zero A B hB hm k (h - 1) (by omega)]
      grind
end Fq


set_option linter.all false
set_option maxRecDepth 100000
set_option maxHeartbeats 400000
namespace Fq
open Rs (co co_get co_lt co_ge co_mem co_all)
/-! ### sizes: over 6^n, at most 2^(9n) -/
structure Zs (n : Nat) (q : F) : Prop where
  ok : Ok q
  v : ∃ t : Int, Vl q t (6 ^ n) ∧ t.natAbs ≤ 2 ^ (9 * n)
theorem six_pos (n : Nat) : (0 : Int) < 6 ^ n := Int.pow_pos (by decide)
theorem p9 (n : Nat) : 2 ^ (9 * (n + 1)) = 2 ^ (9 * n) * 512 := by
  rw [show 9 * (n + 1) = 9 * n + 9 by omega, Nat.pow_add]
theorem Zs.up {n : Nat} {q : F} (h : Zs n q) : Zs (n + 1) q := by
  obtain ⟨o, t, v, l⟩ := h
  refine ⟨o, t * 6, ?_, ?_⟩
  · rw [Int.pow_succ]
    exact vl_times 6 v
  · rw [Int.natAbs_mul, p9]
    exact Nat.mul_le_mul l (by decide)
theorem Zs.mono {n m : Nat} {q : F} (h : Zs n q) (e : n ≤ m) : Zs m q := by
  induction e with
  | refl => exact h
  | step _ ih => exact ih.up
theorem Zs.zero {n : Nat} : Zs n (0, 1) := ⟨ok01, 0, by show (0 : Int) * _ = 0 * 1; rw [Int.zero_mul, Int.zero_mul], Nat.zero_le _⟩
theorem Zs.one {n : Nat} : Zs n (1, 1) := Zs.mono (n := 0) ⟨⟨by decide, by decide⟩, 1, by show (1 : Int) * 1 = 1 * 1; rfl, by decide⟩ (Nat.zero_le n)
theorem Zs.mul {n m : Nat} {q r : F} (h : Zs n q) (g : Zs m r) : Zs (n + m) (mul q r) := by
  obtain ⟨o, t, v, l⟩ := h
  obtain ⟨o', t', v', l'⟩ := g
  refine ⟨ok_mul' o.1 o'.1, t * t', ?_, ?_⟩
  · rw [Int.pow_add]
    exact vl_mul o.1 o'.1 v v'
  · rw [Int.natAbs_mul, Nat.mul_add, Nat.pow_add]
    exact Nat.mul_le_mul l l'
theorem vl_sub {q r : F} {a b c d : Int} (hq : 0 < q.2) (hr : 0 < r.2) (h1 : Vl q a b) (h2 : Vl r c d) : Vl (sub q r) (a * d - c * b) (b * d) := by
  have hm : 0 < q.2 * r.2 := Int.mul_pos hq hr
  have v := vl_red (a := q.1 * r.2 - r.1 * q.2) hm
  unfold Vl at *
  show (red _ _).1 * _ = _ * (red _ _).2
  generalize red (q.1 * r.2 - r.1 * q.2) (q.2 * r.2) = s at *
  refine mul_cancel (m := q.2 * r.2) (by omega) ?_
  generalize q.1 = q1 at *; generalize q.2 = q2 at *; generalize r.1 = r1 at *; generalize r.2 = r2 at *; generalize s.1 = s1 at *; generalize s.2 = s2 at *
  have e : s1 * (b * d) * (q2 * r2) = (s1 * (q2 * r2)) * (b * d) := by grind
  rw [e, v]
  have e2 : (q1 * r2 - r1 * q2) * s2 * (b * d) = s2 * ((q1 * b) * r2 * d - (r1 * d) * q2 * b) := by grind
  rw [e2, h1, h2]
  grind
theorem vl_same {q : F} {x D : Int} (hD : 0 < D) (h : Vl q (x * D) (D * D)) : Vl q x D := by
  unfold Vl at *
  refine mul_cancel (m := D) (by omega) ?_
  rw [Int.mul_assoc, h]
  grind
theorem Zs.add {n : Nat} {q r : F} (h : Zs n q) (g : Zs n r) : Zs (n + 1) (add q r) := by
  obtain ⟨o, t, v, l⟩ := h
  obtain ⟨o', t', v', l'⟩ := g
  have s := vl_add o.1 o'.1 v v'
  rw [← Int.add_mul] at s
  refine ⟨ok_add' o.1 o'.1, (t + t') * 6, ?_, ?_⟩
  · rw [Int.pow_succ]
    exact vl_times 6 (vl_same (six_pos n) s)
  · have := Int.natAbs_add_le t t'
    rw [Int.natAbs_mul, p9, show (6 : Int).natAbs = 6 from rfl]
    generalize 2 ^ (9 * n) = X at *
    omega
theorem Zs.sub {n : Nat} {q r : F} (h : Zs n q) (g : Zs n r) : Zs (n + 1) (sub q r) := by
  obtain ⟨o, t, v, l⟩ := h
  obtain ⟨o', t', v', l'⟩ := g
  have s := vl_sub o.1 o'.1 v v'
  rw [← Int.sub_mul] at s
  refine ⟨ok_sub' o.1 o'.1, (t - t') * 6, ?_, ?_⟩
  · rw [Int.pow_succ]
    exact vl_times 6 (vl_same (six_pos n) s)
  · have := Int.natAbs_sub_le t t'
    rw [Int.natAbs_mul, p9, show (6 : Int).natAbs = 6 from rfl]
    generalize 2 ^ (9 * n) = X at *
    omega
/-- what the reckoning wants of a size -/
theorem Zs.small {n : Nat} {q : F} (h : Zs n q) (e : n ≤ 400) : q.1.natAbs < 2 ^ 4000 ∧ 0 < q.2 ∧ q.2.natAbs < 2 ^ 4000 := by
  obtain ⟨o, t, v, l⟩ := h
  have d := vl_dvd o v
  have p := six_pos n
  have s : q.2 ≤ 6 ^ n := Int.le_of_dvd p d
  obtain ⟨x, hx⟩ := d
  have x0 : 0 < x := by
    rw [hx] at p
    exact Int.pos_of_mul_pos_right p o.1 |> id
  have et : q.1 * x = t := by
    unfold Vl at v
    refine mul_cancel (m := q.2) (by have := o.1; omega) ?_
    rw [← v, hx]
    grind
  have b : 2 ^ (9 * n) < 2 ^ 4000 := Nat.pow_lt_pow_right (by decide) (by omega)
  have c : (6 ^ n : Nat) < 2 ^ 4000 := by
    refine Nat.lt_of_le_of_lt ?_ b
    rw [Nat.pow_mul]
    exact Nat.pow_le_pow_left (by decide) n
  refine ⟨?_, o.1, ?_⟩
  · refine Nat.lt_of_le_of_lt (Nat.le_trans ?_ l) b
    rw [← et, Int.natAbs_mul]
    exact Nat.le_mul_of_pos_right _ (by omega)
  · refine Nat.lt_of_le_of_lt ?_ c
    have e2 : ((6 ^ n : Nat) : Int) = 6 ^ n := by rw [Int.natCast_pow]; rfl
    have := o.1
    omega
/-- a small fraction: the law's levels, steps and totals -/
theorem Zs.of {q : F} (o : Ok q) (d : q.2 ∣ 6) (a : q.1.natAbs ≤ 85) : Zs 1 q := by
  obtain ⟨x, hx⟩ := d
  have x0 : 0 < x := by
    have : 0 < q.2 * x := by omega
    exact Int.pos_of_mul_pos_right this o.1 |> id
  have x6 : x ≤ 6 := by
    have := o.1
    have h1 : 1 * x ≤ q.2 * x := Int.mul_le_mul_of_nonneg_right (by omega) (by omega)
    omega
  refine ⟨o, q.1 * x, ?_, ?_⟩
  · show q.1 * 6 ^ 1 = q.1 * x * q.2
    rw [Int.pow_one, hx]
    grind
  · rw [Int.natAbs_mul]
    have : q.1.natAbs * x.natAbs ≤ 85 * 6 := Nat.mul_le_mul a (by omega)
    have : 2 ^ (9 * 1) = 512 := by decide
    omega
/-! ### lists of fractions -/
def Za (n : Nat) (l : List F) : Prop := ∀ q ∈ l, Zs n q
theorem Za.co {n : Nat} {l : List F} (h : Za n l) (k : Nat) : Zs n (Rs.co l k) := co_all h Zs.zero k
theorem Za.mono {n m : Nat} {l : List F} (h : Za n l) (e : n ≤ m) : Za m l := fun q hq => (h q hq).mono e
/-- a list of fractions by its worths -/
theorem list_eq {n m : Nat} {a b : List F} (ha : Za n a) (hb : Za m b) (hl : a.length = b.length) (h : ∀ i, i < a.length → val (co a i) = val (co b i)) : a = b := by
  refine List.ext_getElem? fun i => ?_
  by_cases c : i < a.length
  · rw [co_lt c, co_lt (hl ▸ c), val_inj (ha.co i).ok (hb.co i).ok (h i c)]
  · rw [List.getElem?_eq_none (by omega), List.getElem?_eq_none (by omega)]
theorem co_map {n : Nat} {f : Nat → F} {k : Nat} : co ((List.range n).map f) k = if k < n then f k else (0, 1) := by
  split
  · rename_i h
    refine co_get ?_
    rw [List.getElem?_map, List.getElem?_range h]
    rfl
  · rename_i h
    exact co_ge (by simp; omega)
theorem co_map1 {l : List F} {f : F → F} {k : Nat} : co (l.map f) k = if k < l.length then f (co l k) else (0, 1) := by
  split
  · rename_i h
    refine co_get ?_
    rw [List.getElem?_map, co_lt h]
    rfl
  · rename_i h
    exact co_ge (by simp; omega)
theorem trimN_co (qs : List F) : ∀ n, n ≤ qs.length → ∀ i, co (Rs.trimN qs n) i = if i < n then co qs i else (0, 1)
  | 0, _, i => by
    rw [if_neg (by omega)]
    exact co_ge (Nat.zero_le _)
  | n + 1, h, i => by
    unfold Rs.trimN
    split
    · rename_i z
      rw [trimN_co qs n (by omega)]
      by_cases c : i < n
      · rw [if_pos c, if_pos (by omega)]
      · by_cases e : i = n
        · subst e
          rw [if_neg c, if_pos (by omega), z]
        · rw [if_neg c, if_neg (by omega)]
    · split
      · rename_i c
        refine co_get ?_
        rw [List.getElem?_take_of_lt (by omega), co_lt (by omega)]
      · exact co_ge (by rw [List.length_take]; omega)
theorem trim_co (qs : List F) (i : Nat) : co (Rs.trim qs) i = co qs i := by
  unfold Rs.trim
  rw [trimN_co qs _ (Nat.le_refl _)]
  split
  · rfl
  · rw [co_ge (by omega)]
theorem trim_za {n : Nat} {l : List F} (h : Za n l) : Za n (Rs.trim l) := fun q hq => h q (Rs.trim_mem hq)
/-! ### sums -/
def sumF (z : F) (l : List F) : F := l.foldl add z
theorem sumF_snoc (z : F) (l : List F) (q : F) : sumF z (l ++ [q]) = add (sumF z l) q := by
  unfold sumF
  rw [List.foldl_append]
  rfl
theorem sum_map {n : Nat} {g : Nat → F} (h : ∀ i, Zs n (g i)) : ∀ m, Zs (n + m) (sumF (0, 1) ((List.range m).map g)) ∧ val (sumF (0, 1) ((List.range m).map g)) = sm (fun i => val (g i)) m
  | 0 => ⟨Zs.zero, val_zero⟩
  | m + 1 => by
    obtain ⟨a, b⟩ := sum_map h m
    rw [List.range_succ, List.map_append, List.map_singleton, sumF_snoc]
    refine ⟨a.add ((h m).mono (by omega)), ?_⟩
    rw [val_add a.ok.1 (h m).ok.1, b]
    rfl
def sumBy (some row : List F) : F := sumF (0, 1) (List.zipWith mul some row)
theorem zip_map {a b : List F} (h : a.length ≤ b.length) : List.zipWith mul a b = (List.range a.length).map fun i => mul (co a i) (co b i) := by
  refine List.ext_getElem? fun i => ?_
  rw [List.getElem?_zipWith]
  by_cases c : i < a.length
  · rw [co_lt c, co_lt (Nat.lt_of_lt_of_le c h), List.getElem?_map, List.getElem?_range c]
    rfl
  · rw [List.getElem?_eq_none (by omega), List.getElem?_eq_none (l := List.map _ _) (by simp; omega)]
theorem sumBy_val {n m : Nat} {a b : List F} (ha : Za n a) (hb : Za m b) (h : a.length ≤ b.length) :
    Zs (n + m + a.length) (sumBy a b) ∧ val (sumBy a b) = sm (fun i => val (co a i) * val (co b i)) a.length := by
  unfold sumBy
  rw [zip_map h]
  obtain ⟨x, y⟩ := sum_map (g := fun i => mul (co a i) (co b i)) (fun i => (ha.co i).mul (hb.co i)) a.length
  refine ⟨x, ?_⟩
  rw [y]
  refine sm_congr fun i _ => ?_
  exact val_mul (ha.co i).ok.1 (hb.co i).ok.1
/-! ### products -/
theorem co_set {w : List F} {k : Nat} (x : F) (hk : k < w.length) (m : Nat) : co (w.set k x) m = if m = k then x else co w m := by
  split
  · rename_i e
    subst e
    exact co_get (List.getElem?_set_self hk)
  · rename_i e
    unfold Rs.co
    rw [List.getD_eq_getElem?_getD, List.getD_eq_getElem?_getD, List.getElem?_set_ne (by omega)]
theorem sm_upd (g : Nat → Rat) (c : Rat) (k : Nat) : ∀ n, k < n → sm (fun m => if m = k then g m + c else g m) n = sm g n + c
  | 0, h => absurd h (by omega)
  | n + 1, h => by
    by_cases e : k = n
    · subst e
      show sm _ k + (if k = k then g k + c else g k) = sm g k + g k + c
      rw [if_pos rfl, sm_congr (g := g) (fun i hi => if_neg (by omega))]
      grind
    · show sm _ n + (if n = k then g n + c else g n) = sm g n + g n + c
      rw [if_neg (by omega), sm_upd g c k n (by omega)]
      grind
def wt (f : Nat → Rat) (w : List F) : Rat := sm (fun m => val (co w m) * f m) w.length
theorem wt_set {n : Nat} {w : List F} (hw : Za n w) {y : F} (hy : 0 < y.2) (f : Nat → Rat) {k : Nat} (hk : k < w.length) : wt f (w.set k (add (co w k) y)) = wt f w + val y * f k := by
  unfold wt
  rw [List.length_set, ← sm_upd (fun m => val (co w m) * f m) (val y * f k) k w.length hk]
  refine sm_congr fun m _ => ?_
  show val (co (w.set k _) m) * f m = _
  rw [co_set _ hk]
  split
  · rename_i e
    subst e
    rw [val_add (hw.co m).ok.1 hy]
    grind
  · rfl
theorem za_set {n : Nat} {w : List F} (hw : Za n w) {y : F} (hy : Zs n y) (k : Nat) : Za n (w.set k y) := fun q hq => by
  rcases List.mem_or_eq_of_mem_set hq with m | rfl
  · exact hw q m
  · exact hy
theorem stepJ_wt {n a b i : Nat} {w : List F} {p : F} {rs : List F} (hw : Za n w) (hp : Zs a p) (hr : Za b rs) (hn : a + b ≤ n) (f : Nat → Rat) : ∀ j, i + j ≤ w.length →
    Za (n + j) (Rs.stepJ w i p rs j) ∧ wt f (Rs.stepJ w i p rs j) = wt f w + val p * sm (fun j => val (co rs j) * f (i + j)) j
  | 0, _ => ⟨hw, by show wt f w = wt f w + val p * 0; grind⟩
  | j + 1, h => by
    obtain ⟨x, y⟩ := stepJ_wt (i := i) hw hp hr hn f j (by omega)
    have l := Rs.stepJ_len w i p rs j
    have z : Zs (n + j) (mul p (co rs j)) := (hp.mul (hr.co j)).mono (by omega)
    refine ⟨za_set (x.mono (Nat.le_succ _)) ((x.co _).add z) _, ?_⟩
    show wt f (List.set _ _ _) = _
    rw [wt_set x z.ok.1 f (by omega), y, val_mul hp.ok.1 (hr.co j).ok.1]
    show _ = wt f w + val p * (sm _ j + val (co rs j) * f (i + j))
    grind
theorem stepI_wt {n a b : Nat} {w qs rs : List F} (hw : Za n w) (hq : Za a qs) (hr : Za b rs) (hn : a + b ≤ n) (f : Nat → Rat) : ∀ i, i + rs.length ≤ w.length + 1 →
    Za (n + i * rs.length) (Rs.stepI w qs rs i) ∧ wt f (Rs.stepI w qs rs i) = wt f w + sm (fun i => val (co qs i) * sm (fun j => val (co rs j) * f (i + j)) rs.length) i
  | 0, _ => ⟨by rw [Nat.zero_mul]; exact hw, by show wt f w = wt f w + 0; grind⟩
  | i + 1, h => by
    obtain ⟨x, y⟩ := stepI_wt hw hq hr hn f i (by omega)
    have l := Rs.stepI_len w qs rs i
    obtain ⟨u, v⟩ := stepJ_wt (i := i) x (hq.co i) hr (by omega) f rs.length (by omega)
    refine ⟨?_, ?_⟩
    · rw [Nat.succ_mul, ← Nat.add_assoc]
      exact u
    · show wt f (Rs.stepJ _ _ _ _ _) = _
      rw [v, y]
      show _ = wt f w + (sm _ i + _)
      grind
theorem prodN_wt {a b : Nat} {qs rs : List F} (hq : Za a qs) (hr : Za b rs) (h1 : qs ≠ []) (h2 : rs ≠ []) (f : Nat → Rat) :
    Za (a + b + qs.length * rs.length) (Rs.prodN (qs.length + rs.length - 1) qs rs) ∧
    wt f (Rs.prodN (qs.length + rs.length - 1) qs rs) = sm (fun i => val (co qs i) * sm (fun j => val (co rs j) * f (i + j)) rs.length) qs.length := by
  have l1 : 0 < qs.length := List.length_pos_iff.mpr h1
  have l2 : 0 < rs.length := List.length_pos_iff.mpr h2
  have hw : Za (a + b) (List.replicate (qs.length + rs.length - 1) ((0, 1) : F)) := fun q hq => by
    rw [(List.mem_replicate.mp hq).2]
    exact Zs.zero
  obtain ⟨x, y⟩ := stepI_wt hw hq hr (Nat.le_refl _) f qs.length (by rw [List.length_replicate]; omega)
  refine ⟨x, ?_⟩
  unfold Rs.prodN
  rw [y]
  have : wt f (List.replicate (qs.length + rs.length - 1) ((0, 1) : F)) = 0 := by
    refine sm_zero fun i _ => ?_
    have : co (List.replicate (qs.length + rs.length - 1) ((0, 1) : F)) i = (0, 1) := by
      unfold Rs.co
      rw [List.getD_eq_getElem?_getD]
      cases e : (List.replicate (qs.length + rs.length - 1) ((0, 1) : F))[i]? with
      | none => rfl
      | some q => exact (List.mem_replicate.mp (List.mem_of_getElem? e)).2
    rw [this, val_zero]
    grind
  rw [this]
  grind
end Fq


set_option linter.all false
set_option maxRecDepth 100000
set_option maxHeartbeats 400000
namespace Fq
open Rs (co co_get co_lt co_ge co_mem co_all)
/-! ### sums of ways -/
def stepH (s ls ss : List F) (h : Nat) : F :=
  let w0 := if 0 < h then co s (h - 1) else (0, 1)
  let w1 := if h < s.length ∧ h < ls.length then add w0 (mul (co ls h) (co s h)) else w0
  if h + 1 < s.length ∧ h < ss.length then add w1 (mul (co ss h) (co s (h + 1))) else w1
def stepL (s ls ss : List F) : List F := (List.range (s.length + 1)).map (stepH s ls ss)
def sumsL (ls ss : List F) : Nat → List F
  | 0 => [(1, 1)]
  | n + 1 => stepL (sumsL ls ss n) ls ss
def rowL (T : F) (ls ss : List F) (n : Nat) : List F := T :: (List.range n).map fun k => mul T (co (sumsL ls ss (k + 1)) 0)
def wA (ls : List F) : Nat → Rat := fun h => val (co ls h)
theorem wA_hi {ls : List F} {h : Nat} (e : ls.length ≤ h) : wA ls h = 0 := by
  unfold wA
  rw [co_ge e, val_zero]
theorem stepH_ok {n : Nat} {s ls ss : List F} (hs : Za n s) (hl : Za 1 ls) (hb : Za 1 ss) (h : Nat) :
    Zs (n + 3) (stepH s ls ss h) ∧ val (stepH s ls ss h) = J (wA ls) (wA ss) (wA s) h := by
  have t0 : Zs n (if 0 < h then co s (h - 1) else (0, 1)) ∧ val (if 0 < h then co s (h - 1) else (0, 1)) = (if h = 0 then 0 else wA s (h - 1)) := by
    by_cases c : 0 < h
    · rw [if_pos c, if_neg (by omega)]
      exact ⟨hs.co _, rfl⟩
    · rw [if_neg c, if_pos (by omega)]
      exact ⟨Zs.zero, val_zero⟩
  unfold stepH
  generalize (if 0 < h then co s (h - 1) else (0, 1)) = w0 at *
  have t1 : Zs (n + 2) (if h < s.length ∧ h < ls.length then add w0 (mul (co ls h) (co s h)) else w0) ∧ val (if h < s.length ∧ h < ls.length then add w0 (mul (co ls h) (co s h)) else w0) = (if h = 0 then 0 else wA s (h - 1)) + wA ls h * wA s h := by
    have m : Zs (n + 1) (mul (co ls h) (co s h)) := ((hl.co h).mul (hs.co h)).mono (by omega)
    by_cases c : h < s.length ∧ h < ls.length
    · rw [if_pos c]
      refine ⟨(t0.1.up).add m, ?_⟩
      rw [val_add t0.1.ok.1 m.ok.1, t0.2, val_mul (hl.co h).ok.1 (hs.co h).ok.1]
      rfl
    · rw [if_neg c]
      refine ⟨t0.1.mono (by omega), ?_⟩
      have : wA ls h * wA s h = 0 := by
        by_cases z : h < s.length
        · rw [wA_hi (ls := ls) (by omega)]
          grind
        · rw [wA_hi (ls := s) (by omega)]
          grind
      rw [this, t0.2]
      grind
  show Zs (n + 3) (if h + 1 < s.length ∧ h < ss.length then add (if h < s.length ∧ h < ls.length then add w0 (mul (co ls h) (co s h)) else w0) (mul (co ss h) (co s (h + 1))) else (if h < s.length ∧ h < ls.length then add w0 (mul (co ls h) (co s h)) else w0)) ∧ val (if h + 1 < s.length ∧ h < ss.length then add (if h < s.length ∧ h < ls.length then add w0 (mul (co ls h) (co s h)) else w0) (mul (co ss h) (co s (h + 1))) else (if h < s.length ∧ h < ls.length then add w0 (mul (co ls h) (co s h)) else w0)) = _
  generalize (if h < s.length ∧ h < ls.length then add w0 (mul (co ls h) (co s h)) else w0) = w1 at *
  have m : Zs (n + 1) (mul (co ss h) (co s (h + 1))) := ((hb.co h).mul (hs.co (h + 1))).mono (by omega)
  unfold J
  by_cases c : h + 1 < s.length ∧ h < ss.length
  · rw [if_pos c]
    refine ⟨t1.1.add (m.mono (by omega)), ?_⟩
    rw [val_add t1.1.ok.1 m.ok.1, t1.2, val_mul (hb.co h).ok.1 (hs.co (h + 1)).ok.1]
    rfl
  · rw [if_neg c]
    refine ⟨t1.1.mono (by omega), ?_⟩
    have : wA ss h * wA s (h + 1) = 0 := by
      by_cases z : h + 1 < s.length
      · rw [wA_hi (ls := ss) (by omega)]
        grind
      · rw [wA_hi (ls := s) (by omega)]
        grind
    rw [this, t1.2]
    grind
theorem stepL_len (s ls ss : List F) : (stepL s ls ss).length = s.length + 1 := by simp [stepL]
theorem stepL_ok {n : Nat} {s ls ss : List F} (hs : Za n s) (hl : Za 1 ls) (hb : Za 1 ss) : Za (n + 3) (stepL s ls ss) ∧ wA (stepL s ls ss) = J (wA ls) (wA ss) (wA s) := by
  refine ⟨fun q hq => ?_, ?_⟩
  · obtain ⟨h, _, rfl⟩ := List.mem_map.mp hq
    exact (stepH_ok hs hl hb h).1
  · funext h
    have t := (stepH_ok hs hl hb h).2
    show val (co _ h) = _
    unfold stepL
    rw [co_map]
    split
    · exact t
    · rename_i c
      rw [← t]
      have : stepH s ls ss h = (0, 1) := by
        simp only [stepH]
        rw [if_neg (c := h < s.length ∧ h < ls.length) (by omega), if_neg (by omega), if_pos (by omega), co_ge (by omega)]
      rw [this]
theorem ek0 : wA [(1, 1)] = ek 0 := by
  funext h
  unfold wA ek
  cases h with
  | zero => exact val_one
  | succ h =>
    rw [co_ge (by simp), if_neg (by omega), val_zero]
theorem sumsL_len (ls ss : List F) : ∀ n, (sumsL ls ss n).length = n + 1
  | 0 => rfl
  | n + 1 => by
    show (stepL _ _ _).length = _
    rw [stepL_len, sumsL_len ls ss n]
theorem sumsL_ok {ls ss : List F} (hl : Za 1 ls) (hb : Za 1 ss) : ∀ n, Za (3 * n) (sumsL ls ss n) ∧ wA (sumsL ls ss n) = Jn (wA ls) (wA ss) n (ek 0)
  | 0 => ⟨fun q hq => by rw [List.mem_singleton.mp hq]; exact Zs.one, ek0⟩
  | n + 1 => by
    obtain ⟨a, b⟩ := sumsL_ok hl hb n
    obtain ⟨c, d⟩ := stepL_ok a hl hb
    refine ⟨c, ?_⟩
    show wA (stepL _ _ _) = J _ _ _
    rw [d, b]
theorem rowL_len (T : F) (ls ss : List F) (n : Nat) : (rowL T ls ss n).length = n + 1 := by simp [rowL]
theorem rowL_zero {T : F} {ls ss : List F} {n : Nat} : co (rowL T ls ss n) 0 = T := rfl
theorem rowL_ok {T : F} {ls ss : List F} (hT : Zs 1 T) (hl : Za 1 ls) (hb : Za 1 ss) (n : Nat) :
    Za (3 * n + 1) (rowL T ls ss n) ∧ ∀ k, k ≤ n → val (co (rowL T ls ss n) k) = val T * Jn (wA ls) (wA ss) k (ek 0) 0 := by
  refine ⟨fun q hq => ?_, fun k hk => ?_⟩
  · rcases List.mem_cons.mp hq with rfl | hq
    · exact hT.mono (by omega)
    · obtain ⟨k, hk, rfl⟩ := List.mem_map.mp hq
      have := List.mem_range.mp hk
      exact (hT.mul ((sumsL_ok hl hb (k + 1)).1.co 0)).mono (by omega)
  · cases k with
    | zero =>
      rw [rowL_zero]
      show _ = val T * (if 0 = 0 then 1 else 0)
      rw [if_pos rfl]
      grind
    | succ k =>
      have e : co (rowL T ls ss n) (k + 1) = mul T (co (sumsL ls ss (k + 1)) 0) := by
        refine co_get ?_
        show ((List.range n).map _)[k]? = _
        rw [List.getElem?_map, List.getElem?_range (by omega)]
        rfl
      obtain ⟨a, b⟩ := sumsL_ok hl hb (k + 1)
      rw [e, val_mul hT.ok.1 (a.co 0).ok.1, ← b]
      rfl
theorem rowL_take (T : F) (ls ss : List F) {n m : Nat} (h : n ≤ m) : rowL T ls ss n = (rowL T ls ss m).take (n + 1) := by
  unfold rowL
  rw [List.take_succ_cons, ← List.map_take, List.take_range, Nat.min_eq_left h]
/-! ### the law's own rungs -/
def lsr (a b : List F) : List F := (List.range a.length).map fun k => if k < b.length then sub (co a k) (co b k) else co a k
theorem lsr_len (a b : List F) : (lsr a b).length = a.length := by simp [lsr]
theorem lsr_ok {n : Nat} {a b : List F} (ha : Za n a) (hb : Za n b) (hl : b.length ≤ a.length) : Za (n + 1) (lsr a b) ∧ ∀ i, val (co (lsr a b) i) = val (co a i) - val (co b i) := by
  have t : ∀ i, Zs (n + 1) (if i < b.length then sub (co a i) (co b i) else co a i) ∧ val (if i < b.length then sub (co a i) (co b i) else co a i) = val (co a i) - val (co b i) := by
    intro i
    split
    · exact ⟨(ha.co i).sub (hb.co i), val_sub (ha.co i).ok.1 (hb.co i).ok.1⟩
    · refine ⟨(ha.co i).up, ?_⟩
      rw [co_ge (qs := b) (by omega), val_zero]
      grind
  refine ⟨fun q hq => ?_, fun i => ?_⟩
  · obtain ⟨k, _, rfl⟩ := List.mem_map.mp hq
    exact (t k).1
  · unfold lsr
    rw [co_map]
    split
    · exact (t i).2
    · rw [co_ge (qs := a) (by omega), co_ge (qs := b) (by omega), val_zero]
      grind
def scl (c : F) (a : List F) : List F := a.map (mul c)
theorem scl_ok {n m : Nat} {c : F} {a : List F} (hc : Zs n c) (ha : Za m a) : Za (n + m) (scl c a) ∧ (∀ i, val (co (scl c a) i) = val c * val (co a i)) ∧ (scl c a).length = a.length := by
  refine ⟨fun q hq => ?_, fun i => ?_, List.length_map _⟩
  · obtain ⟨r, hr, rfl⟩ := List.mem_map.mp hq
    exact hc.mul (ha r hr)
  · unfold scl
    rw [co_map1]
    split
    · exact val_mul hc.ok.1 (ha.co i).ok.1
    · rw [co_ge (qs := a) (by omega), val_zero]
      grind
def ruled (ls ss : List F) : Nat → List F
  | 0 => [(1, 1)]
  | 1 => lsr ((0, 1) :: [(1, 1)]) (scl (co ls 0) [(1, 1)])
  | k + 2 => lsr (lsr ((0, 1) :: ruled ls ss (k + 1)) (scl (co ls (k + 1)) (ruled ls ss (k + 1)))) (scl (co ss k) (ruled ls ss k))
theorem shift_co (a : List F) (i : Nat) : co ((0, 1) :: a) i = if i = 0 then (0, 1) else co a (i - 1) := by
  cases i with
  | zero => rfl
  | succ i =>
    rw [if_neg (by omega), Nat.add_sub_cancel]
    rfl
theorem shift_ok {n : Nat} {a : List F} (h : Za n a) : Za n ((0, 1) :: a) ∧ ∀ i, val (co ((0, 1) :: a) i) = if i = 0 then 0 else val (co a (i - 1)) := by
  refine ⟨fun q hq => ?_, fun i => ?_⟩
  · rcases List.mem_cons.mp hq with rfl | hq
    · exact Zs.zero
    · exact h q hq
  · rw [shift_co]
    split
    · exact val_zero
    · rfl
/-- a list with these worths -/
structure Pf (ls ss : List F) (k : Nat) (p : List F) : Prop where
  l : p.length = k + 1
  z : Za (3 * k) p
  v : ∀ i, val (co p i) = pc (wA ls) (wA ss) k i
theorem one_v (i : Nat) : val (co [(1, 1)] i) = if i = 0 then 1 else 0 := by
  have := congrFun ek0 i
  exact this
theorem za_one {n : Nat} : Za n [(1, 1)] := fun q hq => by rw [List.mem_singleton.mp hq]; exact Zs.one
theorem ruled_pf {ls ss : List F} (hl : Za 1 ls) (hb : Za 1 ss) : ∀ k, Pf ls ss k (ruled ls ss k) := by
  refine up2 ⟨rfl, za_one, one_v⟩ ?_ fun k h1 h2 => ?_
  · obtain ⟨s1, s2⟩ := shift_ok (za_one (n := 1))
    obtain ⟨c1, c2, c3⟩ := scl_ok (hl.co 0) (za_one (n := 0))
    obtain ⟨l1, l2⟩ := lsr_ok s1 c1 (by rw [c3]; decide)
    refine ⟨by show (lsr _ _).length = _; rw [lsr_len]; rfl, l1.mono (by decide), fun i => ?_⟩
    show val (co (lsr _ _) i) = _
    rw [l2, s2, c2, one_v]
    show _ = (if i = 0 then (0 : Rat) else if i = 1 then 1 else 0) - wA ls 0 * (if i = 0 then 1 else 0)
    rw [one_v]
    by_cases c : i = 0
    · rw [if_pos c, if_pos c, if_pos c]
      rfl
    · rw [if_neg c, if_neg c, if_neg c]
      have : (if i - 1 = 0 then (1 : Rat) else 0) = if i = 1 then 1 else 0 := by
        by_cases d : i = 1
        · rw [if_pos (by omega), if_pos d]
        · rw [if_neg (by omega), if_neg d]
      rw [this]
      rfl
  · obtain ⟨s1, s2⟩ := shift_ok h2.z
    obtain ⟨c1, c2, c3⟩ := scl_ok (hl.co (k + 1)) h2.z
    obtain ⟨l1, l2⟩ := lsr_ok (s1.mono (m := 1 + 3 * (k + 1)) (by omega)) c1 (by rw [c3, List.length_cons]; omega)
    obtain ⟨d1, d2, d3⟩ := scl_ok (hb.co k) h1.z
    obtain ⟨m1, m2⟩ := lsr_ok l1 (d1.mono (by omega)) (by rw [d3, lsr_len, List.length_cons, h1.l, h2.l]; omega)
    refine ⟨?_, m1.mono (by omega), fun i => ?_⟩
    · show (lsr (lsr _ _) _).length = _
      rw [lsr_len, lsr_len, List.length_cons, h2.l]
    · show val (co (lsr (lsr _ _) _) i) = _
      rw [m2, l2, s2, c2, d2, h2.v, h2.v, h1.v]
      rfl
/-! ### the program's rungs -/
def plL (a b : List F) : List F := Rs.trim (Rs.byPower sub a b (max a.length b.length))
def scP (a : List F) (c : F) : List F := Rs.trim (a.map fun q => mul q c)
def nxt (before here : List F) (level step : F) : List F := plL (plL ((0, 1) :: here) (scP here level)) (scP before step)
theorem scP_ok {n m : Nat} {c : F} {a : List F} (hc : Zs n c) (ha : Za m a) : Za (m + n) (scP a c) ∧ (∀ i, val (co (scP a c) i) = val c * val (co a i)) ∧ (scP a c).length ≤ a.length := by
  refine ⟨trim_za fun q hq => ?_, fun i => ?_, ?_⟩
  · obtain ⟨r, hr, rfl⟩ := List.mem_map.mp hq
    exact (ha r hr).mul hc
  · unfold scP
    rw [trim_co, co_map1]
    split
    · rw [val_mul (ha.co i).ok.1 hc.ok.1]
      grind
    · rw [co_ge (qs := a) (by omega), val_zero]
      grind
  · have := Rs.trim_len (a.map fun q => mul q c)
    rw [List.length_map] at this
    exact this
theorem plL_ok {n : Nat} {a b : List F} (ha : Za n a) (hb : Za n b) (hl : b.length ≤ a.length) (hz : val (co a (a.length - 1)) - val (co b (a.length - 1)) ≠ 0) :
    Za (n + 1) (plL a b) ∧ (∀ i, val (co (plL a b) i) = val (co a i) - val (co b i)) ∧ (plL a b).length = a.length := by
  have t : ∀ i, val (co (Rs.byPower sub a b a.length) i) = val (co a i) - val (co b i) := by
    intro i
    unfold Rs.byPower
    rw [co_map]
    split
    · exact val_sub (ha.co i).ok.1 (hb.co i).ok.1
    · rw [co_ge (qs := a) (by omega), co_ge (qs := b) (by omega), val_zero]
      grind
  have e : max a.length b.length = a.length := Nat.max_eq_left hl
  have p : Rs.Pn (Rs.byPower sub a b a.length) := by
    right
    rw [Rs.byPower_len]
    intro z
    have := t (a.length - 1)
    rw [z, val_zero] at this
    exact hz this.symm
  unfold plL
  rw [e, Rs.trim_of p]
  refine ⟨fun q hq => ?_, t, Rs.byPower_len _ _ _ _⟩
  obtain ⟨k, rfl⟩ := Rs.byPower_mem hq
  exact (ha.co k).sub (hb.co k)
theorem pc_top (A B : Nat → Rat) : ∀ k, pc A B k k = 1 := by
  refine up2 ?_ ?_ fun k h1 h2 => ?_
  · show (if 0 = 0 then (1 : Rat) else 0) = 1
    rw [if_pos rfl]
  · show (if 1 = 0 then (0 : Rat) else if 1 = 1 then 1 else 0) - A 0 * (if 1 = 0 then 1 else 0) = 1
    rw [if_neg (by decide), if_pos rfl, if_neg (by decide)]
    grind
  · show (if k + 2 = 0 then (0 : Rat) else pc A B (k + 1) (k + 2 - 1)) - A (k + 1) * pc A B (k + 1) (k + 2) - B k * pc A B k (k + 2) = 1
    rw [if_neg (by omega), show k + 2 - 1 = k + 1 by omega, h2, pc_hi A B (k + 1) _ (by omega), pc_hi A B k _ (by omega)]
    grind
theorem Pf.uniq {ls ss : List F} {k : Nat} {a b : List F} (ha : Pf ls ss k a) (hb : Pf ls ss k b) : a = b :=
  list_eq ha.z hb.z (by rw [ha.l, hb.l]) fun i _ => by rw [ha.v, hb.v]
/-- the polynomial before -/
def bef (ls ss : List F) (k : Nat) : List F := if k = 0 then [] else ruled ls ss (k - 1)
theorem nxt_ruled {ls ss : List F} (hl : Za 1 ls) (hb : Za 1 ss) (k : Nat) : nxt (bef ls ss k) (ruled ls ss k) (co ls k) (co ((0, 1) :: ss) k) = ruled ls ss (k + 1) := by
  have hp := ruled_pf hl hb k
  have hq := ruled_pf hl hb (k + 1)
  obtain ⟨s1, s2⟩ := shift_ok hp.z
  obtain ⟨c1, c2, c3⟩ := scP_ok (hl.co k) hp.z
  have sl : ((0, 1) :: ruled ls ss k).length = k + 2 := by rw [List.length_cons, hp.l]
  obtain ⟨l1, l2, l3⟩ := plL_ok (s1.mono (m := 3 * k + 1) (by omega)) c1 (by rw [sl]; have := hp.l; omega) (by
    rw [sl, s2, c2, if_neg (by omega), show k + 2 - 1 - 1 = k by omega, hp.v, hp.v, pc_top, pc_hi _ _ k _ (by omega)]
    grind)
  have hbz : Za (3 * k) (bef ls ss k) ∧ (bef ls ss k).length ≤ k := by
    unfold bef
    split
    · exact ⟨fun q hq => (by cases hq), Nat.zero_le _⟩
    · have := ruled_pf hl hb (k - 1)
      exact ⟨this.z.mono (by omega), by rw [this.l]; omega⟩
  have hst : Zs 1 (co ((0, 1) :: ss) k) := by
    rw [shift_co]
    split
    · exact Zs.zero
    · exact hb.co _
  obtain ⟨d1, d2, d3⟩ := scP_ok hst hbz.1
  obtain ⟨m1, m2, m3⟩ := plL_ok l1 (d1.mono (by omega)) (by rw [l3, sl]; have := hbz.2; omega) (by
    rw [l3, sl, l2, s2, c2, d2, if_neg (by omega), show k + 2 - 1 - 1 = k by omega, hp.v, hp.v, pc_top, pc_hi _ _ k _ (by omega), co_ge (qs := bef ls ss k) (by have := hbz.2; omega), val_zero]
    grind)
  refine Pf.uniq (ls := ls) (ss := ss) (k := k + 1) ⟨by show (plL _ _).length = _; rw [m3, l3, sl], m1.mono (by omega), fun i => ?_⟩ hq
  show val (co (plL _ _) i) = _
  rw [m2, l2, s2, c2, d2]
  have : val (co (lsr [] []) 0) = 0 := val_zero
  cases k with
  | zero =>
    show _ = (if i = 0 then (0 : Rat) else if i = 1 then 1 else 0) - wA ls 0 * (if i = 0 then 1 else 0)
    rw [hp.v, hp.v, show bef ls ss 0 = [] from rfl, co_ge (qs := ([] : List F)) (Nat.zero_le _), val_zero]
    show (if i = 0 then (0 : Rat) else if i - 1 = 0 then 1 else 0) - val (co ls 0) * (if i = 0 then 1 else 0) - _ = _
    have : (if i = 0 then (0 : Rat) else if i - 1 = 0 then 1 else 0) = (if i = 0 then (0 : Rat) else if i = 1 then 1 else 0) := by
      by_cases c : i = 0
      · rw [if_pos c, if_pos c]
      · rw [if_neg c, if_neg c]
        by_cases d : i = 1
        · rw [if_pos (by omega), if_pos d]
        · rw [if_neg (by omega), if_neg d]
    rw [this]
    show _ - wA ls 0 * _ - _ = _
    grind
  | succ k =>
    have hr := ruled_pf hl hb k
    rw [show bef ls ss (k + 1) = ruled ls ss k from rfl, hp.v, hp.v, hr.v]
    rfl
/-! ### the norms, and what the row says of the rungs -/
def nrm (T : F) (ss : List F) : Nat → F
  | 0 => T
  | k + 1 => mul (nrm T ss k) (co ss k)
theorem nrm_ok {T : F} {ss : List F} (hT : Zs 1 T) (hb : Za 1 ss) : ∀ k, Zs (k + 1) (nrm T ss k) ∧ val (nrm T ss k) = val T * pB (wA ss) k
  | 0 => ⟨hT, by show val T = val T * 1; grind⟩
  | k + 1 => by
    obtain ⟨a, b⟩ := nrm_ok hT hb k
    refine ⟨a.mul (hb.co k), ?_⟩
    show val (mul _ _) = val T * (pB _ k * _)
    rw [val_mul a.ok.1 (hb.co k).ok.1, b]
    show _ * wA ss k = _
    grind
theorem sum_row {n m : Nat} {T : F} {ls ss : List F} (hT : Zs 1 T) (hl : Za 1 ls) (hb : Za 1 ss) {some : List F} (hs : Za m some) (h : some.length ≤ n + 1) :
    Zs (m + (3 * n + 1) + some.length) (sumBy some (rowL T ls ss n)) ∧ val (sumBy some (rowL T ls ss n)) = val T * wt (fun i => Jn (wA ls) (wA ss) i (ek 0) 0) some := by
  obtain ⟨r1, r2⟩ := rowL_ok hT hl hb n
  obtain ⟨a, b⟩ := sumBy_val hs r1 (by rw [rowL_len]; exact h)
  refine ⟨a, ?_⟩
  rw [b]
  unfold wt
  rw [← sm_mul]
  refine sm_congr fun i hi => ?_
  rw [r2 i (by omega)]
  grind
theorem cross {n k j : Nat} {T : F} {ls ss : List F} (hT : Zs 1 T) (hl : Za 1 ls) (hb : Za 1 ss) (h : k + j ≤ n) :
    sumBy (Rs.prodN (k + j + 1) (ruled ls ss k) (ruled ls ss j)) (rowL T ls ss n) = if j = k then nrm T ss k else (0, 1) := by
  have hk := ruled_pf hl hb k
  have hj := ruled_pf hl hb j
  have e : k + j + 1 = (ruled ls ss k).length + (ruled ls ss j).length - 1 := by rw [hk.l, hj.l]; omega
  obtain ⟨p1, p2⟩ := prodN_wt hk.z hj.z (by intro z; have := hk.l; rw [z] at this; cases this) (by intro z; have := hj.l; rw [z] at this; cases this) (fun i => Jn (wA ls) (wA ss) i (ek 0) 0)
  rw [← e] at p1 p2
  obtain ⟨a, b⟩ := sum_row (n := n) hT hl hb p1 (by rw [Rs.prodN_len]; omega)
  rw [p2, hk.l, hj.l] at b
  have g : sm (fun i => val (co (ruled ls ss k) i) * sm (fun l => val (co (ruled ls ss j) l) * Jn (wA ls) (wA ss) (i + l) (ek 0) 0) (j + 1)) (k + 1) = ev (wA ls) (wA ss) (pc (wA ls) (wA ss) k) (k + 1) (ev (wA ls) (wA ss) (pc (wA ls) (wA ss) j) (j + 1) (ek 0)) 0 := by
    refine sm_congr fun i _ => ?_
    rw [hk.v]
    congr 1
    unfold ev
    rw [Jn_sm]
    refine sm_congr fun l _ => ?_
    rw [hj.v, Jn_add]
  rw [g, favard1, favard2] at b
  obtain ⟨n1, n2⟩ := nrm_ok hT hb k
  by_cases c : j = k
  · rw [if_pos c]
    refine val_inj a.ok n1.ok ?_
    rw [b, n2]
    unfold ek
    rw [if_pos c.symm]
    grind
  · rw [if_neg c]
    refine val_inj a.ok ok01 ?_
    rw [b, val_zero]
    unfold ek
    rw [if_neg (fun z => c z.symm)]
    grind
theorem misfit {n m k : Nat} {T : F} {ls ss : List F} (hT : Zs 1 T) (hl : Za 1 ls) (hb : Za 1 ss) (hm : 0 < m) (he : co ss (m - 1) = (0, 1)) (h : k + m ≤ n) :
    sumBy (List.replicate k (0, 1) ++ ruled ls ss m) (rowL T ls ss n) = (0, 1) := by
  have hp := ruled_pf hl hb m
  have z : Za (3 * m) (List.replicate k (0, 1) ++ ruled ls ss m) := fun q hq => by
    rcases List.mem_append.mp hq with hq | hq
    · rw [(List.mem_replicate.mp hq).2]
      exact Zs.zero
    · exact hp.z q hq
  have l : (List.replicate k (0, 1) ++ ruled ls ss m).length = k + (m + 1) := by rw [List.length_append, List.length_replicate, hp.l]
  obtain ⟨a, b⟩ := sum_row (n := n) hT hl hb z (by rw [l]; omega)
  refine val_inj a.ok ok01 ?_
  rw [b, val_zero]
  have lead : ∀ k, wt (fun i => Jn (wA ls) (wA ss) i (ek 0) 0) (List.replicate k (0, 1) ++ ruled ls ss m) = sm (fun i => pc (wA ls) (wA ss) m i * Jn (wA ls) (wA ss) (k + i) (ek 0) 0) (m + 1) := by
    intro k
    have gen : ∀ k (f : Nat → Rat), wt f (List.replicate k (0, 1) ++ ruled ls ss m) = sm (fun i => pc (wA ls) (wA ss) m i * f (k + i)) (m + 1) := by
      intro k
      induction k with
      | zero =>
        intro f
        show sm _ (ruled ls ss m).length = _
        rw [hp.l]
        refine sm_congr fun i _ => ?_
        show val (co (ruled ls ss m) i) * f i = _
        rw [hp.v, Nat.zero_add]
      | succ k ih =>
        intro f
        have := ih (fun i => f (i + 1))
        unfold wt at this ⊢
        rw [List.replicate_succ, List.cons_append, List.length_cons, sm_left]
        have e0 : val (co ((0, 1) :: (List.replicate k (0, 1) ++ ruled ls ss m)) 0) = 0 := val_zero
        rw [e0]
        have e1 : sm (fun i => val (co ((0, 1) :: (List.replicate k (0, 1) ++ ruled ls ss m)) (i + 1)) * f (i + 1)) (List.replicate k (0, 1) ++ ruled ls ss m).length = sm (fun i => pc (wA ls) (wA ss) m i * f (k + 1 + i)) (m + 1) := by
          refine Eq.trans this ?_
          refine sm_congr fun i _ => ?_
          rw [show k + 1 + i = k + i + 1 by omega]
        rw [e1]
        grind
    exact gen k _
  rw [lead]
  have e : sm (fun i => pc (wA ls) (wA ss) m i * Jn (wA ls) (wA ss) (k + i) (ek 0) 0) (m + 1) = Jn (wA ls) (wA ss) k (ev (wA ls) (wA ss) (pc (wA ls) (wA ss) m) (m + 1) (ek 0)) 0 := by
    unfold ev
    rw [Jn_sm]
    refine sm_congr fun i _ => ?_
    rw [Jn_add]
  rw [e, favard1, ended_zero (wA ls) (wA ss) (m := m) (by unfold wA; rw [he, val_zero]) hm k 0 hm]
  grind
end Fq


set_option Elab.async false
set_option linter.all false
set_option maxRecDepth 100000
set_option maxHeartbeats 400000
namespace Rs
open PySem L2 Bs Fq LamX
theorem FrAll.set {K : PySem.W.Frag} {H : Hp} : ∀ {vs : List V} {qs : List F} {v : V} {q : F} (i : Nat), FrAll K H vs qs → Fr K H v q → FrAll K H (vs.set i v) (qs.set i q)
  | _, _, _, _, _, .nil, h => .nil
  | _, _, _, _, 0, .cons a b, h => .cons h b
  | _, _, _, _, i + 1, .cons a b, h => .cons a (FrAll.set i b h)
theorem FrAll.rep {K : PySem.W.Frag} {H : Hp} {v : V} {q : F} (h : Fr K H v q) : ∀ n : Nat, FrAll K H (List.replicate n v) (List.replicate n q)
  | 0 => .nil
  | n + 1 => .cons h (FrAll.rep h n)
theorem zs_dm {n : Nat} {q : F} (h : Zs n q) (e : n ≤ 400 := by omega) : Dm q := by
  obtain ⟨a, b, c⟩ := h.small e
  exact ⟨a, b, c⟩
theorem Dm.dl {q : F} (h : Dm q) : Dl q := ⟨h.big, h.pos, h.low⟩
theorem zs_dl {n : Nat} {q : F} (h : Zs n q) (e : n ≤ 400 := by omega) : Dl q := (zs_dm h e).dl
theorem walk_enumT {K : PySem.W.Frag} {a : Addr} {xs : List V} : Walk (EnT.IteT K a) xs.length (fun H => SqT K H a xs) (YPair (fun i => some (.int (i : Nat))) (fun i => xs[i]?)) := by
  refine ⟨fun i _ hi q => ⟨xs, xs[i], q, by simp [hi]⟩, fun _ q => ⟨xs, q, Nat.le_refl _⟩, fun i H v H' _ q y => ?_⟩
  obtain ⟨T, x, h1, h2, h3, h4⟩ := y
  exact ⟨T, .int (i : Nat), x, h1, h2, h3, rfl, h4 xs q⟩
end Rs


set_option Elab.async false
set_option linter.all false
set_option maxRecDepth 100000
set_option maxHeartbeats 400000
namespace Rs
open PySem L2 Bs Fq LamX
/-! ### polynomials as data -/
def dP (qs : List F) : PyData := .tuple (qs.map dF)
def fracsD (n : Int) : PyData → Bool
  | .tuple ds => decide ((ds.length : Int) ≤ n) && ds.all fracD
  | _ => false
def lastNz (ds : List PyData) : Bool :=
  match ds.getLast? with
  | none => true
  | some d => !(PyData.eqv d (dF (0, 1)))
def polyD : PyData → Bool
  | .tuple ds => decide ((ds.length : Int) ≤ 12) && ds.all fracD && lastNz ds
  | _ => false
theorem FrAll.dp {K : PySem.W.Frag} {H : Hp} : ∀ {vs : List V} {qs : List F}, FrAll K H vs qs → DpAll K H vs (qs.map dF)
  | _, _, .nil => .nil
  | _, _, .cons a b => .cons a.dp (FrAll.dp b)
theorem Po.dp {K : PySem.W.Frag} {H : Hp} {v : V} {qs : List F} (h : Po K H v qs) : Dp K H v (dP qs) := by
  obtain ⟨a, xs, rfl, s, f⟩ := h
  exact .tup s f.dp
theorem dp_frAll {K : PySem.W.Frag} {H : Hp} : ∀ {vs : List V} {qs : List F}, DpAll K H vs (qs.map dF) → FrAll K H vs qs
  | _, [], h => by
    cases h
    exact .nil
  | _, q :: qs, h => by
    cases h with
    | cons h1 h2 => exact .cons (dp_fr h1) (dp_frAll h2)
theorem dp_po {K : PySem.W.Frag} {H : Hp} {v : V} {qs : List F} (h : Dp K H v (dP qs)) : Po K H v qs := by
  cases h with
  | tup s f => exact ⟨_, _, rfl, s, dp_frAll f⟩
theorem all_frac : ∀ {ds : List PyData}, ds.all fracD = true → ∃ qs : List F, ds = qs.map dF ∧ ∀ q ∈ qs, Fq.Ok q
  | [], _ => ⟨[], rfl, fun q h => by simp at h⟩
  | d :: ds, h => by
    rw [List.all_cons, Bool.and_eq_true] at h
    obtain ⟨q, rfl, o⟩ := fracD_true h.1
    obtain ⟨qs, rfl, os⟩ := all_frac h.2
    refine ⟨q :: qs, rfl, fun r hr => ?_⟩
    rcases List.mem_cons.mp hr with rfl | h
    · exact o
    · exact os r h
theorem all_frac_of : ∀ {qs : List F}, (∀ q ∈ qs, Fq.Ok q) → (qs.map dF).all fracD = true
  | [], _ => rfl
  | q :: qs, h => by
    rw [List.map_cons, List.all_cons, fracD_dF (h q List.mem_cons_self), Bool.true_and]
    exact all_frac_of fun r hr => h r (List.mem_cons_of_mem _ hr)
instance (qs : List F) : Decidable (Pn qs) := inferInstanceAs (Decidable (qs = [] ∨ co qs (qs.length - 1) ≠ (0, 1)))
theorem lastNz_map (qs : List F) : lastNz (qs.map dF) = decide (Pn qs) := by
  unfold lastNz
  rw [List.getLast?_map]
  cases e : qs.getLast? with
  | none =>
    have : qs = [] := List.getLast?_eq_none_iff.mp e
    exact (decide_eq_true (show Pn qs from Or.inl this)).symm
  | some q =>
    show (!(PyData.eqv (dF q) (dF (0, 1)))) = _
    rw [eqv_nought]
    have hn : qs ≠ [] := fun z => by rw [z] at e; cases e
    have ec : co qs (qs.length - 1) = q := by
      refine co_get ?_
      rw [← List.getLast?_eq_getElem?, e]
    by_cases c : q = (0, 1)
    · rw [decide_eq_true c]
      refine (decide_eq_false ?_).symm
      rintro (z | z)
      · exact hn z
      · exact z (ec.trans c)
    · rw [decide_eq_false c]
      exact (decide_eq_true (show Pn qs from .inr (fun z => c (ec.symm.trans z)))).symm
theorem polyD_true {d : PyData} (h : polyD d = true) : ∃ qs : List F, d = dP qs ∧ (∀ q ∈ qs, Fq.Ok q) ∧ qs.length ≤ 12 ∧ Pn qs := by
  unfold polyD at h
  split at h
  · rename_i ds
    rw [Bool.and_eq_true, Bool.and_eq_true] at h
    obtain ⟨⟨h1, h2⟩, h3⟩ := h
    obtain ⟨qs, rfl, o⟩ := all_frac h2
    rw [lastNz_map] at h3
    have := of_decide_eq_true h1
    rw [List.length_map] at this
    exact ⟨qs, rfl, o, by omega, of_decide_eq_true h3⟩
  · cases h
theorem polyD_of {qs : List F} (o : ∀ q ∈ qs, Fq.Ok q) (l : qs.length ≤ 12) (p : Pn qs) : polyD (dP qs) = true := by
  show (decide (((qs.map dF).length : Int) ≤ 12) && (qs.map dF).all fracD && lastNz (qs.map dF)) = true
  rw [all_frac_of o, lastNz_map, decide_eq_true p, List.length_map, decide_eq_true (by omega)]
  rfl
theorem fracsD_of {qs : List F} (o : ∀ q ∈ qs, Fq.Ok q) (l : qs.length ≤ 12) : fracsD 12 (dP qs) = true := by
  show (decide (((qs.map dF).length : Int) ≤ 12) && (qs.map dF).all fracD) = true
  rw [all_frac_of o, List.length_map, decide_eq_true (by omega)]
  rfl
theorem fracsD_true {n : Int} {d : PyData} (h : fracsD n d = true) : ∃ qs : List F, d = dP qs ∧ (∀ q ∈ qs, Fq.Ok q) ∧ (qs.length : Int) ≤ n := by
  unfold fracsD at h
  split at h
  · rename_i ds
    rw [Bool.and_eq_true] at h
    obtain ⟨h1, h2⟩ := h
    obtain ⟨qs, rfl, o⟩ := all_frac h2
    have := of_decide_eq_true h1
    rw [List.length_map] at this
    exact ⟨qs, rfl, o, this⟩
  · cases h
theorem polyD_eq (d : PyData) : polyD d = (fracsD 12 d && match d with | .tuple ds => lastNz ds | _ => false) := by
  cases d <;> rfl
theorem dF_inj {q r : F} (h : dF q = dF r) : q = r := by
  obtain ⟨a, b⟩ := q
  obtain ⟨c, d⟩ := r
  simp only [dF, PyData.tuple.injEq, List.cons.injEq, PyData.int.injEq, and_true] at h
  rw [h.1, h.2]
theorem map_dF_inj : ∀ {qs rs : List F}, qs.map dF = rs.map dF → qs = rs
  | [], [], _ => rfl
  | [], _ :: _, h => by cases h
  | _ :: _, [], h => by cases h
  | q :: qs, r :: rs, h => by
    rw [List.map_cons, List.map_cons, List.cons.injEq] at h
    rw [dF_inj h.1, map_dF_inj h.2]
theorem dP_inj {qs rs : List F} (h : dP qs = dP rs) : qs = rs := by
  simp only [dP, PyData.tuple.injEq] at h
  exact map_dF_inj h
abbrev sAreF : Stmt := top 17
def spAreF (K : PySem.W.Frag) : Sp := fun vs H Q _ => ∃ (v : V) (d : PyData) (n : Int), vs = [v, .int n] ∧ Dp K H v d ∧ n ≤ 12 ∧ ∀ H', Same H H' → Q (.bl (fracsD n d)) H'
theorem dpAll_at {K : PySem.W.Frag} {H : Hp} : ∀ {ds : List PyData} {xs : List V} {i : Nat} {x : V}, DpAll K H xs ds → xs[i]? = some x → ∃ d, ds[i]? = some d ∧ Dp K H x d
  | _, _, i, x, .nil, h => by simp at h
  | _, _, 0, x, .cons h1 h2, h => by
    simp only [List.getElem?_cons_zero, Option.some.injEq] at h
    rw [← h]
    exact ⟨_, rfl, h1⟩
  | _, _, i + 1, x, .cons h1 h2, h => by
    simp only [List.getElem?_cons_succ] at h
    obtain ⟨d, m, e⟩ := dpAll_at h2 h
    exact ⟨d, m, e⟩
/-- data kept where all is kept -/
theorem sqL_same {K : PySem.W.Frag} {H H' : Hp} (e : Same H H') {a : Addr} {xs : List V} (h : SqL K H a xs) : SqL K H' a xs := e.seq h
mutual
theorem dp_same' {K : PySem.W.Frag} {H H' : Hp} (e : Same H H') : ∀ (d : PyData) (v : V), Dp K H v d → Dp K H' v d
  | .none, _, h => by
    cases h
    exact .non
  | .bool b, _, h => by
    cases h
    exact .bl _
  | .int i, _, h => by
    cases h
    exact .int _
  | .str x, _, h => by
    cases h
    exact .str _
  | .list ds, _, h => by
    cases h with
    | lst hs ha => exact .lst (sqL_same e hs) (dpAll_same' e ds _ ha)
  | .tuple ds, _, h => by
    cases h with
    | tup hs ha => exact .tup (Bs.Same.t e hs) (dpAll_same' e ds _ ha)
  | .dict _, _, h => by cases h
theorem dpAll_same' {K : PySem.W.Frag} {H H' : Hp} (e : Same H H') : ∀ (ds : List PyData) (vs : List V), DpAll K H vs ds → DpAll K H' vs ds
  | [], _, h => by
    cases h
    exact .nil
  | d :: ds, _, h => by
    cases h with
    | cons h1 h2 => exact .cons (dp_same' e d _ h1) (dpAll_same' e ds _ h2)
end
theorem dps {K : PySem.W.Frag} {H H' : Hp} (e : Same H H') {d : PyData} {v : V} (h : Dp K H v d) : Dp K H' v d := dp_same' e d v h
section
variable {P : Program} {w : World} {K : PySem.W.Frag} {mg : Str → Option Value} {base : Heap} {f : Addr} {fd : FuncData}
theorem scAreF : FnScope ["thing", "most", "part"] ["thing", "most"] (defScope sAreF) := ⟨rfl, rfl, rfl, by decide +kernel, rfl, by decide +kernel, by decide +kernel⟩
theorem ok_areF (F : Fun K "are_fractions" "are_fractions" sAreF f fd) (T : Blt mg) (al : mg "all" = none) (W : Cal P w K mg base 2 "is_fraction" (spFraction K)) : FnOk P w K mg base CX0 3 f fd ["thing", "most"] (spAreF K) := by
  refine F.ok scAreF (fun vs H Q E h => ?_) (fun cdv A outer s H vs Q E hr h => ?_)
  · obtain ⟨v, d, n, rfl, _⟩ := h
    rfl
  · obtain ⟨v, d, n, rfl, hd, hn, kk⟩ := h
    refine ⟨_, pss_one (ps_ret (pe_and (pe_callB call_isi (by rfl) T.isinstance (by decide +kernel) (pa_cons (pv 0) (pa_cons (pe_bltn (v := .ty "tuple") (by rfl) T.tuple (by decide +kernel) rfl) pa_nil)))
      (pe_and (pe_cmpR op_le (pe_callB call_len_seq (by rfl) T.len (by decide +kernel) (pa_cons (pv 0) pa_nil)) (pv 1) (nomark _))
        (pe_one (pe_callB (cr_all rfl) (by rfl) al (by decide +kernel) (pa_cons (pe_lc (own := [("part", 2)]) (g := gName 2) (tt := tYes) rfl scAreF.nd (pi_tup (pv 0)) (blkOk_by (N := ["thing", "most", "part"]) (sc := defScope sAreF) (by decide +kernel))
          (fun _ _ _ _ _ => pg_name (i := 2) scAreF.nd rfl (Or.inl rfl)) (fun _ _ _ _ _ => pts_nil)
          (fun _ _ _ _ _ => pe_n W hr (by decide) (by rfl) (pa_cons (pv 2) pa_nil))) pa_nil)))))), ?_⟩
    refine ⟨v, rfl, v, _, _, _, _, rfl, .ty _, hd.ty, kitT K d, _, rfl, ?_⟩
    have no : fracsD n d = false → isTup d = false → Q (.bl false) H := fun e _ => by
      have := kk H (fun _ _ z => z)
      rwa [e] at this
    cases d with
    | tuple ds =>
      refine iteT ?_
      cases hd with
      | tup sq all =>
        rename_i a xs
        have l := dpAll_len all
        refine ⟨_, rfl, a, xs, rfl, Or.inr sq, _, rfl, _, _, rfl, rfl, _, rfl, ?_⟩
        have e : fracsD n (.tuple ds) = (decide ((xs.length : Int) ≤ n) && ds.all fracD) := by rw [l]; rfl
        refine ite2 (fun c => ?_) (fun c => ?_)
        · have cl : (xs.length : Int) ≤ n := of_decide_eq_true c
          rw [decide_eq_true cl, Bool.true_and] at e
          refine ⟨_, rfl, a, rfl, ⟨_, sq⟩, fun D hD => lc_tup (K := K) (a := a) (xs := xs) (fun i H2 => Same H H2 ∧ H2 D = some (.lst (((ds.take i).map fracD).map V.bl))) ⟨same_new hD, upd_same⟩ (fun i H2 _ z => Bs.Same.t z.1 sq) ?_ ?_⟩
          · rintro i x H2 hx ⟨s2, hD2⟩
            obtain ⟨d', hd', dd⟩ := dpAll_at all hx
            refine ⟨rfl, ?_⟩
            refine iteT (B := Same H H2 ∧ H2 D = some (.lst (((ds.take (i + 1)).map fracD).map V.bl))) ?_
            refine ⟨_, rfl, x, d', rfl, dps s2 dd, ?_⟩
            refine ⟨_, hD2, ?_, fun b o e => (upd_ne (ne_of_none e hD)).trans (s2 b o e), ?_⟩
            · rw [List.length_map, List.length_map, List.length_take]
              exact small1000 (by omega)
            · rw [upd_same, take_one hd', List.map_append, List.map_append]
              rfl
          · rintro H2 ⟨s2, hD2⟩
            rw [l, List.take_length] at hD2
            refine ⟨D, _, rfl, SqL.of hD2, ?_⟩
            have := kk H2 s2
            rw [e] at this
            rw [List.all_map]
            exact this
        · have := kk H (fun _ _ z => z)
          rw [e, Bool.eq_false_iff.mpr c, Bool.false_and] at this
          exact this
    | none => exact iteF (no rfl rfl)
    | bool b => exact iteF (no rfl rfl)
    | int i => exact iteF (no rfl rfl)
    | str x => exact iteF (no rfl rfl)
    | list xs => exact iteF (no rfl rfl)
    | dict xs => exact iteF (no rfl rfl)
end
end Rs


set_option Elab.async false
set_option linter.all false
set_option maxRecDepth 100000
set_option maxHeartbeats 4000000
/-! an own class of errors over a built-in one of any family, with an __init__ of its own -/
namespace OxF
open PySem PySem.W PySem.Calls PyProof.Rows PySem.HandSPX L2 Builtin Builtin.ObjectAttr
/-- what a family of built-in errors gives -/
structure Fam (nw : String) (tl : List Value) : Prop where
  call : ∀ {prog : Program} {w : World} {A : Around} {R : Result → Shared → Prop} {h : Heap} {g : Array GenState} {d : Drawn} {t : Nat} {os : OsState} {nm q : Str} {C N : Addr} {bs : List Value} {sn : List Str} {sub : List Value} {ab : Bool} {col : Option Bool} {dd : Option Addr} {k0 k1 k2 k3 k5 : Option Value} {rest : List Value} {fI : Addr},
    h.get? C = some (excClassObj nm q C N bs tl true sn sub ab col dd k0 k1 k2 k3 k5 nw) → W.Looks (model prog w) h (typeLookup (.ref C) "__init__") (some (.ref fI)) → (∀ self, W.Looks (model prog w) h (bindSpecial (.ref fI) self) (.ref fI, [self])) → rest.length ≤ sizeLine →
    codeAny (model prog w) (A.under (.builtin "type.__call__" ⟨.ref C :: rest, []⟩)) (.call (.ref fI) ⟨.ref (h.objs.size + 1) :: rest, []⟩) (W.InitBack (h.objs.size + 1) R) ⟨(h.push (W.kdv_tup rest)).push (excO C h.objs.size), g, d, t, os⟩ → codeAny (model prog w) A (.call (.ref C) ⟨rest, []⟩) R ⟨h, g, d, t, os⟩
  pass : ∀ self : Value, refuseLoop self "__setattr__" tl = pure ()
  obj : tl.contains (.type "object") = true
theorem famO : Fam "OverflowError.__new__" [.type "OverflowError", .type "ArithmeticError", .type "Exception", .type "BaseException", .type "object"] := ⟨fun hC hi hb hr hq => call_own F.excBase_OverflowError (fun _ => rfl) hC hi hb hr hq, fun self => by kernel_rfl, by decide +kernel⟩
structure OexF (K : W.Frag) (nw : String) (tl : List Value) (C : Addr) : Prop where
  cls : ∃ nm q N bs sn sub ab col dd k0 k1 k2 k3 k5, K.lookup C = some (excClassObj nm q C N bs tl true sn sub ab col dd k0 k1 k2 k3 k5 nw)
  sa : W.findIn K (.ref C) "__setattr__" = some (some (.builtin "object.__setattr__"))
  ex : W.subIn K (.ref C) (.type "BaseException") = some true
  ty : W.typeIn K (.ref C) = some (.type "type")
  kp : W.keepIn K (.ref C) = true
section
variable {prog : Program} {w : World} {A : Around} {nw : String} {tl : List Value} {K : W.Frag} {hp : Heap} {fl : Str} {tk : Tok} {y : Value} {a C : Addr} {fv : Array Value} {cd : ClassData} {g : Array GenState} {dr : Drawn} {t : Nat} {os : OsState} {R : Result → Shared → Prop}
/-- the first field of such an error -/
theorem first_field (fam : Fam nw tl) (inK : K.In hp) (at_ : hp.get? a = some { cls := .ref C, data := .fields fv }) (cl : W.clsIn K C = some cd) (mro : cd.mro = .ref C :: tl) (dct : cd.hasDict = true) (none_ : W.findIn K (.ref C) fl = some none)
    (wish : ∀ h2 tk2 dx, (∀ b o, b ≠ a → hp.get? b = some o → h2.get? b = some o) → hp.objs.size ≤ dx → dx ≠ a → h2.get? a = some { cls := .ref C, dict := some dx, data := .fields fv } → h2.Ns1 dx (fun z => if z = fl then some y else none) → R (.ok (.ret .none)) ⟨h2, g, dr, tk2, os⟩) :
    codeAny (model prog w) A (.call (.builtin "object.__setattr__") ⟨[.ref a, .str fl tk, y], []⟩) R ⟨hp, g, dr, t, os⟩ := by
  have inst : W.InstAt hp a { cls := .ref C, data := .fields fv } C none := ⟨at_, rfl, rfl, trivial⟩
  have far : a ≠ hp.objs.size := Nat.ne_of_lt (Heap.lt_size at_)
  have whole : W.Looks (model prog w) hp (mroOf (.ref C)) cd.mro := W.Looks.andThen (W.looks_clsIn inK cl) W.Looks.now
  have isObj : W.Looks (model prog w) hp (isInstance (.ref a) (.type "object")) true := inst.type.andThen (W.looks_mroIn inK (by
    unfold W.mroIn
    rw [cl, Option.bind_some, mro]
    simp only [List.isEmpty_cons, List.contains_cons, fam.obj]
    rfl))
  have so := F.store_object
  refine codeAny_call_builtin so.slot.plain so.entry (@W.check_slot (model prog w) _ _ ⟨hp, g, dr, t, os⟩ "object.__setattr__" "object" "__setattr__" (.ref a) [.str fl tk, y] [] _ so.kind so.split isObj (so.args _ _ _) ?_)
  have told : W.Looks (model prog w) hp (classData C) cd := W.looks_clsIn inK cl
  have noTaker : W.Looks (model prog w) hp (storeTaker? none) none := W.Looks.now
  rw [W.osa_eq]
  rw [refuse_eq]
  refine wpAny_bind (wpAny_bind (inst.type.at (wpAny_bind (whole.at ?_))))
  rw [mro, refuseLoop_ref, fam.pass]
  refine wpAny_pure (wpAny_bind (inst.type.at (wpAny_bind ((W.looks_findIn inK none_).at (wpAny_bind (noTaker.at ?_))))))
  show wpAny _ _ (storeInOwnDict (.ref a) (.ref C) (.str fl tk) fl y false) _ _ _
  obtain ⟨c1, c2, c3, c4, c5, c6, c7, c8, c9, c10, c11⟩ := cd
  dsimp only at dct
  subst dct
  unfold storeInOwnDict
  unfold ownDictForStores
  repeat (first
    | with_reducible refine store_in_new ?_ ?_
    | with_reducible refine wpAny_loadPart_at at_ ?_
    | with_reducible refine told.at ?_
    | wp_step)
  · refine ⟨_, #[], _, (Heap.get?_update_ne _ _ _ _ far.symm).trans (Heap.get?_push_at rfl rfl), rfl, ?_, fun _ => rfl⟩
    intro en he
    exact absurd he (by simp)
  · intro h2 tk2 ns2 same
    have at2 : (hp.push { cls := .type "dict", data := .dict #[] }).get? a = some { cls := .ref C, data := .fields fv } := Heap.get?_push_of_some _ at_
    refine wish h2 tk2 hp.objs.size (fun b o nb hb => ?_) (Nat.le_refl _) far.symm ((same.2 a far).trans (Heap.get?_update_self _ at2 rfl)) ns2
    have nb2 : b ≠ hp.objs.size := Nat.ne_of_lt (Heap.lt_size hb)
    exact ((same.2 b nb2).trans (Heap.get?_update_ne _ _ _ _ nb)).trans (Heap.get?_push_of_some _ hb)
end
section
variable {X : Cx} {pins : List (Addr × Obj)} {σ : L2.St} {H : Hp} {s : Shared} {a C : Addr} {f : Str} {y : V} {u : Value} {nw : String} {tl : List Value} {Q : Unit → Shared → Prop} {E : Value → Shared → Prop} {A : Around}
theorem set_first (fam : Fam nw tl) (T : OexF X.K nw tl C) (I : L2.Inv X pins σ H s) (e : H a = some (exo a C none)) (no : W.findIn X.K (.ref C) f = some none) (ry : RelV y u)
    (wish : ∀ dx s', H dx = none → dx ≠ a → L2.Inv X pins σ (upd (upd H dx (exd dx [(f, y)])) a (exo a C (some dx))) s' → Q () s') : wpAny (model X.prog X.w) A (setAttr (.ref a) f u) Q E s := by
  obtain ⟨nm, qn, N, bs, sn, sub, ab, col, dd, k0, k1, k2, k3, k5, hC⟩ := T.cls
  have cl : W.clsIn X.K C = some ⟨nm, bs, .ref C :: tl, N, qn, true, sn, sub, ab, col, false⟩ := by
    unfold W.clsIn
    rw [hC] <;> rfl
  obtain ⟨t1, there⟩ := exo_at I.hok e
  obtain ⟨hp, g, dr, t, os⟩ := s
  refine W.set_plain I.kIn (ox := { cls := .ref C, dict := none, data := .fields #[.ref t1, .none, .none, .none, .bool false, .none] }) (od := none) ⟨there, rfl, rfl, trivial⟩ T.sa ?_
  refine first_field fam I.kIn there cl rfl rfl no fun h2 tk2 dx kept big ne at2 ns2 => ?_
  have fr : H dx = none := I.hok.fresh big
  have isA : ∀ {b : Addr} {o : HO}, H b = some o → o ≠ exo a C none → b ≠ a := fun {b o} z n q => n (by
    rw [q, e] at z
    exact (Option.some.inj z).symm)
  have offA : ∀ {b : Addr}, H b = none → b ≠ a := fun {b} z q => by
    rw [q, e] at z
    cases z
  have offD : ∀ {b : Addr} {o : HO}, H b = some o → b ≠ dx := fun z => ne_of_none z fr
  have low : ∀ {b : Addr} {o : Obj}, hp.get? b = some o → b ≠ dx := fun z => Nat.ne_of_lt (Nat.lt_of_lt_of_le (Heap.lt_size z) big)
  have same : ∀ {b : Addr}, b ≠ a → b ≠ dx → upd (upd H dx (exd dx [(f, y)])) a (exo a C (some dx)) b = H b := fun n1 n2 => (upd_ne n1).trans (upd_ne n2)
  have U : Un X.fs [] H (upd (upd H dx (exd dx [(f, y)])) a (exo a C (some dx))) hp h2 := by
    constructor
    · exact fun b o z n _ _ => kept b o (offA n) z
    · exact fun b o z n _ _ => ⟨o.slots, kept b o (offA n) z⟩
    · exact fun b o z n _ => (same (offA n) (low z)).trans n
    · intro b o z _
      by_cases c : b = a
      · exact ⟨_, (congrArg h2.get? c).trans at2⟩
      · exact ⟨_, kept b o c z⟩
    · exact fun b xs z => (same (isA z (Ne.symm exo_tup)) (offD z)).trans z
    · exact fun b o v z => (same (isA z (Ne.symm exo_frz)) (offD z)).trans z
    · exact fun b ps z => ⟨#[], ((same (isA z (Ne.symm exo_tbl)) (offD z)).trans z).trans (by simp)⟩
  refine wish dx _ fr ne (I.un (t' := tk2) U fun b o z => ?_)
  by_cases c : b = a
  · subst c
    rw [upd_same] at z
    cases z
    exact exo_ok at2
  rw [upd_ne c] at z
  by_cases c2 : b = dx
  · subst c2
    rw [upd_same] at z
    cases z
    exact exd_ok ns2 (relO_put (fs := []) ry fun _ => True.intro)
  rw [upd_ne c2] at z
  refine (I.hok b o z).stay (fun c' v h1 h3 => kept c' v ?_ h3) (fun c' h1 => ?_) (fun c' xs h1 => ?_)
  · rcases h1 with rfl | h1
    · exact c
    · exact isA h1 (Ne.symm exo_own)
  · exact (same (isA h1 (Ne.symm exo_own)) (offD h1)).trans h1
  · exact (same (isA h1 (Ne.symm exo_tup)) (offD h1)).trans h1
/-- self.f = e, the first one -/
def tSetF (K : W.Frag) (nw : String) (tl : List Value) (f : Str) (to te : TE) : TS := fun D σ H => te σ H fun y H1 => to σ H1 fun x H2 => ∃ a C : Addr, x = .ref a ∧ OexF K nw tl C ∧ W.findIn K (.ref C) f = some none ∧
  H2 a = some (exo a C none) ∧ ∀ dx, H2 dx = none → dx ≠ a → D.nx σ (upd (upd H2 dx (exd dx [(f, y)])) a (exo a C (some dx)))
theorem ps_setF {o e : Expr} {to te : TE} {p' pos : Pos} (fam : Fam nw tl) (ho : PE X o to) (he : PE X e te) (hs : swapsWith e (some (.Attribute o f p')) pos.line X.env = pure false := by rfl) : PS X (.Assign [.Attribute o f p'] e pos) (tSetF X.K nw tl f to te) := by
  constructor
  intro pins s σ H D I h
  refine plainObj_wpAny_Assign_Attribute (thn (he.run pins s σ H _ I h) ?_) hs
  rintro v s1 ⟨y, H1, I1, ry, h1⟩
  refine thn (ho.run pins s1 σ H1 _ I1 h1) ?_
  rintro v2 s2 ⟨x, H2, I2, rx, a, C, rfl, T, no, at_, k⟩
  cases rx
  exact set_first fam T I2 at_ no ry fun dx s' n ne J => ⟨σ, _, J, k dx n ne⟩
/-- C(e, ..) of such a class -/
theorem pmkF {CX : CXT} {x : Str} {C fI : Addr} {k : Nat} {fd : FuncData} {ps : List Str} {sp : Sp} {e : Expr} {es : List Expr} {ta : TA} {p pos : Pos} (fam : Fam nw tl) (T : OexF X.K nw tl C) (hi : W.findIn X.K (.ref C) "__init__" = some (some (.ref fI))) (ti : W.typeIn X.K (.ref fI) = some (.type "function"))
    (F1 : FnOk X.prog X.w X.K X.mg X.base CX k fI fd ps sp) (hr : Room (k + 1) X.A) (bi : Binds X.K fd ps []) (hx : Passes CX X (fun _ _ _ => False)) (hg : Gl X x) (hm : X.mg x = some (.ref C)) (ha : PA X (e :: es) ta)
    (hdb : (x == ("__debug__" : Str)) = false := by decide) (he : starEach (e :: es) X.env = (false, eval e X.env) :: starEach es X.env := by rfl) (hpl : (backTo pos (starEach es X.env)).any (·.1) = false := by rfl) :
    PMk X (.Call (.Name x p) (e :: es) [] pos) (tMkO C sp [] ta) := by
  intro pins s σ H Q I h
  obtain ⟨nm, qn, N, bs, sn, sub, ab, col, dd, k0, k1, k2, k3, k5, hC⟩ := T.cls
  refine wpAny_Call_Name_kw (ld_glob I hg hm (W.callWith_K (h₀ := X.base) I.ok.mod.kin T.kp (thn (ha.run pos pins s σ H _ I h) ?_) he hpl) hdb)
  rintro us ⟨hp, g, dr, tk, os⟩ ⟨vs, H1, I1, rv, short, q1⟩
  refine ⟨I1.kIn, ?_⟩
  generalize hn : hp.objs.size + 1 = n
  have big : hp.objs.size ≤ n := by omega
  have wish := q1 n (I1.hok.fresh big)
  generalize hh : (hp.push (W.kdv_tup us)).push (excO C hp.objs.size) = h2
  have kept : ∀ b o, hp.get? b = some o → h2.get? b = some o := fun b o z => by
    rw [← hh]
    exact Heap.get?_push_of_some _ (Heap.get?_push_of_some _ z)
  have atn : h2.get? n = some (excO C hp.objs.size) := by
    rw [← hh, ← hn]
    heap_get
  have J : L2.Inv X pins σ (upd H1 n (exo n C none)) ⟨h2, g, dr, tk, os⟩ := I1.laid (t' := tk) kept big (exo_ok atn)
  have rv2 : Vals (V.ref n :: (vs ++ [])) (Value.ref n :: us) := by
    rw [List.append_nil]
    exact .cons rfl rv
  have len : (Value.ref n :: us).length = ps.length := rv2.length.symm.trans (F1.len _ _ _ _ wish)
  have lus : us.length ≤ sizeLine := by
    have := rv.length
    have := sizeLine_eq
    omega
  have b0 := bi ⟨h2, g, dr, tk, os⟩ (Value.ref n :: us) J.kIn (by rw [List.append_nil]; exact len)
  rw [List.append_nil] at b0
  show wpAny _ _ (call (.ref C) us) (MkP X pins σ Q) X.xe ⟨hp, g, dr, tk, os⟩
  refine wpAny_call (fam.call (I1.kIn _ _ hC) (W.looks_findIn I1.kIn hi) (fun self => W.bind_fn I1.kIn self ti) lus ?_)
  rw [hh, hn]
  refine codeAny_mono (F1.run _ X.stack _ _ ⟨Value.ref n :: us, []⟩ (Value.ref n :: us) _ _ (fun _ _ _ => False) (hr.make C us []) (J.env0.make C us []) b0 rv2 wish) ?_
  rintro (er | fl) s' z
  · exact hx pins σ _ _ er s' J z
  · cases fl with
    | next => exact z.elim
    | brk => exact z.elim
    | cont => exact z.elim
    | ret w1 =>
      obtain ⟨v, H2, os2, bare2, un2, ok2, r2, rfl, d, fs, ea, ed, d1, q2⟩ := z
      obtain ⟨h3, g3, d3, t3, os3⟩ := s'
      refine ⟨r2, ?_⟩
      exact mk_end (raises_own T.ex T.ty) I1 big kept un2 ok2 os2 bare2 ea ed d1 q2
end
end OxF


set_option Elab.async false
set_option linter.all false
set_option maxRecDepth 100000
set_option maxHeartbeats 400000
namespace Rs
open PySem L2 Bs Fq LamX
/-! ### errors with a field of any name -/
structure ErrW (K : PySem.W.Frag) (mg : Str → Option Value) (x qual fld : Str) (st : Stmt) (C : Addr) : Prop where
  gC : mg x = some (.ref C)
  oex : OexC K C
  xf : XfC K C
  no : PySem.W.findIn K (.ref C) fld = some none
  ini : ∃ (fI : Addr) (fd : FuncData), PySem.W.findIn K (.ref C) "__init__" = some (some (.ref fI)) ∧ PySem.W.typeIn K (.ref fI) = some (.type "function") ∧ Fun K "__init__" qual st fI fd ∧ Binds K fd ["self", fld] []
/-- the family of TooMany -/
abbrev ovT : List Value := [.type "OverflowError", .type "ArithmeticError", .type "Exception", .type "BaseException", .type "object"]
abbrev OexO (K : PySem.W.Frag) (C : Addr) : Prop := OxF.OexF K "OverflowError.__new__" ovT C
structure ErrO (K : PySem.W.Frag) (mg : Str → Option Value) (x qual fld : Str) (st : Stmt) (C : Addr) : Prop where
  gC : mg x = some (.ref C)
  oex : OexO K C
  xf : XfC K C
  no : PySem.W.findIn K (.ref C) fld = some none
  ini : ∃ (fI : Addr) (fd : FuncData), PySem.W.findIn K (.ref C) "__init__" = some (some (.ref fI)) ∧ PySem.W.typeIn K (.ref fI) = some (.type "function") ∧ Fun K "__init__" qual st fI fd ∧ Binds K fd ["self", fld] []
def spInitW (K : PySem.W.Frag) (C : Addr) (fld : Str) : Sp := fun vs H Q _ => ∃ (a : Addr) (y : V), vs = [.ref a, y] ∧ H a = some (exo a C none) ∧
  ∀ dx, H dx = none → dx ≠ a → Q .non (upd (upd H dx (exd dx [(fld, y)])) a (exo a C (some dx)))
structure ErrOkW (P : Program) (w : World) (K : PySem.W.Frag) (mg : Str → Option Value) (base : Heap) (x fld : Str) (C : Addr) : Prop where
  gC : mg x = some (.ref C)
  oex : OexC K C
  ini : ∃ (fI : Addr) (fd : FuncData), PySem.W.findIn K (.ref C) "__init__" = some (some (.ref fI)) ∧ PySem.W.typeIn K (.ref fI) = some (.type "function") ∧ FnOk P w K mg base CX0 1 fI fd ["self", fld] (spInitW K C fld) ∧ Binds K fd ["self", fld] []
structure ErrOkO (P : Program) (w : World) (K : PySem.W.Frag) (mg : Str → Option Value) (base : Heap) (x fld : Str) (C : Addr) : Prop where
  gC : mg x = some (.ref C)
  oex : OexO K C
  ini : ∃ (fI : Addr) (fd : FuncData), PySem.W.findIn K (.ref C) "__init__" = some (some (.ref fI)) ∧ PySem.W.typeIn K (.ref fI) = some (.type "function") ∧ FnOk P w K mg base CX0 1 fI fd ["self", fld] (spInitW K C fld) ∧ Binds K fd ["self", fld] []
/-- the way out with an error of the class at C that carries v -/
def OutW (E : XK) (C : Addr) (fld : Str) (v : V) (H : Hp) : Prop := ∀ d : Addr, H d = none → E (.ref C) (some d) (upd H d (.xd [(fld, v)]))
def tRzW (C : Addr) (fld : Str) (W : WX) (te : TE) : TS := fun _ σ H => te σ H fun v H1 => ∀ d : Addr, H1 d = none → W (.ref C) (some d) σ (upd H1 d (.xd [(fld, v)]))
theorem ps_rzW {X : Cx} {x fld : Str} {C : Addr} {j : Nat} {e : Expr} {te : TE} {W : WX} {p pos pos2 : Pos} (hc : X.calm = true) (T : ErrOkW X.prog X.w X.K X.mg X.base x fld C) (hr : Room j X.A) (hj : 2 ≤ j) (tk : Takes X W) (he : PE X e te) (hg : Gl X x)
    (hdb : (x == ("__debug__" : Str)) = false := by decide) (hs : starEach (e :: []) X.env = (false, eval e X.env) :: starEach [] X.env := by rfl) (hpl : (backTo pos (starEach [] X.env)).any (·.1) = false := by rfl) :
    PS X (.Raise (some (.Call (.Name x p) [e] [] pos)) none pos2) (tRzW C fld W te) := by
  obtain ⟨fI, fd, iC, tI, F1, b⟩ := T.ini
  have h := ps_raise (pos := pos2) hc tk (pmk_oex (x := x) (p := p) (pos := pos) T.oex iC tI F1 (hr.mono hj) b .nil pass0 hg T.gC (pa_cons (pe_weak he) pa_nil hs) hdb hs hpl)
  constructor
  intro pins s σ H D I q
  refine h.run pins s σ H D I ?_
  refine ⟨_, q, fun v H1 z => ?_⟩
  refine ⟨(by show 1 ≤ 1000; decide), fun a ha => ⟨a, v, rfl, upd_same, fun dx n1 n2 => ⟨rfl, dx, [(fld, v)], upd_same, ?_, ?_, ?_⟩⟩⟩
  · rw [upd_ne n2]
    exact upd_same
  · rw [upd_ne n2] at n1
    exact n1
  · rw [upd_ne n2] at n1
    show W _ _ _ (upd (del _ a) dx _)
    rw [heap_end ha n2]
    exact z dx n1
theorem ps_rzO {X : Cx} {x fld : Str} {C : Addr} {j : Nat} {e : Expr} {te : TE} {W : WX} {p pos pos2 : Pos} (hc : X.calm = true) (T : ErrOkO X.prog X.w X.K X.mg X.base x fld C) (hr : Room j X.A) (hj : 2 ≤ j) (tk : Takes X W) (he : PE X e te) (hg : Gl X x)
    (hdb : (x == ("__debug__" : Str)) = false := by decide) (hs : starEach (e :: []) X.env = (false, eval e X.env) :: starEach [] X.env := by rfl) (hpl : (backTo pos (starEach [] X.env)).any (·.1) = false := by rfl) :
    PS X (.Raise (some (.Call (.Name x p) [e] [] pos)) none pos2) (tRzW C fld W te) := by
  obtain ⟨fI, fd, iC, tI, F1, b⟩ := T.ini
  have h := ps_raise (pos := pos2) hc tk (OxF.pmkF (x := x) (p := p) (pos := pos) OxF.famO T.oex iC tI F1 (hr.mono hj) b pass0 hg T.gC (pa_cons (pe_weak he) pa_nil hs) hdb hs hpl)
  constructor
  intro pins s σ H D I q
  refine h.run pins s σ H D I ?_
  refine ⟨_, q, fun v H1 z => ?_⟩
  refine ⟨(by show 1 ≤ 1000; decide), fun a ha => ⟨a, v, rfl, upd_same, fun dx n1 n2 => ⟨rfl, dx, [(fld, v)], upd_same, ?_, ?_, ?_⟩⟩⟩
  · rw [upd_ne n2]
    exact upd_same
  · rw [upd_ne n2] at n1
    exact n1
  · rw [upd_ne n2] at n1
    show W _ _ _ (upd (del _ a) dx _)
    rw [heap_end ha n2]
    exact z dx n1
end Rs


set_option Elab.async false
set_option linter.all false
set_option maxRecDepth 100000
set_option maxHeartbeats 400000
namespace Sh
open PySem
/-- data whose text may be made -/
structure Ok (d : PyData) : Prop where
  s : d.showable = true
  n : d.hasDict = false
  dep : d.depth ≤ 60
  l : d.shown.length ≤ sizeLine
theorem of {d : PyData} (h1 : d.showable = true) (h2 : d.hasDict = false) (h3 : d.depth ≤ 60) (h4 : d.leavesShort 2600 = true) (h5 : d.weight ≤ 6000) : Ok d := by
  refine ⟨h1, h2, h3, ?_⟩
  have := PyData.shown_le 2600 (by decide) d h4
  have e : sizeLine = 16777216 := sizeLine_eq
  have : (2600 + 2) * d.weight ≤ 2602 * 6000 := Nat.mul_le_mul (Nat.le_refl _) h5
  omega
theorem int_short {i : Int} (h : i.natAbs < 2 ^ 2500) : (PyData.shown (.int i)).length ≤ 2600 := by
  have l : i.natAbs.log2 < 2500 := PySem.Flt.log2_lt_of (by decide) h
  have := int_text_length_le (a := i) (k := 2500) (by decide) l
  have e : (PyData.shown (.int i)).length = (toString i).length := by
    show (Str.ofString (toString i)).length = _
    exact ofString_length _
  omega
end Sh


set_option Elab.async false
set_option linter.all false
set_option maxRecDepth 100000
set_option maxHeartbeats 400000
namespace Rs
open PySem L2 Bs Fq LamX
theorem can_dFs : ∀ qs : List F, PyData.canLayAll0 (qs.map dF) = true
  | [] => by simp [PyData.canLayAll0]
  | q :: qs => by
    have := can_dFs qs
    simp [PyData.canLayAll0, PyData.canLay0, dF, this]
theorem dep_dFs : ∀ qs : List F, PyData.depthAll (qs.map dF) ≤ 2
  | [] => by simp [PyData.depthAll]
  | q :: qs => by
    have := dep_dFs qs
    simp only [List.map_cons, PyData.depthAll, PyData.depth, dF]
    omega
theorem shaped_dFs (qs : List F) : SeqAt.shaped (.list (qs.map dF)) = true := by
  unfold SeqAt.shaped
  rw [Bool.and_eq_true_iff]
  refine ⟨?_, decide_eq_true ?_⟩
  · simpa [PyData.canLay0] using can_dFs qs
  · have := dep_dFs qs
    simp only [PyData.depth]
    omega
theorem eqv_nil (qs : List F) : PyData.eqv (.list (qs.map dF)) (.list []) = qs.isEmpty := by
  cases qs <;> rfl
/-- a list of fractions -/
def Ls (K : PySem.W.Frag) (H : Hp) (v : V) (qs : List F) : Prop := ∃ a xs, v = .ref a ∧ SqL K H a xs ∧ FrAll K H xs qs
theorem Ls.mono {K : PySem.W.Frag} {H H' : Hp} {v : V} {qs : List F} (e : Same H H') (h : Ls K H v qs) : Ls K H' v qs := by
  obtain ⟨a, xs, rfl, s, f⟩ := h
  exact ⟨a, xs, rfl, e.seq s, f.mono e⟩
def spLProd (K : PySem.W.Frag) : Sp := fun vs H Q _ => ∃ (x y : V) (qs rs : List F) (n m : Nat), vs = [x, y] ∧ Ls K H x qs ∧ Ls K H y rs ∧ Za n qs ∧ Za m rs ∧ n + m ≤ 200 ∧ qs.length ≤ 12 ∧ rs.length ≤ 12 ∧ qs ≠ [] ∧ rs ≠ [] ∧
  ∀ H' v, Same H H' → Ls K H' v (prodN (qs.length + rs.length - 1) qs rs) → Q v H'
end Rs


set_option Elab.async false
set_option linter.all false
set_option maxRecDepth 100000
set_option maxHeartbeats 400000
namespace Rs
open PySem L2 Bs Fq LamX
section
variable {P : Program} {w : World} {K : PySem.W.Frag} {mg : Str → Option Value} {base : Heap} {f : Addr} {fd : FuncData}
end
end Rs


set_option Elab.async false
set_option linter.all false
set_option maxRecDepth 100000
set_option maxHeartbeats 400000
namespace Rs
open PySem L2 Bs Fq LamX
/-- the list at D alone was changed -/
theorem Sta.off {H : Hp} {p c l D : Addr} {n : Nat} {t : Int} {xs : List V} {o : HO} (S : Sta H p c l n t) (h : H D = some (.lst xs)) (n1 : c ≠ D) (n2 : l ≠ D) : Sta (upd H D o) p c l n t := by
  obtain ⟨cs, a1, a2⟩ := S.cs
  obtain ⟨ls, b1, b2⟩ := S.ls
  have n3 : p ≠ D := ne_of S.d h (by intro z; cases z)
  exact ⟨(upd_ne n3).trans S.d, ⟨cs, (upd_ne n1).trans a1, a2⟩, ⟨ls, (upd_ne n2).trans b1, b2⟩, S.ne, S.n1, S.n2, S.t0⟩
theorem FrAll.kp {K : PySem.W.Frag} {H H' : Hp} {p c l : Addr} {n : Nat} {t : Int} (k : Kp p l H H') (S : Sta H p c l n t) : ∀ {vs : List V} {qs : List F}, FrAll K H vs qs → FrAll K H' vs qs
  | _, _, .nil => .nil
  | _, _, .cons a b => .cons (k.fr S a) (FrAll.kp k S b)
theorem Po.kp {K : PySem.W.Frag} {H H' : Hp} {p c l : Addr} {n : Nat} {t : Int} {v : V} {qs : List F} (k : Kp p l H H') (S : Sta H p c l n t) (h : Po K H v qs) : Po K H' v qs := by
  obtain ⟨a, xs, rfl, s, f⟩ := h
  obtain ⟨ls, b1, _⟩ := S.ls
  refine ⟨a, xs, rfl, ?_, f.kp k S⟩
  rcases s with (s | ⟨o, s⟩) | s
  · exact .inl (.inl (k a _ s (ne_of s S.d (by intro z; cases z)) (ne_of s b1 (by intro z; cases z))))
  · exact .inl (.inr ⟨o, k a _ s (ne_of s S.d (by intro z; cases z)) (ne_of s b1 (by intro z; cases z))⟩)
  · exact .inr s
end Rs


set_option Elab.async false
set_option linter.all false
set_option maxRecDepth 100000
set_option maxHeartbeats 1000000
/-! zip of a list and a tuple -/
namespace MxZ
open PySem PySem.Spec PyProof.Rows L2
/-- each turn: the next of the list at a, the next of the tuple at b, in a new pair -/
def ItzM (K : PySem.W.Frag) (a b : Addr) : It :=
  ⟨fun i H => ∃ (l t : List V) (x y : V), SqL K H a l ∧ SqT K H b t ∧ l[i]? = some x ∧ t[i]? = some y,
    fun i H v H' => ∃ T x y, v = .ref T ∧ H T = none ∧ H' = upd H T (.tup [x, y]) ∧ (∀ l, SqL K H a l → l[i]? = some x) ∧ ∀ t, SqT K H b t → t[i]? = some y,
    fun i H => ∃ l t : List V, SqL K H a l ∧ SqT K H b t ∧ i ≤ l.length ∧ i ≤ t.length ∧ (i = l.length ∨ i = t.length)⟩
theorem five {z TI TO j k c : Addr} (h : c ∈ [z, TI, TO, j, k]) : c = z ∨ c = TI ∨ c = TO ∨ c = j ∨ c = k := by simpa using h
theorem turn_mix {P : Program} {w : World} {K : PySem.W.Frag} {elts : List Expr} {kk : Nat} {tpos : Pos} {a b z TI TO j k : Addr} (S : ZipSep2 z TI TO j k [j, a] [k, b]) (na : a ≠ j) (nb : b ≠ k) :
    Turn P w K (.Tuple elts kk tpos) (ItzM K a b) [z, TI, TO, j, k] z (fun i h => IsZip h z TI TO .none ∧ IsTupOf2 h TI (.ref j) (.ref k) ∧ (∃ x y, IsTupOf2 h TO x y) ∧ h.IsListIter j a i ∧ h.IsTupleIter k b i) where
  mem := List.mem_cons_self
  obj := fun i h st c hc => by
    obtain ⟨hz, hI, ⟨x, y, hO⟩, ⟨oj, ej, _, dj⟩, ⟨ok, ek, _, dk⟩⟩ := st
    rcases five hc with rfl | rfl | rfl | rfl | rfl
    · exact ⟨_, hz, fun v n => nomatch n⟩
    · exact ⟨_, hI, fun v n => nomatch n⟩
    · exact ⟨_, hO, fun v n => nomatch n⟩
    · exact ⟨oj, ej, fun v n => by rw [dj] at n; cases n⟩
    · exact ⟨ok, ek, fun v n => by rw [dk] at n; cases n⟩
  keep := fun i h h' st g => by
    obtain ⟨hz, hI, ⟨x, y, hO⟩, hj, hk⟩ := st
    exact ⟨g z (by simp) _ hz, g TI (by simp) _ hI, ⟨x, y, g TO (by simp) _ hO⟩, hj.at fun o n => g j (by simp) o n, hk.at fun o n => g k (by simp) o n⟩
  item := by
    intro X hP hw hK hc i pins s σ H E I hf st hg
    subst hP hw hK
    obtain ⟨hz, hI, ⟨x0, y0, hO⟩, hj, hk⟩ := st
    obtain ⟨l, t, x, y, ql, qt, gx, gy⟩ := hg
    obtain ⟨il, rl, pl, _⟩ := I.list ql
    obtain ⟨it, rt, pt, _⟩ := I.tuple qt
    obtain ⟨u, hu, ru⟩ := rl.get gx
    obtain ⟨v, hv, rv⟩ := rt.get gy
    have zl : z < s.heap.objs.size := Heap.lt_size hz
    have lt1 : i < il.toArray.size := by
      obtain ⟨q, _⟩ := List.getElem?_eq_some_iff.mp hu
      simpa using q
    have lt2 : i < it.toArray.size := by
      obtain ⟨q, _⟩ := List.getElem?_eq_some_iff.mp hv
      simpa using q
    refine wpAny_pyNext_zipD2_item S (Draws.list (A := X.A.in1) (I.ok.hd hc) j a na il.toArray) (Draws.tuple (A := X.A.in1) (I.ok.hd hc) k b nb it.toArray) hz hI hO ⟨hj, pl.isList⟩ ⟨hk, pt⟩ lt1 lt2 fun u' v' h' tk eu ev z' O' sj sk hT hs keep => ?_
    have eu' : u' = u := by
      have : il[i]? = some u' := by simpa using eu
      rw [hu] at this
      exact (Option.some.inj this).symm
    have ev' : v' = v := by
      have : it[i]? = some v' := by simpa using ev
      rw [hv] at this
      exact (Option.some.inj this).symm
    subst eu' ev'
    refine ⟨_, rfl, wpAny_letOwnedTupleGo_zip (s := { s with heap := h', toks := tk }) z' fun h2 z2 sb => ?_⟩
    have hT2 : IsTupOf2 h2 s.heap.objs.size u' v' := (sb.2 _ (Nat.ne_of_gt zl)).trans hT
    have fresh : ObjOk X.prog X.w (upd H s.heap.objs.size (.tup [x, y])) h2 s.heap.objs.size (.tup [x, y]) :=
      ⟨by show 2 ≤ sizeLine; decide, [u', v'], .cons ru (.cons rv .nil), ⟨_, hT2, rfl, _, rfl⟩⟩
    have J : Inv X pins σ (upd H s.heap.objs.size (.tup [x, y])) { s with heap := h2, toks := tk } := by
      refine I.turnedNew (ch := [z, TI, TO, j, k]) (fun c o out e => ?_) hf (Nat.le_refl _) fresh
      have n : c ≠ z ∧ c ≠ TO ∧ c ≠ j ∧ c ≠ k := ⟨fun q => out (by simp [q]), fun q => out (by simp [q]), fun q => out (by simp [q]), fun q => out (by simp [q])⟩
      exact (sb.2 c n.1).trans (keep c o n.1 n.2.1 n.2.2.1 n.2.2.2 e)
    refine ⟨.ref s.heap.objs.size, _, J, rfl, ⟨_, x, y, rfl, I.hok.fresh (Nat.le_refl _), rfl, fun m hm => by rw [I.list_inj hm ql]; exact gx, fun m hm => by rw [I.tuple_inj hm qt]; exact gy⟩, ⟨z2, ?_, ⟨u', v', ?_⟩, ?_, ?_⟩, fun c hcm => ?_⟩
    · refine (sb.2 _ S.TIz).trans (keep _ _ S.TIz S.TITO S.TIi1 S.TIi2 hI)
    · exact (sb.2 _ S.TOz).trans O'
    · exact sj.1.at fun o q => (sb.2 _ (Ne.symm S.zi1)).trans q
    · exact sk.1.at fun o q => (sb.2 _ (Ne.symm S.zi2)).trans q
    · have lt : c < s.heap.objs.size := by
        rcases five hcm with rfl | rfl | rfl | rfl | rfl
        · exact zl
        · exact Heap.lt_size hI
        · exact Heap.lt_size hO
        · exact hj.elim fun _ q => Heap.lt_size q.1
        · exact hk.elim fun _ q => Heap.lt_size q.1
      rw [upd_ne (Nat.ne_of_lt lt)]
      exact (hf c hcm).1
  done := by
    intro X hP hw hK hc i pins s σ H E I hf st hg
    subst hP hw hK
    obtain ⟨hz, hI, ⟨x0, y0, hO⟩, hj, hk⟩ := st
    obtain ⟨l, t, ql, qt, b1, b2, fin⟩ := hg
    obtain ⟨il, rl, pl, _⟩ := I.list ql
    obtain ⟨it, rt, pt, _⟩ := I.tuple qt
    have n1 : il.toArray.size = l.length := by rw [List.size_toArray, rl.length]
    have n2 : it.toArray.size = t.length := by rw [List.size_toArray, rt.length]
    refine wpAny_pyNext_zipD2_end (i := i) S (Draws.list (A := X.A.in1) (I.ok.hd hc) j a na il.toArray) (Draws.tuple (A := X.A.in1) (I.ok.hd hc) k b nb it.toArray) hz hI hO ⟨hj, pl.isList⟩ ⟨hk, pt⟩ (by omega) (by omega) (by omega) fun h' tk keep => ⟨rfl, ?_⟩
    refine I.turnedL (ch := [z, TI, TO, j, k]) (fun c o out e => ?_) hf
    exact keep c o (fun q => out (by simp [q])) (fun q => out (by simp [q])) (fun q => out (by simp [q])) (fun q => out (by simp [q])) e
  self := fun A i s Q E st h => wpAny_pyIter_zip st.1 h
theorem out2 {x u v : Nat} (h1 : x ≠ u) (h2 : x ≠ v) : ¬ ((x : Addr) ∈ ([u, v] : List Addr)) := fun h => by
  rcases List.mem_cons.mp h with q | q
  · exact h1 q
  · exact h2 (List.mem_singleton.mp q)
theorem apart (n a b : Nat) (la : a < n) (lb : b < n) : ZipSep2 (n + 4 : Nat) (n + 2 : Nat) (n + 3 : Nat) n (n + 1 : Nat) [n, a] [(n + 1 : Nat), b] where
  TIz := by show (n + 2 : Nat) ≠ n + 4; omega
  TOz := by show (n + 3 : Nat) ≠ n + 4; omega
  TITO := by show (n + 2 : Nat) ≠ n + 3; omega
  TIi1 := by show (n + 2 : Nat) ≠ n; omega
  mem1 := List.mem_cons_self
  zf1 := out2 (by omega) (by omega)
  Tf1 := out2 (by omega) (by omega)
  TIi2 := by show (n + 2 : Nat) ≠ n + 1; omega
  mem2 := List.mem_cons_self
  zf2 := out2 (by omega) (by omega)
  Tf2 := out2 (by omega) (by omega)
  sep1_2 := out2 (by omega) (by omega)
  sep2_1 := out2 (by omega) (by omega)
def iMix (K : PySem.W.Frag) (ta : TA) : TI := fun σ H R => ta σ H fun vs H1 => ∃ a b l t, vs = [.ref a, .ref b] ∧ SqL K H1 a l ∧ SqT K H1 b t ∧ R (ItzM K a b) H1
theorem pi_mix {X : Cx} {e e2 : Expr} {ta : TA} {p pos tpos : Pos} {elts : List Expr} {kk : Nat} (hg : Gl X "zip") (hm : X.mg "zip" = none) (ha : PA X [e, e2] ta)
    (st : starEach [e, e2] X.env = (false, eval e X.env) :: starEach [e2] X.env := by rfl) (pl : (backTo pos (starEach [e2] X.env)).any (·.1) = false := by rfl) :
    PI X (.Tuple elts kk tpos) (.Call (.Name "zip" p) [e, e2] [] pos) (iMix X.K ta) := by
  constructor
  intro pins s σ H R I h
  refine Call_ (ld_blt I hg hm PyProof.Rows.boot_zip (PyProof.Rows.callWith_type1 (thn (ha.run pos pins s σ H _ I h) ?_) st pl))
  rintro us s1 ⟨vs, H1, I1, r1, a, b, l, t, rfl, ql, qt, q⟩
  cases r1 with
  | cons ra rr =>
    cases rr with
    | cons rb rr =>
      cases rr
      cases ra
      cases rb
      obtain ⟨il, rl, pl', _⟩ := I1.list ql
      obtain ⟨it, rt, pt, _⟩ := I1.tuple qt
      have la : a < s1.heap.objs.size := pl'.lt
      have lb : b < s1.heap.objs.size := by
        obtain ⟨o, z, _⟩ := id pt
        exact Heap.lt_size z
      refine zip_begins2 (begins_list a il.toArray) (begins_tuple b it.toArray) pl'.isList pt fun h' hz hI hO gj gk hs keep => wpAny_pyIter_zip hz ?_
      have J : Inv X pins σ H1 { s1 with heap := h' } := I1.kept (t' := s1.toks) keep
      refine ⟨s1.heap.objs.size + 4, [s1.heap.objs.size + 4, s1.heap.objs.size + 2, s1.heap.objs.size + 3, s1.heap.objs.size, s1.heap.objs.size + 1], _, _, H1, rfl, J, turn_mix (apart s1.heap.objs.size a b la lb) (Nat.ne_of_lt la) (Nat.ne_of_lt (Nat.lt_succ_of_lt lb)), ⟨hz, hI, ⟨_, _, hO⟩, ⟨_, gj, rfl, rfl⟩, ⟨_, gk, rfl, rfl⟩⟩, fun c hcm => ?_, q⟩
      have up : s1.heap.objs.size ≤ c := by
        rcases five hcm with rfl | rfl | rfl | rfl | rfl
        · exact Nat.le_add_right _ 4
        · exact Nat.le_add_right _ 2
        · exact Nat.le_add_right _ 3
        · exact Nat.le_refl _
        · exact Nat.le_add_right _ 1
      exact I1.fpOk up (I1.hok.fresh up)
end MxZ


set_option Elab.async false
set_option linter.all false
set_option maxRecDepth 100000
set_option maxHeartbeats 4000000
/-! the family of KeyError: made by LookupError's __new__ -/
namespace OxF
open PySem PySem.HandSPX L2 Builtin Builtin.ObjectAttr
abbrev keT : List Value := [.type "KeyError", .type "LookupError", .type "Exception", .type "BaseException", .type "object"]
abbrev keN : String := "LookupError.__new__"
section
variable {prog : Program} {w : World} {M : Model} {A : Around} {E : Value → Shared → Prop} {R : Result → Shared → Prop} {hp : Heap} {gs : Array GenState} {dr : Drawn} {tk : Nat} {os : OsState}
  {nm qn : Str} {C N fI : Addr} {bs sub args : List Value} {sn : List Str} {ab : Bool} {col : Option Bool} {dd : Option Addr} {k0 k1 k2 k3 k5 : Option Value}
theorem keL : (Value.ref C :: keT).contains (.type "LookupError") = true := by rw [List.contains_cons]; exact (Bool.or_eq_true _ _).mpr (.inr (by decide +kernel))
theorem keA : (Value.ref C :: keT).contains (.type "AttributeError") = false := by rw [List.contains_cons]; exact Bool.or_eq_false_iff.mpr ⟨rfl, by decide +kernel⟩
theorem keNm : (Value.ref C :: keT).contains (.type "NameError") = false := by rw [List.contains_cons]; exact Bool.or_eq_false_iff.mpr ⟨rfl, by decide +kernel⟩
theorem ke_check {Q : Unit → Shared → Prop} (at_ : hp.get? C = some (excClassObj nm qn C N bs keT true sn sub ab col dd k0 k1 k2 k3 k5 keN)) (q : Q () ⟨hp, gs, dr, tk, os⟩) : wpAny M A (checkBuiltinCall keN ⟨.ref C :: args, []⟩) Q E ⟨hp, gs, dr, tk, os⟩ := by
  have L := keL (C := C)
  have B := F.excBase_LookupError
  have star := B.noStar
  simp only [checkBuiltinCall, B.newKind, B.newSplit, B.newRow]
  repeat (first | with_reducible refine wpAny_loadPart_at at_ ?_ | (refine wpAny_isSubtype_exc at_ ?_; rw [L]) | refine wpAny_staticBase_exc at_ ?_ | refine wpAny_madeBy_exc at_ ?_ | simp only [bne_self_eq_false, Bool.false_eq_true, if_false] | wp_step)
  exact q
theorem ke_new (at_ : hp.get? C = some (excClassObj nm qn C N bs keT true sn sub ab col dd k0 k1 k2 k3 k5 keN)) (short : args.length ≤ sizeLine)
    (q : R (.ok (.ret (.ref (hp.objs.size + 1)))) ⟨(hp.push (W.kdv_tup args)).push (excO C hp.objs.size), gs, dr, tk, os⟩) : codeAny (model prog w) A (.builtin keN ⟨.ref C :: args, []⟩) R ⟨hp, gs, dr, tk, os⟩ := by
  have L := keL (C := C)
  have LA := keA (C := C)
  have LN := keNm (C := C)
  have B := F.excBase_LookupError
  have en := B.ends
  refine codeAny_builtinAt B.entry ?_
  unfold Builtin.«BaseException.__new__»
  refine wpAt_bind ?_
  show wpAt _ _ _ (stack >>= _) _ _ _
  refine wpAt_bind (wpAt_stack fun p below => wpAt_of_wpAny ?_)
  wp_walk
  refine wpAt_of_wpAny ?_
  rw [B.owner]
  repeat (first | with_reducible refine wpAny_madeHere_exc B.canon at_ ?_ | with_reducible refine wpAny_loadPart_at at_ ?_ | (with_reducible refine wpAny_isSubtype_exc at_ ?_; first | rw [L] | rw [LA] | rw [LN]) | wp_step)
  show R _ _
  rw [Heap.size_push]
  exact q
theorem ke_type {Q : Fin → Shared → Prop} (at_ : hp.get? C = some (excClassObj nm qn C N bs keT true sn sub ab col dd k0 k1 k2 k3 k5 keN)) (ini : W.Looks (model prog w) hp (typeLookup (.ref C) "__init__") (some (.ref fI)))
    (bnd : ∀ self, W.Looks (model prog w) hp (bindSpecial (.ref fI) self) (.ref fI, [self])) (short : args.length ≤ sizeLine)
    (q : codeAny (model prog w) A (.call (.ref fI) ⟨.ref (hp.objs.size + 1) :: args, []⟩) (fun r s' => match r with | .ok (.ret v) => v = .none ∧ Q (.done (.ret (.ref (hp.objs.size + 1)))) s' | .ok _ => False | .error e => E e s')
      ⟨(hp.push (W.kdv_tup args)).push (excO C hp.objs.size), gs, dr, tk, os⟩) : wpAny (model prog w) A (Builtin.«type.__call__» ⟨.ref C :: args, []⟩) Q E ⟨hp, gs, dr, tk, os⟩ := by
  have B := F.excBase_LookupError
  have keep : ∀ b o, hp.get? b = some o → ((hp.push (W.kdv_tup args)).push (excO C hp.objs.size)).get? b = some o := fun b o z => Heap.get?_push_of_some _ (Heap.get?_push_of_some _ z)
  have at2 := keep _ _ at_
  have new2 : ((hp.push (W.kdv_tup args)).push (excO C hp.objs.size)).get? (hp.objs.size + 1) = some (excO C hp.objs.size) := by heap_get
  have self2 : (Value.ref C :: keT).contains (.ref C) = true := by simp
  have ini2 := ini.keeps keep
  have bnd2 := (bnd (.ref (hp.objs.size + 1))).keeps keep
  repeat (first | with_reducible refine wpAny_loadPart_at at_ ?_ | with_reducible refine wpAny_madeBy_exc at_ ?_ | wp_step)
  refine codeAny_call_builtin_code (Code.quiet_builtin _ B.quiet) (ke_check at_ (ke_new at_ short ?_))
  show wpAny _ _ _ _ _ _
  unfold isInstance
  repeat (first | with_reducible refine wpAny_loadPart_at new2 ?_ | (with_reducible refine wpAny_isSubtype_exc at2 ?_; rw [self2]) | wp_step)
  show wpAny _ _ (typeLookup (.ref C) _) _ _ _
  refine ini2.at (wpAny_holding (wpAny_bind (bnd2.at (wpAny_bind (wpAny_call (codeAny_mono q fun r s' z => ?_))))))
  rcases r with e | (v | _ | _ | _) <;> first | exact z | exact z.elim | skip
  obtain ⟨rfl, z⟩ := z
  first | exact wpAny_pure (wpAny_pure z) | (wp_walk; exact z)
theorem ke_call (at_ : hp.get? C = some (excClassObj nm qn C N bs keT true sn sub ab col dd k0 k1 k2 k3 k5 keN)) (ini : W.Looks (model prog w) hp (typeLookup (.ref C) "__init__") (some (.ref fI)))
    (bnd : ∀ self, W.Looks (model prog w) hp (bindSpecial (.ref fI) self) (.ref fI, [self])) (short : args.length ≤ sizeLine)
    (q : codeAny (model prog w) (A.under (.builtin "type.__call__" ⟨.ref C :: args, []⟩)) (.call (.ref fI) ⟨.ref (hp.objs.size + 1) :: args, []⟩) (W.InitBack (hp.objs.size + 1) R) ⟨(hp.push (W.kdv_tup args)).push (excO C hp.objs.size), gs, dr, tk, os⟩) :
    codeAny (model prog w) A (.call (.ref C) ⟨args, []⟩) R ⟨hp, gs, dr, tk, os⟩ := by
  have lk1 := tc_lookup
  have lk2 := tc_bind (.ref C)
  have ty : (⟨hp, gs, dr, tk, os⟩ : Shared).TypeIs (.ref C) "type" := ⟨_, at_, rfl⟩
  refine codeAny_of_tree ?_
  show wpAny _ _ (callAny (.ref C) _) _ _ _
  repeat (any_goals (first | assumption | with_reducible refine wpAny_loadPart_at at_ ?_ | wp_step))
  refine ⟨rfl, codeAny_call_builtin_at (Code.quiet_builtin _ (by decide +kernel)) entry_typeCall (wpAny_check_type_call_sub at_ (ke_type at_ ini bnd short ?_))⟩
  exact codeAny_mono q fun r s' z => by rcases r with e | (v | _ | _ | _) <;> exact z
end
theorem famK : Fam keN keT := ⟨fun hC hi hb hr hq => ke_call hC hi hb hr hq, fun self => by kernel_rfl, by decide +kernel⟩
end OxF


set_option Elab.async false
set_option linter.all false
set_option maxRecDepth 100000
set_option maxHeartbeats 4000000
/-! t * 1, t a tuple that is not empty: t itself -/
namespace RpO
open PySem PySem.Spec PyProof.Rows L2
theorem once (t : Addr) (vs : Array Value) (n : Nat) (dct : Option Addr) (sls : Array (Option Value)) (tk : Tok) :
    Meets (Builtin.«tuple.__mul__» ⟨[.ref t, .int 1 tk], []⟩) (fun _ R s => s.heap.get? t = some { cls := .type "tuple", dict := dct, data := .seq vs n, slots := sls } ∧ R (.ok (.ret (Value.ref t))) s) :=
  .of_wp fun pr wd Ar Re st hh => by
    obtain ⟨q1, q2, q3, q4, q5⟩ := st
    obtain ⟨hl, hr⟩ := hh
    (wp_walk using wpAny_loadPart' hl)
    repeat (first
      | (refine wpAny_ite_false (by decide) ?_; wp_walk using wpAny_loadPart' hl)
      | (refine wpAny_ite_true (by simp) ?_; wp_walk using wpAny_loadPart' hl))
    all_goals first | exact ⟨_, rfl, hr⟩ | skip
def rOnce (K : PySem.W.Frag) : R2 := fun x y H Q => ∃ t xs, x = .ref t ∧ y = .int 1 ∧ SqT K H t xs ∧ Q (.ref t) H
theorem op_once {X : Cx} : OpR X (binaryOp .Mult) (rOnce X.K) := by
  intro pins s σ H x y v u Q I rx ry h
  obtain ⟨t, xs, rfl, rfl, hT, q⟩ := h
  cases rx
  obtain ⟨tk, rfl⟩ := ry
  obtain ⟨its, r, ⟨⟨cls, dct, data, sls⟩, ho, hc, n, hd⟩, hs⟩ := I.tuple hT
  simp only at hc hd
  subst hc hd
  exact wpAny_binaryOp_repeat_ref (T := "tuple") (U := "int") (by decide) ⟨_, ho, rfl⟩ (fun s' => typeIs_int s' 1 tk) noFill_tuple_mul F.fills_int_mul F.slot_int_rmul repeat_tuple F.slot_int_index.lookup
    (call_meets F.slot_int_rmul (typeIs_int s 1 tk) F.entry_int_rmul (F.args_int_rmul_2 _ _) (int_rmul_tuple 1 tk t its.toArray n dct sls)
      ⟨ho, rfl, ⟨_, ho, rfl⟩, call_meets F.slot_tuple_mul ⟨_, ho, rfl⟩ F.entry_tuple_mul (F.args_tuple_mul_2 _ _) (once t its.toArray n dct sls tk) ⟨ho, .ref t, H, I, rfl, q⟩⟩)
end RpO


set_option Elab.async false
set_option linter.all false
set_option maxRecDepth 100000
set_option maxHeartbeats 400000
namespace Rs
open PySem L2 Bs Fq LamX
theorem cat_any {K : PySem.W.Frag} {H : Hp} {Q : VK} {a b : Addr} {xs ys : List V} (ha : SqT K H a xs) (hb : SqT K H b ys) (sz : xs.length + ys.length ≤ sizeLine) (k : ∀ c H', Same H H' → SqT K H' c (xs ++ ys) → Q (.ref c) H') : rCatA K (.ref a) (.ref b) H Q := by
  refine ⟨a, b, xs, ys, rfl, rfl, ha, hb, sz, fun e => ?_, fun _ e => ?_, fun _ _ p hp => k p _ (same_new hp) (SqT.of upd_same)⟩
  · subst e
    exact k b H (fun _ _ z => z) hb
  · subst e
    refine k a H (fun _ _ z => z) ?_
    rw [List.append_nil]
    exact ha
def spScaled (K : PySem.W.Frag) : Sp := fun vs H Q _ => ∃ (x y : V) (qs : List F) (r : F), vs = [x, y] ∧ Po K H x qs ∧ Fr K H y r ∧ (∀ q ∈ qs, Dm q) ∧ Dm r ∧ qs.length ≤ 500 ∧
  ∀ H' p, Same H H' → Po K H' (.ref p) (scP qs r) → Q (.ref p) H'
def spShifted (K : PySem.W.Frag) : Sp := fun vs H Q _ => ∃ (x : V) (qs : List F), vs = [x, .int 1] ∧ Po K H x qs ∧ qs ≠ [] ∧ qs.length ≤ 500 ∧
  ∀ H' p, Same H H' → Po K H' (.ref p) ((0, 1) :: qs) → Q (.ref p) H'
def spNext (K : PySem.W.Frag) : Sp := fun vs H Q _ => ∃ (x y u v : V) (bs hs : List F) (l s : F) (n : Nat), vs = [x, y, u, v] ∧ Po K H x bs ∧ Po K H y hs ∧ Fr K H u l ∧ Fr K H v s ∧ Za n bs ∧ Za n hs ∧ Zs 1 l ∧ Zs 1 s ∧ n ≤ 300 ∧ hs ≠ [] ∧ bs.length ≤ 100 ∧ hs.length ≤ 100 ∧
  ∀ H' p, Same H H' → Po K H' (.ref p) (nxt bs hs l s) → Q (.ref p) H'
theorem plL_za {n : Nat} {a b : List F} (ha : Za n a) (hb : Za n b) : Za (n + 1) (plL a b) := trim_za fun q hq => by
  obtain ⟨k, rfl⟩ := byPower_mem hq
  exact (ha.co k).sub (hb.co k)
theorem plL_len (a b : List F) : (plL a b).length ≤ max a.length b.length := by
  have := trim_len (byPower sub a b (max a.length b.length))
  rw [byPower_len] at this
  exact this
section
variable {P : Program} {w : World} {K : PySem.W.Frag} {mg : Str → Option Value} {base : Heap} {f : Addr} {fd : FuncData}
end
end Rs


set_option Elab.async false
set_option linter.all false
set_option maxRecDepth 100000
set_option maxHeartbeats 1000000
namespace Rs
open PySem L2 Bs Fq LamX
/-! ### ladders as data -/
def top0 : PyData → Bool
  | .tuple (.int a :: _) => decide (0 < a)
  | _ => false
def posD (d : PyData) : Bool := fracD d && top0 d
def shapeD : PyData → PyData → Bool
  | .tuple ls, .tuple ss => if lastNz ss then (decide (ls.length ≤ 4) && ((decide (ls.length = ss.length) || decide (ls.length = ss.length + 1)) && ss.all top0)) else (decide (ls.length = ss.length) && ss.dropLast.all top0)
  | _, _ => false
def ladderD : PyData → Bool
  | .tuple [t, ls, ss] => posD t && (fracsD 5 ls && (fracsD 5 ss && shapeD ls ss))
  | _ => false
def above (qs : List F) : Bool := qs.all fun q => decide (0 < q.1)
theorem above_map : ∀ qs : List F, (qs.map dF).all top0 = above qs
  | [] => rfl
  | q :: qs => by
    show (top0 (dF q) && (qs.map dF).all top0) = (decide (0 < q.1) && above qs)
    rw [above_map qs]
    rfl
theorem ladderD_len {ds : List PyData} (h : ds.length ≠ 3) : ladderD (.tuple ds) = false := by
  unfold ladderD
  split
  · rename_i e
    cases e
    exact absurd rfl h
  · rfl
theorem three_of {K : PySem.W.Frag} {H : Hp} {xs : List V} {ds : List PyData} (h : DpAll K H xs ds) (l : xs.length = 3) : ∃ v1 v2 v3 d1 d2 d3, xs = [v1, v2, v3] ∧ ds = [d1, d2, d3] ∧ Dp K H v1 d1 ∧ Dp K H v2 d2 ∧ Dp K H v3 d3 := by
  cases h with
  | nil => cases l
  | cons h1 t1 =>
    cases t1 with
    | nil => cases l
    | cons h2 t2 =>
      cases t2 with
      | nil => cases l
      | cons h3 t3 =>
        cases t3 with
        | nil => exact ⟨_, _, _, _, _, _, rfl, rfl, h1, h2, h3⟩
        | cons _ _ => simp at l
theorem shape_end {qs rs : List F} (n : rs ≠ []) (e : co rs (rs.length - 1) = (0, 1)) : shapeD (dP qs) (dP rs) = (decide (qs.length = rs.length) && above (rs.take (rs.length - 1))) := by
  simp only [shapeD, dP]
  rw [lastNz_map, if_neg (by
    rw [decide_eq_true_eq]
    rintro (z | z)
    · exact n z
    · exact z e), List.length_map, List.length_map, ← List.map_dropLast, above_map, List.dropLast_eq_take]
theorem shape_open {qs rs : List F} (p : Pn rs) : shapeD (dP qs) (dP rs) = (decide (qs.length ≤ 4) && ((decide (qs.length = rs.length) || decide (qs.length = rs.length + 1)) && above rs)) := by
  simp only [shapeD, dP]
  rw [lastNz_map, if_pos (decide_eq_true p), List.length_map, List.length_map, above_map]
theorem if_in {b c : Bool} (h : b = c) {A B : Prop} (ha : c = true → A) (hb : c = false → B) : if b = true then A else B := by
  subst h
  cases b with
  | true => exact ha rfl
  | false => exact hb rfl
theorem atI_neg1 {xs : List V} {u : V} (n : xs ≠ []) (h : xs[xs.length - 1]? = some u) : atI xs (-1) = some u := by
  have hl := List.length_pos_iff.mpr n
  have e : ixN xs.length (-1) = some (xs.length - 1) := by
    unfold ixN
    rw [if_neg (by decide), if_pos (by omega)]
    congr 1
    omega
  unfold atI
  rw [e]
  exact h
theorem cut_init {xs : List V} (n : xs ≠ []) : cutV xs none (some (-1)) = xs.take (xs.length - 1) ∧ ¬ (HT.sIx xs.length 0 none = 0 ∧ HT.sIx xs.length xs.length (some (-1)) = xs.length) := by
  have hl := List.length_pos_iff.mpr n
  have e : HT.sIx xs.length xs.length (some (-1)) = xs.length - 1 := by
    show (if (-1 : Int) < 0 then ((-1 : Int) + (xs.length : Int)).toNat else min (-1 : Int).toNat xs.length) = xs.length - 1
    rw [if_pos (by decide)]
    omega
  refine ⟨?_, fun z => ?_⟩
  · unfold cutV
    rw [e, HT.sIx_none, List.drop_zero, Nat.sub_zero]
  · rw [e] at z
    omega
abbrev sPosi : Stmt := top 16
abbrev sIsLad : Stmt := top 22
abbrev sAbove : Stmt := top 23
abbrev sNeedLad : Stmt := top 24
structure Mosts (mg : Str → Option Value) : Prop where
  m4 : ∃ t, mg "MOST_OPEN" = some (.int 4 t)
  m5 : ∃ t, mg "MOST_ENDED" = some (.int 5 t)
def spPosi (K : PySem.W.Frag) : Sp := fun vs H Q _ => ∃ (v : V) (d : PyData), vs = [v] ∧ Dp K H v d ∧ Q (.bl (posD d)) H
def spAbove (K : PySem.W.Frag) : Sp := fun vs H Q _ => ∃ (v : V) (qs : List F), vs = [v] ∧ Po K H v qs ∧ qs.length ≤ 500 ∧ ∀ H', Same H H' → Q (.bl (above qs)) H'
def spIsLad (K : PySem.W.Frag) : Sp := fun vs H Q _ => ∃ (v : V) (d : PyData), vs = [v] ∧ Dp K H v d ∧ ∀ H', Same H H' → Q (.bl (ladderD d)) H'
def spNeedLad (K : PySem.W.Frag) (C : Addr) : Sp := fun vs H Q E => ∃ (v : V) (d : PyData), vs = [v] ∧ Dp K H v d ∧ (ladderD d = true → ∀ H', Same H H' → Q v H') ∧ (ladderD d = false → ∀ H', Same H H' → OutW E C "given" v H')
section
variable {P : Program} {w : World} {K : PySem.W.Frag} {mg : Str → Option Value} {base : Heap} {f : Addr} {fd : FuncData} {CL : Addr}
theorem scPosi : FnScope ["thing"] ["thing"] (defScope sPosi) := ⟨rfl, rfl, rfl, by decide +kernel, rfl, by decide +kernel, by decide +kernel⟩
theorem ok_posi (F : Fun K "is_positive" "is_positive" sPosi f fd) (W : Cal P w K mg base 2 "is_fraction" (spFraction K)) : FnOk P w K mg base CX0 3 f fd ["thing"] (spPosi K) := by
  refine F.ok scPosi (fun vs H Q E h => ?_) (fun cdv A outer s H vs Q E hr h => ?_)
  · obtain ⟨v, d, rfl, _⟩ := h
    rfl
  · obtain ⟨v, d, rfl, hd, kk⟩ := h
    refine ⟨_, pss_one (ps_ret (pe_and (pe_n W hr (by decide) (by rfl) (pa_cons (pv 0) pa_nil)) (pe_one (pe_cmpR op_gt (pe_ix ix_tup (pv 0) pe_int (fun _ _ => rfl)) pe_int (nomark _))))), ?_⟩
    refine ⟨v, rfl, v, d, rfl, hd, _, rfl, ?_⟩
    unfold posD at kk
    cases e : fracD d with
    | false =>
      rw [e] at kk
      exact iteF kk
    | true =>
      rw [e] at kk
      obtain ⟨q, rfl, o⟩ := fracD_true e
      obtain ⟨a, rfl, sq⟩ := dp_fr hd
      exact iteT ⟨_, rfl, a, _, 0, _, rfl, rfl, sq, rfl, _, _, rfl, rfl, kk⟩
theorem scAbove : FnScope ["some", "part"] ["some"] (defScope sAbove) := ⟨rfl, rfl, rfl, by decide +kernel, rfl, by decide +kernel, by decide +kernel⟩
theorem ok_above (F : Fun K "are_above" "are_above" sAbove f fd) (al : mg "all" = none) : FnOk P w K mg base CX0 1 f fd ["some"] (spAbove K) := by
  refine F.ok scAbove (fun vs H Q E h => ?_) (fun cdv A outer s H vs Q E hr h => ?_)
  · obtain ⟨v, qs, rfl, _⟩ := h
    rfl
  · obtain ⟨v, qs, rfl, ⟨a, xs, rfl, sx, fx⟩, lq, kk⟩ := h
    have lx := fx.len
    refine ⟨_, pss_one (ps_ret (pe_callB (cr_all rfl) (by rfl) al (by decide +kernel) (pa_cons (pe_lc (own := [("part", 1)]) (g := gName 1) (tt := tYes) rfl scAbove.nd (pi_tup (pv 0)) (blkOk_by (N := ["some", "part"]) (sc := defScope sAbove) (by decide +kernel))
          (fun _ _ _ _ _ => pg_name (i := 1) scAbove.nd rfl (Or.inl rfl)) (fun _ _ _ _ _ => pts_nil)
          (fun _ _ _ _ _ => pe_cmpR op_gt (pe_ix (r := rIxT K) ix_tup (pv 1) pe_int (fun _ _ => rfl)) pe_int (nomark _))) pa_nil))), ?_⟩
    refine ⟨_, rfl, a, rfl, ⟨_, sx⟩, fun D hD => lc_tup (K := K) (a := a) (xs := xs) (fun i H2 => Same H H2 ∧ H2 D = some (.lst (((qs.take i).map fun q => decide (0 < q.1)).map V.bl))) ⟨same_new hD, upd_same⟩ (fun i H2 _ z => Bs.Same.t z.1 sx) ?_ ?_⟩
    · rintro i x H2 hx ⟨s2, hD2⟩
      have hi : i < qs.length := by
        have := (List.getElem?_eq_some_iff.mp hx).1
        omega
      obtain ⟨v', q, g1, g2, b, rfl, sb⟩ := fx.get hi
      rw [hx] at g1
      cases g1
      refine ⟨rfl, ?_⟩
      refine iteT (B := Same H H2 ∧ H2 D = some (.lst (((qs.take (i + 1)).map fun q => decide (0 < q.1)).map V.bl))) ?_
      refine ⟨_, rfl, b, _, 0, _, rfl, rfl, Bs.Same.t s2 sb, rfl, _, _, rfl, rfl, ?_⟩
      refine ⟨_, hD2, ?_, fun b o e => (upd_ne (ne_of_none e hD)).trans (s2 b o e), ?_⟩
      · rw [List.length_map, List.length_map, List.length_take]
        exact small1000 (by omega)
      · rw [upd_same, take_one g2, List.map_append, List.map_append]
        rfl
    · rintro H2 ⟨s2, hD2⟩
      rw [lx, List.take_length] at hD2
      refine ⟨D, _, rfl, SqL.of hD2, ?_⟩
      have := kk H2 s2
      rw [List.all_map]
      exact this
theorem scIsLad : FnScope ["thing", "levels", "steps"] ["thing"] (defScope sIsLad) := ⟨rfl, rfl, rfl, by decide +kernel, rfl, by decide +kernel, by decide +kernel⟩
theorem ok_isLad (F : Fun K "is_ladder" "is_ladder" sIsLad f fd) (T : Blt mg) (M : Mosts mg) (Z : Nou K mg) (PO : Cal P w K mg base 3 "is_positive" (spPosi K)) (AF : Cal P w K mg base 3 "are_fractions" (spAreF K)) (AB : Cal P w K mg base 1 "are_above" (spAbove K)) :
    FnOk P w K mg base CX0 4 f fd ["thing"] (spIsLad K) := by
  refine F.ok scIsLad (fun vs H Q E h => ?_) (fun cdv A outer s H vs Q E hr h => ?_)
  · obtain ⟨v, d, rfl, _⟩ := h
    rfl
  · obtain ⟨v, d, rfl, hd, kk⟩ := h
    obtain ⟨t4, m4⟩ := M.m4
    obtain ⟨t5, m5⟩ := M.m5
    obtain ⟨z, mz, sz⟩ := Z.ex
    refine ⟨_, pss_cons (ps_if (PW.pt (pw_or (pt_not (pt_val (pe_callB call_isi (by rfl) T.isinstance (by decide +kernel) (pa_cons (pv 0) (pa_cons (pe_bltn (v := .ty "tuple") (by rfl) T.tuple (by decide +kernel) rfl) pa_nil)))))
        (pw_or (pt_cmpR op_ne (pe_callB call_len_seq (by rfl) T.len (by decide +kernel) (pa_cons (pv 0) pa_nil)) pe_int (nomark _))
          (pw_or1 (pt_not (pt_val (pe_n PO hr (by decide) (by rfl) (pa_cons (pe_ix ix_tup (pv 0) pe_int (fun _ _ => rfl)) pa_nil)))))))) (pss_one (ps_ret pe_bl)) pss_nil)
      (pss_cons (ps_if (PW.pt (pw_or (pt_not (pt_val (pe_n AF hr (by decide) (by rfl) (pa_cons (pe_ix ix_tup (pv 0) pe_int (fun _ _ => rfl)) (pa_cons (pe_glob (v := .int 5) (by rfl) m5 ⟨t5, rfl⟩) pa_nil)))))
          (pw_or1 (pt_not (pt_val (pe_n AF hr (by decide) (by rfl) (pa_cons (pe_ix ix_tup (pv 0) pe_int (fun _ _ => rfl)) (pa_cons (pe_glob (v := .int 5) (by rfl) m5 ⟨t5, rfl⟩) pa_nil)))))))) (pss_one (ps_ret pe_bl)) pss_nil)
      (pss_cons (ps_asg (pe_slice sl_tupA (pv 0) (po_some pe_int) po_none) (pg_tup rfl (pgs_cons (pg_name (i := 1) scIsLad.nd rfl (.inl rfl)) (pgs_cons (pg_name (i := 2) scIsLad.nd rfl (.inl rfl)) pgs_nil))))
      (C8.pss_cut (ps_if (PW.pt (pw_and (pt_truth (pv 2) (by intro _; rfl)) (pw_and1 (pt_cmpR (op_eqD hr.units) (pe_ix ix_tup (pv 2) (pe_un un_neg pe_int) (fun _ _ => rfl)) (pe_glob (v := .ref z) (by rfl) mz rfl) (nomark _)))))
          (pss_one (ps_ret (pe_and (pe_cmpR op_eq (pe_callB call_len_seq (by rfl) T.len (by decide +kernel) (pa_cons (pv 1) pa_nil)) (pe_callB call_len_seq (by rfl) T.len (by decide +kernel) (pa_cons (pv 2) pa_nil)) (nomark _))
            (pe_one (pe_n AB hr (by decide) (by rfl) (pa_cons (pe_slice sl_tupA (pv 2) po_none (po_some (pe_un un_neg pe_int))) pa_nil)))))) pss_nil)
      (pss_one (ps_ret (pe_and (pe_cmpR op_le (pe_callB call_len_seq (by rfl) T.len (by decide +kernel) (pa_cons (pv 1) pa_nil)) (pe_glob (v := .int 4) (by rfl) m4 ⟨t4, rfl⟩) (nomark _))
        (pe_and (pe_cmpR op_in_seq (pe_op op_sub (pe_callB call_len_seq (by rfl) T.len (by decide +kernel) (pa_cons (pv 1) pa_nil)) (pe_callB call_len_seq (by rfl) T.len (by decide +kernel) (pa_cons (pv 2) pa_nil))) (pe_tup (pa_cons pe_int (pa_cons pe_int pa_nil))) (by rfl))
          (pe_one (pe_n AB hr (by decide) (by rfl) (pa_cons (pv 2) pa_nil)))))))))), ?_⟩
    have ks := fun (e : ladderD d = false) => by
      have := kk
      rw [e] at this
      exact this
    refine ⟨v, rfl, v, _, _, _, _, rfl, .ty _, hd.ty, kitT K d, _, rfl, ?_⟩
    cases ht : isTup d with
    | false =>
      have e : ladderD d = false := by cases d <;> first | rfl | cases ht
      exact iteT (iteT (ks e H (fun _ _ z => z)))
    | true =>
      refine iteF ?_
      cases hd with
      | tup hS hA =>
        rename_i a xs ds
        have l := dpAll_len hA
        refine ⟨_, rfl, a, _, rfl, .inr hS, rfl, _, rfl, ?_⟩
        refine ite2 (fun c => ?_) (fun c => ?_)
        · refine iteT (ks (ladderD_len fun z => ?_) H (fun _ _ z => z))
          rw [← l] at z
          simp [z] at c
        · have l3 : xs.length = 3 := by
            have c2 : ((xs.length : Nat) : Int) = 3 := by simpa using c
            omega
          obtain ⟨v1, v2, v3, d1, d2, d3, rfl, rfl, h1, h2, h3⟩ := three_of hA l3
          refine ⟨_, rfl, a, _, 0, _, rfl, rfl, hS, rfl, v1, d1, rfl, h1, _, rfl, ?_⟩
          have kk' : ∀ H', Same H H' → Q (.bl (posD d1 && (fracsD 5 d2 && (fracsD 5 d3 && shapeD d2 d3)))) H' := kk
          cases e1 : posD d1 with
          | false =>
            rw [e1] at kk'
            exact iteT (kk' H (fun _ _ z => z))
          | true =>
            rw [e1] at kk'
            refine iteF ?_
            refine ⟨_, rfl, a, _, 1, _, rfl, rfl, hS, rfl, v2, d2, 5, rfl, h2, by decide, fun H1 s1 => ⟨_, rfl, ?_⟩⟩
            cases e2 : fracsD 5 d2 with
            | false =>
              rw [e2] at kk'
              exact iteT (iteT (kk' H1 s1))
            | true =>
              rw [e2] at kk'
              refine iteF ?_
              refine ⟨_, rfl, a, _, 2, _, rfl, rfl, Bs.Same.t s1 hS, rfl, v3, d3, 5, rfl, dps s1 h3, by decide, fun H2 s2 => ⟨_, rfl, ?_⟩⟩
              have s12 := s1.trans s2
              cases e3 : fracsD 5 d3 with
              | false =>
                rw [e3] at kk'
                exact iteT (kk' H2 s12)
              | true =>
                rw [e3] at kk'
                refine iteF ?_
                obtain ⟨qs, rfl, oq, lq⟩ := fracsD_true e2
                obtain ⟨rs, rfl, or_, lr⟩ := fracsD_true e3
                have kk2 : ∀ H', Same H H' → Q (.bl (shapeD (dP qs) (dP rs))) H' := kk'
                refine ⟨_, rfl, 1, rfl, a, _, rfl, Bs.Same.t s12 hS, (fun z => absurd z.1 (show ¬ (1 : Nat) = 0 by decide)), fun _ p hp => ?_⟩
                have s3 := same_new (o := .tup (cutV [v1, v2, v3] (some 1) none)) hp
                have s13 := s12.trans s3
                refine ⟨p, [v2, v3], rfl, SqT.of upd_same, rfl, v2, [v3], rfl, v3, [], rfl, rfl, ?_⟩
                obtain ⟨b2, xs, rfl, sx, fx⟩ := (dp_po h2).mono s13
                obtain ⟨b3, ys, rfl, sy, fy⟩ := (dp_po h3).mono s13
                have lx := fx.len
                have ly := fy.len
                generalize upd H2 p (.tup (cutV [v1, V.ref b2, V.ref b3] (some 1) none)) = H3 at *
                have kk3 : ∀ H', Same H3 H' → Q (.bl (shapeD (dP qs) (dP rs))) H' := fun H' s => kk2 H' (s13.trans s)
                clear kk kk' kk2 ks
                refine ⟨fun σ H' => Pn rs ∧ H' = H3 ∧ σ = [some (V.ref a), some (V.ref b2), some (V.ref b3)], ?_, ?_⟩
                · refine ⟨_, rfl, !ys.isEmpty, .inr (.inl ⟨ys, sy, rfl⟩), ?_⟩
                  by_cases ne : rs = []
                  · subst ne
                    cases fy
                    exact iteF ⟨.inl rfl, rfl, rfl⟩
                  · have yn : ys ≠ [] := fun z => ne (List.eq_nil_of_length_eq_zero (by rw [← ly, z]; rfl))
                    have et : (!ys.isEmpty) = true := by
                      cases ys with
                      | nil => exact absurd rfl yn
                      | cons _ _ => rfl
                    rw [et]
                    refine iteT ?_
                    have rp := List.length_pos_iff.mpr ne
                    obtain ⟨u, q, g1, g2, g3⟩ := fy.get (i := rs.length - 1) (by omega)
                    have eq_ : co rs (rs.length - 1) = q := co_get g2
                    rw [← ly] at g1
                    refine ⟨_, rfl, _, rfl, b3, ys, _, u, rfl, rfl, sy, atI_neg1 yn g1, dF q, dF (0, 1), g3.dp, .tup (sz H3) (.cons (.int 0) (.cons (.int 1) .nil)), rfl, rfl, _, rfl, ?_⟩
                    rw [eqv_nought]
                    refine ite2 (fun c => ?_) (fun c => ?_)
                    · have c1 : q = (0, 1) := of_decide_eq_true c
                      rw [shape_end ne (eq_.trans c1)] at kk3
                      refine ⟨_, rfl, b2, xs, rfl, .inr sx, _, rfl, b3, ys, rfl, .inr sy, rfl, _, rfl, ?_⟩
                      have el : decide (V.int (xs.length : Int) = V.int (ys.length : Int)) = decide (qs.length = rs.length) := by
                        rw [lx, ly]
                        exact decide_eq_decide.mpr ⟨fun h => by have := V.int.inj h; omega, fun h => by rw [h]⟩
                      rw [el]
                      refine ite2 (fun c2 => ?_) (fun c2 => ?_)
                      · obtain ⟨ci1, ci2⟩ := cut_init yn
                        refine ⟨_, rfl, _, rfl, -1, rfl, b3, ys, rfl, sy, (fun z => absurd z ci2), fun _ p2 hp2 => ?_⟩
                        rw [ci1]
                        have s4 := same_new (o := .tup (ys.take (ys.length - 1))) hp2
                        refine ⟨_, rs.take (rs.length - 1), rfl, ⟨p2, _, rfl, SqT.of upd_same, ?_⟩, by rw [List.length_take]; omega, fun H5 s5 => ?_⟩
                        · have := (fy.take (ys.length - 1)).mono s4
                          rw [ly] at this ⊢
                          exact this
                        · have := kk3 H5 (s4.trans s5)
                          rw [c2, Bool.true_and] at this
                          exact this
                      · have := kk3 H3 (fun _ _ z => z)
                        rw [Bool.eq_false_iff.mpr c2, Bool.false_and] at this
                        exact this
                    · have c1 : ¬ q = (0, 1) := fun w => c (decide_eq_true w)
                      exact ⟨.inr (by rw [eq_]; exact c1), rfl, rfl⟩
                · rintro σ H' ⟨pn, rfl, rfl⟩
                  rw [shape_open pn] at kk3
                  refine ⟨_, rfl, b2, xs, rfl, .inr sx, _, _, rfl, rfl, _, rfl, ?_⟩
                  have el : decide ((xs.length : Int) ≤ 4) = decide (qs.length ≤ 4) := by
                    rw [lx]
                    exact decide_eq_decide.mpr (by omega)
                  rw [el]
                  refine ite2 (fun c2 => ?_) (fun c2 => ?_)
                  · rw [c2, Bool.true_and] at kk3
                    refine ⟨_, rfl, b2, xs, rfl, .inr sx, _, rfl, b3, ys, rfl, .inr sy, _, _, rfl, rfl, (by show 2 ≤ sizeLine; decide), fun p2 hp2 => ⟨p2, _, rfl, .inr (SqT.of upd_same), rfl, rfl, _, rfl, ?_⟩⟩
                    have s4 := same_new (o := .tup [V.int 0, V.int 1]) hp2
                    have ei : inV (V.int ((xs.length : Int) - (ys.length : Int))) [V.int 0, V.int 1] = (decide (qs.length = rs.length) || decide (qs.length = rs.length + 1)) := by
                      rw [lx, ly]
                      show ((0 == ((qs.length : Int) - (rs.length : Int))) || ((1 == ((qs.length : Int) - (rs.length : Int))) || false)) = _
                      rw [Bool.or_false]
                      congr 1
                      · rw [Bool.eq_iff_iff, beq_iff_eq, decide_eq_true_eq]
                        omega
                      · rw [Bool.eq_iff_iff, beq_iff_eq, decide_eq_true_eq]
                        omega
                    refine if_in ei (fun c3 => ?_) (fun c3 => ?_)
                    · refine ⟨_, rfl, _, rs, rfl, ⟨b3, ys, rfl, Bs.Same.t s4 sy, fy.mono s4⟩, by omega, fun H5 s5 => ?_⟩
                      have := kk3 H5 (s4.trans s5)
                      rw [c3, Bool.true_and] at this
                      exact this
                    · have := kk3 _ s4
                      rw [c3, Bool.false_and] at this
                      exact this
                  · have := kk3 _ (fun _ _ z => z)
                    rw [Bool.eq_false_iff.mpr c2, Bool.false_and] at this
                    exact this
      | _ => cases ht
end
end Rs


set_option Elab.async false
set_option linter.all false
set_option maxRecDepth 100000
set_option maxHeartbeats 1000000
namespace Rs
open PySem L2 Bs Fq LamX RZ
theorem walk_zipT {K : PySem.W.Frag} {a b : Addr} {xs ys : List V} {n : Nat} (hn : n = min xs.length ys.length) : Walk (ItzT K a b) n (fun H => SqT K H a xs ∧ SqT K H b ys) (YPair (fun i => xs[i]?) (fun i => ys[i]?)) := by
  rw [hn]
  refine ⟨fun i _ hi q => ?_, fun _ q => ⟨xs, ys, q.1, q.2, by omega⟩, fun i H v H' _ q y => ?_⟩
  · have h1 : i < xs.length := by omega
    have h2 : i < ys.length := by omega
    exact ⟨xs, ys, xs[i], ys[i], q.1, q.2, List.getElem?_eq_getElem h1, List.getElem?_eq_getElem h2⟩
  · obtain ⟨T, x, z, e1, e2, e3, e4, e5⟩ := y
    exact ⟨T, x, z, e1, e2, e3, e4 xs q.1, e5 ys q.2⟩
/-! ### ladders in memory -/
def dL (T : F) (ls ss : List F) : PyData := .tuple [dF T, dP ls, dP ss]
def Lad (K : PySem.W.Frag) (H : Hp) (v : V) (T : F) (ls ss : List F) : Prop := ∃ a v1 v2 v3, v = .ref a ∧ SqT K H a [v1, v2, v3] ∧ Fr K H v1 T ∧ Po K H v2 ls ∧ Po K H v3 ss
theorem Lad.mono {K : PySem.W.Frag} {H H' : Hp} {v : V} {T : F} {ls ss : List F} (e : Same H H') (h : Lad K H v T ls ss) : Lad K H' v T ls ss := by
  obtain ⟨a, v1, v2, v3, rfl, s, f, p, q⟩ := h
  exact ⟨a, v1, v2, v3, rfl, Bs.Same.t e s, f.mono e, p.mono e, q.mono e⟩
theorem Lad.dp {K : PySem.W.Frag} {H : Hp} {v : V} {T : F} {ls ss : List F} (h : Lad K H v T ls ss) : Dp K H v (dL T ls ss) := by
  obtain ⟨a, v1, v2, v3, rfl, s, f, p, q⟩ := h
  exact .tup s (.cons f.dp (.cons p.dp (.cons q.dp .nil)))
theorem lad_of {K : PySem.W.Frag} {H : Hp} {v : V} {T : F} {ls ss : List F} (h : Dp K H v (dL T ls ss)) : Lad K H v T ls ss := by
  cases h with
  | tup s a =>
    cases a with
    | cons h1 t1 =>
      cases t1 with
      | cons h2 t2 =>
        cases t2 with
        | cons h3 t3 =>
          cases t3
          exact ⟨_, _, _, _, rfl, s, dp_fr h1, dp_po h2, dp_po h3⟩
theorem ladderD_true {d : PyData} (h : ladderD d = true) : ∃ T ls ss, d = dL T ls ss ∧ ls.length ≤ 5 ∧ ss.length ≤ 5 ∧ ls.length ≤ ss.length + 1 ∧ ss.length ≤ ls.length := by
  unfold ladderD at h
  split at h
  · rename_i t dl ds
    rw [Bool.and_eq_true, Bool.and_eq_true, Bool.and_eq_true, posD, Bool.and_eq_true] at h
    obtain ⟨⟨h1, _⟩, h2, h3, h4⟩ := h
    obtain ⟨T, rfl, _⟩ := fracD_true h1
    obtain ⟨ls, rfl, _, l1⟩ := fracsD_true h2
    obtain ⟨ss, rfl, _, l2⟩ := fracsD_true h3
    refine ⟨T, ls, ss, rfl, by omega, by omega, ?_⟩
    by_cases c : Pn ss
    · rw [shape_open c] at h4
      simp only [Bool.and_eq_true, Bool.or_eq_true, decide_eq_true_eq] at h4
      omega
    · have n : ss ≠ [] := fun z => c (.inl z)
      have e : co ss (ss.length - 1) = (0, 1) := Classical.byContradiction fun z => c (.inr z)
      rw [shape_end n e] at h4
      simp only [Bool.and_eq_true, decide_eq_true_eq] at h4
      omega
  · cases h
/-- it ends: its last step is nought -/
def endB (ss : List F) : Bool := decide (¬ Pn ss)
/-- polynomials in memory -/
inductive PoAll (K : PySem.W.Frag) (H : Hp) : List V → List (List F) → Prop
  | nil : PoAll K H [] []
  | cons {v : V} {vs : List V} {q : List F} {qs : List (List F)} : Po K H v q → PoAll K H vs qs → PoAll K H (v :: vs) (q :: qs)
theorem PoAll.mono {K : PySem.W.Frag} {H H' : Hp} (e : Same H H') : ∀ {vs : List V} {qs : List (List F)}, PoAll K H vs qs → PoAll K H' vs qs
  | _, _, .nil => .nil
  | _, _, .cons a b => .cons (a.mono e) (PoAll.mono e b)
theorem PoAll.len {K : PySem.W.Frag} {H : Hp} : ∀ {vs : List V} {qs : List (List F)}, PoAll K H vs qs → vs.length = qs.length
  | _, _, .nil => rfl
  | _, _, .cons _ b => congrArg (· + 1) (PoAll.len b)
theorem PoAll.snoc {K : PySem.W.Frag} {H : Hp} : ∀ {vs : List V} {qs : List (List F)} {v : V} {q : List F}, PoAll K H vs qs → Po K H v q → PoAll K H (vs ++ [v]) (qs ++ [q])
  | _, _, _, _, .nil, h => .cons h .nil
  | _, _, _, _, .cons a b, h => .cons a (PoAll.snoc b h)
theorem PoAll.dp {K : PySem.W.Frag} {H : Hp} : ∀ {vs : List V} {qs : List (List F)}, PoAll K H vs qs → DpAll K H vs (qs.map dP)
  | _, _, .nil => .nil
  | _, _, .cons a b => .cons a.dp (PoAll.dp b)
theorem sqT_off {K : PySem.W.Frag} {H : Hp} {a D : Addr} {xs acc : List V} {o : HO} (hD : H D = some (.lst acc)) (s : SqT K H a xs) : SqT K (upd H D o) a xs := by
  rcases s with (s | ⟨o', s⟩) | s
  · exact .inl (.inl ((upd_ne (ne_of s hD (by intro z; cases z))).trans s))
  · exact .inl (.inr ⟨o', (upd_ne (ne_of s hD (by intro z; cases z))).trans s⟩)
  · exact .inr s
theorem Po.off {K : PySem.W.Frag} {H : Hp} {v : V} {qs : List F} {D : Addr} {acc : List V} {o : HO} (hD : H D = some (.lst acc)) (h : Po K H v qs) : Po K (upd H D o) v qs := by
  obtain ⟨a, xs, rfl, s, f⟩ := h
  exact ⟨a, xs, rfl, sqT_off hD s, f.off hD⟩
theorem PoAll.off {K : PySem.W.Frag} {H : Hp} {D : Addr} {acc : List V} {o : HO} (hD : H D = some (.lst acc)) : ∀ {vs : List V} {qs : List (List F)}, PoAll K H vs qs → PoAll K (upd H D o) vs qs
  | _, _, .nil => .nil
  | _, _, .cons a b => .cons (a.off hD) (PoAll.off hD b)
/-- a tuple of polynomials -/
def Pt (K : PySem.W.Frag) (H : Hp) (v : V) (qs : List (List F)) : Prop := ∃ a xs, v = .ref a ∧ SqT K H a xs ∧ PoAll K H xs qs
/-- a ladder's rungs -/
def rungs (ls ss : List F) : List (List F) := (List.range (ls.length + 1)).map (ruled ls ss)
structure OneG (K : PySem.W.Frag) (mg : Str → Option Value) : Prop where
  ex : ∃ a : Addr, mg "ONE" = some (.ref a) ∧ ∀ H : Hp, SqT K H a [.int 1, .int 1]
abbrev sHasEnd : Stmt := top 25
def spHasEnd (K : PySem.W.Frag) : Sp := fun vs H Q _ => ∃ (v : V) (T : F) (ls ss : List F), vs = [v] ∧ Lad K H v T ls ss ∧ Q (.bl (endB ss)) H
/-- a ladder wanted; R: what is made of it -/
def spLad (K : PySem.W.Frag) (C : Addr) (R : V → F → List F → List F → Hp → VK → XK → Prop) : Sp := fun vs H Q E => ∃ (v : V) (d : PyData), vs = [v] ∧ Dp K H v d ∧ (ladderD d = false → ∀ H', Same H H' → OutW E C "given" v H') ∧
  (∀ T ls ss, d = dL T ls ss → ladderD d = true → R v T ls ss H Q E)
def rEnded : V → F → List F → List F → Hp → VK → XK → Prop := fun _ _ _ ss H Q _ => ∀ H', Same H H' → Q (.bl (endB ss)) H'
def spClimb (K : PySem.W.Frag) : Sp := fun vs H Q _ => ∃ (x y u v : V) (ls ss : List F), vs = [x, y, u, v] ∧ Po K H x [] ∧ Po K H y [(1, 1)] ∧ Po K H u ls ∧ Po K H v ((0, 1) :: ss) ∧ Za 1 ls ∧ Za 1 ss ∧ ls.length ≤ 5 ∧ ls.length ≤ ss.length + 1 ∧
  ∀ H' v, Same H H' → Pt K H' v (rungs ls ss) → Q v H'
def spRungsOf (K : PySem.W.Frag) : Sp := fun vs H Q _ => ∃ (v : V) (T : F) (ls ss : List F), vs = [v] ∧ Lad K H v T ls ss ∧ Za 1 ls ∧ Za 1 ss ∧ ls.length ≤ 5 ∧ ss.length ≤ 5 ∧ ls.length ≤ ss.length + 1 ∧
  ∀ H' v, Same H H' → Pt K H' v (rungs ls ss) → Q v H'
def rRungs (K : PySem.W.Frag) : V → F → List F → List F → Hp → VK → XK → Prop := fun _ _ ls ss H Q _ => Za 1 ls ∧ Za 1 ss ∧ ∀ H' v, Same H H' → Pt K H' v (rungs ls ss) → Q v H'
/-- the norms -/
def nrms (T : F) (ss : List F) : List F := (List.range (ss.length + 1)).map (nrm T ss)
def rNorms (K : PySem.W.Frag) : V → F → List F → List F → Hp → VK → XK → Prop := fun _ T _ ss H Q _ => Zs 1 T ∧ Za 1 ss ∧ ∀ H' v, Same H H' → Po K H' v (nrms T ss) → Q v H'
section
variable {P : Program} {w : World} {K : PySem.W.Frag} {mg : Str → Option Value} {base : Heap} {f : Addr} {fd : FuncData} {CL : Addr}
theorem scNeedLad : FnScope ["thing"] ["thing"] (defScope sNeedLad) := ⟨rfl, rfl, rfl, by decide +kernel, rfl, by decide +kernel, by decide +kernel⟩
theorem ok_needLad (F : Fun K "need_ladder" "need_ladder" sNeedLad f fd) (T : ErrOkW P w K mg base "BadLadder" "given" CL) (W : Cal P w K mg base 4 "is_ladder" (spIsLad K)) : FnOk P w K mg base (L2.CX P w) 5 f fd ["thing"] (spNeedLad K CL) := by
  refine F.okX scNeedLad (fun vs H Q E h => ?_) (fun cdv A outer s H vs Q E hr h => ?_)
  · obtain ⟨v, d, rfl, _⟩ := h
    rfl
  · obtain ⟨v, d, rfl, hd, k1, k2⟩ := h
    refine ⟨_, pss_cons (ps_if (pt_not (pt_val (pe_n W hr (by decide) (by rfl) (pa_cons (pv 0) pa_nil)))) (pss_one (ps_rzW rfl T hr (by decide) (takes_of rfl rfl rfl rfl) (pv 0) (by rfl))) pss_nil) (pss_one (ps_ret (pv 0))), ?_⟩
    refine ⟨_, rfl, v, d, rfl, hd, fun H' s => ⟨_, rfl, ?_⟩⟩
    cases e : ladderD d with
    | true => exact iteF ⟨_, rfl, k1 e H' s⟩
    | false => exact iteT ⟨_, rfl, k2 e H' s⟩
theorem scHasEnd : FnScope ["ladder", "steps"] ["ladder"] (defScope sHasEnd) := ⟨rfl, rfl, rfl, by decide +kernel, rfl, by decide +kernel, by decide +kernel⟩
theorem ok_hasEnd (F : Fun K "has_end" "has_end" sHasEnd f fd) (T : Blt mg) (Z : Nou K mg) : FnOk P w K mg base CX0 1 f fd ["ladder"] (spHasEnd K) := by
  refine F.ok scHasEnd (fun vs H Q E h => ?_) (fun cdv A outer s H vs Q E hr h => ?_)
  · obtain ⟨v, T0, ls, ss, rfl, _⟩ := h
    rfl
  · obtain ⟨v, T0, ls, ss, rfl, ⟨a, v1, v2, v3, rfl, sq, _, _, b, ys, rfl, sy, fy⟩, kk⟩ := h
    obtain ⟨z, mz, sz⟩ := Z.ex
    have ly := fy.len
    refine ⟨_, pss_cons (ps_set (i := 1) scHasEnd.nd rfl (Or.inl rfl) (pe_ix ix_tup (pv 0) pe_int (fun _ _ => rfl)))
      (pss_one (ps_ret (pe_and (pe_cmpR op_gt (pe_callB call_len_seq (by rfl) T.len (by decide +kernel) (pa_cons (pv 1) pa_nil)) pe_int (nomark _))
        (pe_one (pe_cmpR (op_eqD hr.units) (pe_ix ix_tup (pv 1) (pe_un un_neg pe_int) (fun _ _ => rfl)) (pe_glob (v := .ref z) (by rfl) mz rfl) (nomark _)))))), ?_⟩
    refine ⟨_, rfl, a, _, 2, _, rfl, rfl, sq, rfl, ?_⟩
    refine ⟨_, rfl, b, ys, rfl, .inr sy, _, _, rfl, rfl, _, rfl, ?_⟩
    by_cases ne : ss = []
    · subst ne
      cases fy
      exact iteF kk
    · have yn : ys ≠ [] := fun z => ne (List.eq_nil_of_length_eq_zero (by rw [← ly, z]; rfl))
      have yp := List.length_pos_iff.mpr yn
      obtain ⟨u, q, g1, g2, g3⟩ := fy.get (i := ss.length - 1) (by omega)
      have eq_ : co ss (ss.length - 1) = q := co_get g2
      rw [← ly] at g1
      refine ite2 (fun c => ?_) (fun c => absurd (decide_eq_true (by omega)) c)
      refine ⟨_, rfl, _, rfl, b, ys, _, u, rfl, rfl, sy, atI_neg1 yn g1, dF q, dF (0, 1), g3.dp, .tup (sz H) (.cons (.int 0) (.cons (.int 1) .nil)), rfl, rfl, ?_⟩
      rw [eqv_nought]
      have e : endB ss = decide (q = (0, 1)) := by
        unfold endB
        refine decide_eq_decide.mpr ⟨fun h => ?_, fun h n => ?_⟩
        · exact Classical.byContradiction fun z => h (.inr (by rw [eq_]; exact z))
        · rcases n with n | n
          · exact ne n
          · exact n (eq_.trans h)
      rw [e] at kk
      exact kk
abbrev NCl : List Str := ["before", "here", "levels", "steps", "polys", "level", "step"]
end
end Rs


set_option linter.all false
set_option maxRecDepth 100000
set_option maxHeartbeats 400000
/-! ways: the mathematics -/
namespace Rs
open Fq
abbrev Wy := List Int × Int
def absI (x : Int) : Int := if x < 0 then -x else x
def fit (l e h s : Int) : Bool := decide (h + s ≥ 0) && decide (absI (h + s - e) ≤ l)
def ext (l e : Int) (r : Wy) : List Wy := ([-1, 0, 1].filter fun s => fit l e r.2 s).map fun s => (r.1 ++ [s], r.2 + s)
def grow (l e : Int) (rs : List Wy) : List Wy := rs.flatMap (ext l e)
/-- after k of m steps -/
def grown (b e : Int) (m : Nat) : Nat → List Wy
  | 0 => [([], b)]
  | k + 1 => grow ((m : Int) - 1 - k) e (grown b e m k)
def ends (e : Int) (rs : List Wy) : List (List Int) := (rs.filter fun r => decide (r.2 = e)).map (·.1)
def ways (b e : Int) (m : Nat) : List (List Int) := ends e (grown b e m m)
/-- heights -/
def hts (b : Int) : List Int → List Int
  | [] => [b]
  | s :: w => b :: hts (b + s) w
def hgt (b : Int) (w : List Int) : Int := b + w.sum
def tri (w : List Int) : Prop := ∀ s ∈ w, s = -1 ∨ s = 0 ∨ s = 1
def up (b : Int) (w : List Int) : Prop := ∀ h ∈ hts b w, 0 ≤ h
theorem hts_len (b : Int) (w : List Int) : (hts b w).length = w.length + 1 := by
  induction w generalizing b with
  | nil => rfl
  | cons s w ih =>
    show (hts (b + s) w).length + 1 = w.length + 1 + 1
    rw [ih]
theorem hts_snoc (b s : Int) (w : List Int) : hts b (w ++ [s]) = hts b w ++ [hgt b w + s] := by
  induction w generalizing b with
  | nil =>
    show [b, b + s] = [b] ++ [b + 0 + s]
    rw [Int.add_zero]
    rfl
  | cons t w ih =>
    show b :: hts (b + t) (w ++ [s]) = (b :: hts (b + t) w) ++ [b + (t + w.sum) + s]
    rw [ih, show hgt (b + t) w = b + (t + w.sum) from by unfold hgt; omega]
    rfl
theorem hts_get (b : Int) (w : List Int) : ∀ i, i ≤ w.length → (hts b w)[i]? = some (hgt b (w.take i)) := by
  induction w generalizing b with
  | nil =>
    intro i h
    have : i = 0 := by simpa using h
    subst this
    show some b = some (b + 0)
    rw [Int.add_zero]
  | cons s w ih =>
    intro i h
    cases i with
    | zero =>
      show some b = some (b + 0)
      rw [Int.add_zero]
    | succ i =>
      show (hts (b + s) w)[i]? = some (b + (s + (w.take i).sum))
      rw [ih _ i (by simpa using h)]
      congr 1
      unfold hgt
      omega
theorem hts_last (b : Int) (w : List Int) : (hts b w)[(hts b w).length - 1]? = some (hgt b w) := by
  rw [hts_len, Nat.add_sub_cancel, hts_get b w _ (Nat.le_refl _), List.take_length]
theorem hts_take (b : Int) (w : List Int) (i : Nat) (h : i ≤ w.length) : hts b (w.take i) = (hts b w).take (i + 1) := by
  induction w generalizing b i with
  | nil =>
    have : i = 0 := by simpa using h
    subst this
    rfl
  | cons s w ih =>
    cases i with
    | zero => rfl
    | succ i =>
      show b :: hts (b + s) (w.take i) = b :: (hts (b + s) w).take (i + 1)
      rw [ih _ _ (by simpa using h)]
theorem hts_head (b : Int) (w : List Int) : b ∈ hts b w := by cases w <;> exact List.mem_cons_self
theorem up_hgt {b : Int} {w : List Int} (h : up b w) {i : Nat} (hi : i ≤ w.length) : 0 ≤ hgt b (w.take i) := h _ (List.mem_of_getElem? (hts_get b w i hi))
/-- what each row is -/
structure Gr (b : Int) (k : Nat) (r : Wy) : Prop where
  n : r.1.length = k
  t : tri r.1
  u : up b r.1
  h : r.2 = hgt b r.1
theorem ext_mem {l e : Int} {r q : Wy} (h : q ∈ ext l e r) : ∃ s : Int, (s = -1 ∨ s = 0 ∨ s = 1) ∧ r.2 + s ≥ 0 ∧ q = (r.1 ++ [s], r.2 + s) := by
  obtain ⟨s, hs, rfl⟩ := List.mem_map.mp h
  obtain ⟨h1, h2⟩ := List.mem_filter.mp hs
  refine ⟨s, by simpa using h1, ?_, rfl⟩
  unfold fit at h2
  rw [Bool.and_eq_true] at h2
  exact of_decide_eq_true h2.1
theorem Gr.ext {b l e : Int} {k : Nat} {r q : Wy} (g : Gr b k r) (h : q ∈ ext l e r) : Gr b (k + 1) q := by
  obtain ⟨s, hs, h0, rfl⟩ := ext_mem h
  refine ⟨?_, ?_, ?_, ?_⟩
  · rw [List.length_append, g.n]
    rfl
  · intro t ht
    rcases List.mem_append.mp ht with ht | ht
    · exact g.t t ht
    · rw [List.mem_singleton.mp ht]
      exact hs
  · intro x hx
    rw [hts_snoc] at hx
    rcases List.mem_append.mp hx with hx | hx
    · exact g.u x hx
    · rw [List.mem_singleton.mp hx, ← g.h]
      exact h0
  · show r.2 + s = b + (r.1 ++ [s]).sum
    rw [g.h, List.sum_append]
    unfold hgt
    simp
    omega
theorem grown_gr {b e : Int} (hb : 0 ≤ b) (m : Nat) : ∀ k, ∀ r ∈ grown b e m k, Gr b k r
  | 0, r, h => by
    rw [List.mem_singleton.mp h]
    refine ⟨rfl, fun s hs => (by cases hs), fun x hx => ?_, ?_⟩
    · rw [List.mem_singleton.mp hx]
      exact hb
    · show b = b + 0
      rw [Int.add_zero]
  | k + 1, r, h => by
    obtain ⟨q, hq, hr⟩ := List.mem_flatMap.mp h
    exact (grown_gr hb m k q hq).ext hr
theorem ext_len (l e : Int) (r : Wy) : (ext l e r).length ≤ 3 := by
  unfold ext
  rw [List.length_map]
  exact List.length_filter_le _ _
theorem grow_len (l e : Int) (rs : List Wy) : (grow l e rs).length ≤ 3 * rs.length := by
  induction rs with
  | nil => exact Nat.le_refl _
  | cons r rs ih =>
    show (ext l e r ++ grow l e rs).length ≤ _
    have := ext_len l e r
    rw [List.length_append, List.length_cons]
    omega
theorem grown_len (b e : Int) (m : Nat) : ∀ k, (grown b e m k).length ≤ 3 ^ k
  | 0 => Nat.le_refl _
  | k + 1 => by
    have := grow_len ((m : Int) - 1 - k) e (grown b e m k)
    have := grown_len b e m k
    show (grow _ e (grown b e m k)).length ≤ 3 ^ k * 3
    omega
theorem ways_len (b e : Int) (m : Nat) : (ways b e m).length ≤ 3 ^ m := by
  refine Nat.le_trans ?_ (grown_len b e m m)
  unfold ways ends
  rw [List.length_map]
  exact List.length_filter_le _ _
/-- a way of m steps from b -/
structure Way (b : Int) (w : List Int) : Prop where
  t : tri w
  u : up b w
theorem ways_way {b e : Int} (hb : 0 ≤ b) (m : Nat) : ∀ w ∈ ways b e m, Way b w ∧ w.length = m := by
  intro w h
  obtain ⟨r, hr, rfl⟩ := List.mem_map.mp h
  have g := grown_gr hb m m r (List.mem_filter.mp hr).1
  exact ⟨⟨g.t, g.u⟩, g.n⟩
/-! ### worths -/
def mst (ls ss : List F) (q : F) (h s : Int) : F := if s = 0 ∧ h < ls.length then mul q (co ls h.toNat) else if s = -1 ∧ h ≤ ss.length then mul q (co ss (h - 1).toNat) else q
def lst (ls ss : List F) (h s : Int) : Bool := decide (¬ (s = 0 ∧ h < ls.length) ∧ ¬ (s = -1 ∧ h ≤ ss.length) ∧ s ≠ 1)
def fnd (ls ss : List F) (b : Int) (w : List Int) : Nat → F
  | 0 => (1, 1)
  | i + 1 => mst ls ss (fnd ls ss b w i) (hgt b (w.take i)) (w.getD i 0)
def lck (ls ss : List F) (b : Int) (w : List Int) : Nat → Bool
  | 0 => false
  | i + 1 => lck ls ss b w i || lst ls ss (hgt b (w.take i)) (w.getD i 0)
theorem lck_mono {ls ss : List F} {b : Int} {w : List Int} {i j : Nat} (h : lck ls ss b w i = true) (e : i ≤ j) : lck ls ss b w j = true := by
  induction j with
  | zero =>
    have : i = 0 := by omega
    subst this
    exact h
  | succ j ih =>
    by_cases c : i = j + 1
    · rw [← c]
      exact h
    · show (lck ls ss b w j || _) = true
      rw [ih (by omega), Bool.true_or]
theorem mst_zs {n : Nat} {ls ss : List F} (zl : Za 1 ls) (zs : Za 1 ss) {q : F} (h : Zs n q) (x s : Int) : Zs (n + 1) (mst ls ss q x s) := by
  unfold mst
  split
  · exact h.mul (zl.co _)
  · split
    · exact h.mul (zs.co _)
    · exact h.up
theorem fnd_zs {ls ss : List F} (zl : Za 1 ls) (zs : Za 1 ss) (b : Int) (w : List Int) : ∀ i, Zs i (fnd ls ss b w i)
  | 0 => Zs.one
  | i + 1 => mst_zs zl zs (fnd_zs zl zs b w i) _ _
def over (ls : List F) (b : Int) (w : List Int) : Prop := ∃ h ∈ hts b w, (ls.length : Int) ≤ h
instance (ls : List F) (b : Int) (w : List Int) : Decidable (over ls b w) := inferInstanceAs (Decidable (∃ h ∈ hts b w, _))
/-- the worth; E: the ladder is ended -/
def wv (E : Bool) (ls ss : List F) (b : Int) (w : List Int) : Option F := if E = true ∧ over ls b w then some (0, 1) else if lck ls ss b w w.length = true then none else some (fnd ls ss b w w.length)
theorem no_lack {ls ss : List F} {b : Int} {w : List Int} (e : ls.length = ss.length) (W : Way b w) (o : ¬ over ls b w) : ∀ i, i ≤ w.length → lck ls ss b w i = false
  | 0, _ => rfl
  | i + 1, h => by
    show (lck ls ss b w i || lst ls ss (hgt b (w.take i)) (w.getD i 0)) = false
    rw [no_lack e W o i (by omega), Bool.false_or]
    have hm : hgt b (w.take i) ∈ hts b w := List.mem_of_getElem? (hts_get b w i (by omega))
    have lt : hgt b (w.take i) < ls.length := Int.not_le.mp fun z => o ⟨_, hm, z⟩
    have ms : w.getD i 0 ∈ w := by
      rw [List.getD_eq_getElem?_getD, List.getElem?_eq_getElem (by omega)]
      exact List.getElem_mem _
    have := W.t _ ms
    unfold lst
    refine decide_eq_false ?_
    omega
end Rs


set_option Elab.async false
set_option linter.all false
set_option maxRecDepth 100000
set_option maxHeartbeats 1000000
/-! max(t), min(t) of a tuple of whole numbers -/
namespace MxT
open PySem PySem.Spec PyProof.Rows L2
section
variable {prog : Program} {w : World} {A : Around} {E : Value → Shared → Prop} {s : Shared} {l : Addr} {xs : Array (Int × Tok)} {Q : Value → Shared → Prop}
theorem low {hp : Heap} {b : Addr} {o : Obj} (e : hp.get? b = some o) : b ≠ hp.objs.size := Nat.ne_of_lt (Heap.lt_size e)
theorem kept {it : Obj} {h' : Heap} (hk : ∀ b o, b ∉ [s.heap.objs.size] → (s.heap.push it).get? b = some o → h'.get? b = some o) : ∀ b o, s.heap.get? b = some o → h'.get? b = some o := fun b o e =>
  hk b o (fun m => low e (List.mem_singleton.mp m)) (Heap.get?_push_of_some _ e)
theorem mx (hh : A.handled = none) (hl : s.heap.IsTuple l (intItems xs)) (hne : 0 < xs.size)
    (h : ∀ v h' tk, (intItems xs)[argBest (fun i j => decide (numAt xs i > numAt xs j)) (xs.size - 1)]? = some v → (∀ b o, s.heap.get? b = some o → h'.get? b = some o) → Q v { s with heap := h', toks := tk }) :
    wpAny (model prog w) A (call (.builtin "max") [.ref l]) Q E s := by
  have lt : l < s.heap.objs.size := by
    obtain ⟨_, e, _⟩ := hl
    exact Heap.lt_size e
  refine call_max_walk (wpAny_pyIter_tuple hl ?_)
  refine ⟨_, [_, l], [_], _, _, _, _, rfl, Walks.tuple (A := A.in1) hh _ l (Nat.ne_of_lt lt) (intItems xs), ⟨⟨_, Heap.get?_push_size _ rfl, rfl, rfl⟩, hl.push _⟩, fun c hc => ?_, by simpa [intItems] using hne, CmpOf.ints_gt (numAt xs) (fun _ _ => intItems_at), fun v h' tk hP hk => h v h' tk (by simpa [intItems] using hP) (kept hk)⟩
  show c < (s.heap.push _).objs.size
  rw [Heap.size_push]
  rcases List.mem_cons.mp hc with rfl | hc
  · exact Nat.lt_succ_self _
  · rw [List.mem_singleton.mp hc]
    exact Nat.lt_succ_of_lt lt
theorem mn (hh : A.handled = none) (hl : s.heap.IsTuple l (intItems xs)) (hne : 0 < xs.size)
    (h : ∀ v h' tk, (intItems xs)[argBest (fun i j => decide (numAt xs i < numAt xs j)) (xs.size - 1)]? = some v → (∀ b o, s.heap.get? b = some o → h'.get? b = some o) → Q v { s with heap := h', toks := tk }) :
    wpAny (model prog w) A (call (.builtin "min") [.ref l]) Q E s := by
  have lt : l < s.heap.objs.size := by
    obtain ⟨_, e, _⟩ := hl
    exact Heap.lt_size e
  refine call_min_walk (wpAny_pyIter_tuple hl ?_)
  refine ⟨_, [_, l], [_], _, _, _, _, rfl, Walks.tuple (A := A.in1) hh _ l (Nat.ne_of_lt lt) (intItems xs), ⟨⟨_, Heap.get?_push_size _ rfl, rfl, rfl⟩, hl.push _⟩, fun c hc => ?_, by simpa [intItems] using hne, CmpOf.ints_lt (numAt xs) (fun _ _ => intItems_at), fun v h' tk hP hk => h v h' tk (by simpa [intItems] using hP) (kept hk)⟩
  show c < (s.heap.push _).objs.size
  rw [Heap.size_push]
  rcases List.mem_cons.mp hc with rfl | hc
  · exact Nat.lt_succ_self _
  · rw [List.mem_singleton.mp hc]
    exact Nat.lt_succ_of_lt lt
end
section
variable {X : Cx}
def rMxT (K : PySem.W.Frag) : List V → Hp → VK → Prop := fun vs H Q => ∃ (a : Addr) (ns : List Int), vs = [V.ref a] ∧ SqT K H a (ns.map V.int) ∧ ns ≠ [] ∧ ∀ m, m ∈ ns → (∀ y ∈ ns, y ≤ m) → Q (.int m) H
def rMnT (K : PySem.W.Frag) : List V → Hp → VK → Prop := fun vs H Q => ∃ (a : Addr) (ns : List Int), vs = [V.ref a] ∧ SqT K H a (ns.map V.int) ∧ ns ≠ [] ∧ ∀ m, m ∈ ns → (∀ y ∈ ns, m ≤ y) → Q (.int m) H
theorem cr_mxT (hc : X.calm = true) : CallR X (.builtin "max") (rMxT X.K) := by
  rintro pins s σ H vs us Q I r ⟨a, ns, rfl, hs, hne, q⟩
  obtain ⟨us2, rv, hl, _⟩ := I.tuple hs
  rw [Vals.ref1 r]
  obtain ⟨xs, e⟩ := rv.ints.allInts.items
  have hn : numsOf (intItems xs).toList = ns := by rw [← e]; exact rv.ints.numsOf
  rw [nums_intItems] at hn; subst hn
  rw [e] at hl
  have hsz : 0 < xs.size := by
    have := List.length_pos_iff.mpr hne
    simpa using this
  refine mx (I.ok.hd hc) hl hsz fun v h' tk hv hk => ?_
  obtain ⟨tok, rfl⟩ := intItems_at hv
  obtain ⟨low1, best⟩ := argBest_gt (numAt xs) (xs.size - 1)
  refine ⟨.int _, H, I.kept hk, ⟨_, rfl⟩, q _ ?_ fun y hy => ?_⟩
  · rw [numAt_eq]
    refine PySem.getD_mem ?_
    simp only [List.length_map, Array.length_toList]; omega
  · obtain ⟨j, hj, rfl⟩ := mem_getD hy
    simp only [List.length_map, Array.length_toList] at hj
    rw [← numAt_eq]
    refine best j ?_
    omega
theorem cr_mnT (hc : X.calm = true) : CallR X (.builtin "min") (rMnT X.K) := by
  rintro pins s σ H vs us Q I r ⟨a, ns, rfl, hs, hne, q⟩
  obtain ⟨us2, rv, hl, _⟩ := I.tuple hs
  rw [Vals.ref1 r]
  obtain ⟨xs, e⟩ := rv.ints.allInts.items
  have hn : numsOf (intItems xs).toList = ns := by rw [← e]; exact rv.ints.numsOf
  rw [nums_intItems] at hn; subst hn
  rw [e] at hl
  have hsz : 0 < xs.size := by
    have := List.length_pos_iff.mpr hne
    simpa using this
  refine mn (I.ok.hd hc) hl hsz fun v h' tk hv hk => ?_
  obtain ⟨tok, rfl⟩ := intItems_at hv
  obtain ⟨low1, best⟩ := argBest_lt (numAt xs) (xs.size - 1)
  refine ⟨.int _, H, I.kept hk, ⟨_, rfl⟩, q _ ?_ fun y hy => ?_⟩
  · rw [numAt_eq]
    refine PySem.getD_mem ?_
    simp only [List.length_map, Array.length_toList]; omega
  · obtain ⟨j, hj, rfl⟩ := mem_getD hy
    simp only [List.length_map, Array.length_toList] at hj
    rw [← numAt_eq]
    refine best j ?_
    omega
end
end MxT


set_option Elab.async false
set_option linter.all false
set_option maxRecDepth 100000
set_option maxHeartbeats 1000000
namespace Rs
open PySem L2 Bs Fq LamX
/-! ### ways in memory -/
inductive Al {α : Type} (R : V → α → Prop) : List V → List α → Prop
  | nil : Al R [] []
  | cons {v : V} {vs : List V} {q : α} {qs : List α} : R v q → Al R vs qs → Al R (v :: vs) (q :: qs)
section
variable {α β : Type} {R S : V → α → Prop} {vs us : List V} {qs rs : List α}
theorem Al.imp (h : ∀ v q, R v q → S v q) : ∀ {vs : List V} {qs : List α}, Al R vs qs → Al S vs qs
  | _, _, .nil => .nil
  | _, _, .cons a b => .cons (h _ _ a) (Al.imp h b)
theorem Al.len : ∀ {vs : List V} {qs : List α}, Al R vs qs → vs.length = qs.length
  | _, _, .nil => rfl
  | _, _, .cons _ b => congrArg (· + 1) (Al.len b)
theorem Al.get : ∀ {vs : List V} {qs : List α} {i : Nat} {v : V}, Al R vs qs → vs[i]? = some v → ∃ q, qs[i]? = some q ∧ R v q
  | _, _, 0, _, .cons a _, h => by
    cases h
    exact ⟨_, rfl, a⟩
  | _, _, i + 1, _, .cons _ b, h => Al.get (i := i) b h
  | _, _, _, _, .nil, h => by simp at h
theorem Al.app : ∀ {vs us : List V} {qs rs : List α}, Al R vs qs → Al R us rs → Al R (vs ++ us) (qs ++ rs)
  | _, _, _, _, .nil, h => h
  | _, _, _, _, .cons a b, h => .cons a (Al.app b h)
theorem Al.snoc {v : V} {q : α} (h : Al R vs qs) (g : R v q) : Al R (vs ++ [v]) (qs ++ [q]) := h.app (.cons g .nil)
theorem Al.take : ∀ {vs : List V} {qs : List α} (n : Nat), Al R vs qs → Al R (vs.take n) (qs.take n)
  | _, _, 0, _ => .nil
  | _, _, n + 1, .nil => .nil
  | _, _, n + 1, .cons a b => .cons a (Al.take n b)
theorem Al.drop : ∀ {vs : List V} {qs : List α} (n : Nat), Al R vs qs → Al R (vs.drop n) (qs.drop n)
  | _, _, 0, h => h
  | _, _, n + 1, .nil => .nil
  | _, _, n + 1, .cons a b => Al.drop n b
end
/-- a tuple of whole numbers -/
def It (K : PySem.W.Frag) (H : Hp) (v : V) (w : List Int) : Prop := ∃ a, v = .ref a ∧ SqT K H a (w.map V.int)
/-- a pair of a way and its height -/
def Wr (K : PySem.W.Frag) (H : Hp) (v : V) (r : Wy) : Prop := ∃ p u, v = .ref p ∧ SqT K H p [u, .int r.2] ∧ It K H u r.1
section
variable {K : PySem.W.Frag} {H H' : Hp} {v : V} {w : List Int} {r : Wy} {D : Addr} {acc : List V} {o : HO}
theorem It.mono (h : It K H v w) (e : Same H H') : It K H' v w := by
  obtain ⟨a, rfl, s⟩ := h
  exact ⟨a, rfl, Bs.Same.t e s⟩
theorem It.off (h : It K H v w) (hD : H D = some (.lst acc)) : It K (upd H D o) v w := by
  obtain ⟨a, rfl, s⟩ := h
  exact ⟨a, rfl, sqT_off hD s⟩
theorem Wr.mono (h : Wr K H v r) (e : Same H H') : Wr K H' v r := by
  obtain ⟨p, u, rfl, s, i⟩ := h
  exact ⟨p, u, rfl, Bs.Same.t e s, i.mono e⟩
theorem Wr.off (h : Wr K H v r) (hD : H D = some (.lst acc)) : Wr K (upd H D o) v r := by
  obtain ⟨p, u, rfl, s, i⟩ := h
  exact ⟨p, u, rfl, sqT_off hD s, i.off hD⟩
def dI (w : List Int) : PyData := .tuple (w.map PyData.int)
theorem dpInts : ∀ w : List Int, DpAll K H (w.map V.int) (w.map PyData.int)
  | [] => .nil
  | i :: w => .cons (.int i) (dpInts w)
theorem It.dp (h : It K H v w) : Dp K H v (dI w) := by
  obtain ⟨a, rfl, s⟩ := h
  exact .tup s (dpInts w)
theorem Al.dpI : ∀ {vs : List V} {ws : List (List Int)}, Al (It K H) vs ws → DpAll K H vs (ws.map dI)
  | _, _, .nil => .nil
  | _, _, .cons a b => .cons a.dp (Al.dpI b)
end
/-- a tuple of ways -/
def Wt (K : PySem.W.Frag) (H : Hp) (v : V) (ws : List (List Int)) : Prop := ∃ a vs, v = .ref a ∧ SqT K H a vs ∧ Al (It K H) vs ws
def dW (ws : List (List Int)) : PyData := .tuple (ws.map dI)
theorem Wt.mono {K : PySem.W.Frag} {H H' : Hp} {v : V} {ws : List (List Int)} (h : Wt K H v ws) (e : Same H H') : Wt K H' v ws := by
  obtain ⟨a, vs, rfl, s, i⟩ := h
  exact ⟨a, vs, rfl, Bs.Same.t e s, i.imp fun _ _ z => z.mono e⟩
theorem Wt.dp {K : PySem.W.Frag} {H : Hp} {v : V} {ws : List (List Int)} (h : Wt K H v ws) : Dp K H v (dW ws) := by
  obtain ⟨a, vs, rfl, s, i⟩ := h
  exact .tup s i.dpI
structure Bnds (mg : Str → Option Value) : Prop where
  m8 : ∃ t, mg "MOST_STEPS" = some (.int 8 t)
  m4 : ∃ t, mg "HIGHEST" = some (.int 4 t)
abbrev sHts : Stmt := top 29
abbrev sIsWay : Stmt := top 30
abbrev sNeedWay : Stmt := top 31
abbrev sNeedHt : Stmt := top 32
abbrev sBetw : Stmt := top 33
abbrev sAllW : Stmt := top 34
abbrev sHtsOf : Stmt := top 35
abbrev sLHts : Stmt := top 47
/-- start, way -> its heights -/
def spHts (K : PySem.W.Frag) : Sp := fun vs H Q _ => ∃ (b : Int) (v : V) (w : List Int), vs = [.int b, v] ∧ It K H v w ∧ w.length ≤ 500 ∧ ∀ H' u, Same H H' → It K H' u (hts b w) → Q u H'
def spIsWay (K : PySem.W.Frag) : Sp := fun vs H Q _ => ∃ (b : Int) (v : V) (w : List Int), vs = [.int b, v] ∧ It K H v w ∧ Way b w ∧ w.length ≤ 8 ∧ ∀ H', Same H H' → Q (.bl true) H'
def spNeedB' : Sp := fun vs H Q _ => ∃ (i lo hi : Int), vs = [.int i, .int lo, .int hi] ∧ lo ≤ i ∧ i ≤ hi ∧ Q (.int i) H
def spNeedHt : Sp := fun vs H Q _ => ∃ (i : Int), vs = [.int i] ∧ 0 ≤ i ∧ i ≤ 4 ∧ Q (.int i) H
def spNeedWay (K : PySem.W.Frag) : Sp := fun vs H Q _ => ∃ (b : Int) (v : V) (w : List Int), vs = [.int b, v] ∧ It K H v w ∧ Way b w ∧ w.length ≤ 8 ∧ 0 ≤ b ∧ b ≤ 4 ∧ ∀ H', Same H H' → Q v H'
def spWays (K : PySem.W.Frag) : Sp := fun vs H Q _ => ∃ (b e : Int) (m : Nat), vs = [.int b, .int e, .int m] ∧ 0 ≤ b ∧ b ≤ 4 ∧ 0 ≤ e ∧ e ≤ 4 ∧ m ≤ 8 ∧ ∀ H' u, Same H H' → Wt K H' u (ways b e m) → Q u H'
def spHtsOf (K : PySem.W.Frag) : Sp := fun vs H Q _ => ∃ (b : Int) (v : V) (w : List Int), vs = [.int b, v] ∧ It K H v w ∧ Way b w ∧ w.length ≤ 8 ∧ 0 ≤ b ∧ b ≤ 4 ∧ ∀ H' u, Same H H' → It K H' u (hts b w) → Q u H'
theorem small8000 {n : Nat} (h : n ≤ 8000) : n < sizeLine := by
  have := sizeLine_eq
  omega
theorem map_take_int {w : List Int} {i : Nat} {x : V} (h : (w.map V.int)[i]? = some x) : ∃ s, w[i]? = some s ∧ x = .int s := some_int h
section
variable {P : Program} {w : World} {K : PySem.W.Frag} {mg : Str → Option Value} {base : Heap} {f : Addr} {fd : FuncData}
abbrev NHts : List Str := ["start", "way", "heights", "step"]
theorem scHts : FnScope NHts ["start", "way"] (defScope sHts) := ⟨rfl, rfl, rfl, by decide +kernel, rfl, by decide +kernel, by decide +kernel⟩
theorem ok_hts (F : Fun K "heights_by" "heights_by" sHts f fd) (T : Blt mg) : FnOk P w K mg base CX0 1 f fd ["start", "way"] (spHts K) := by
  refine F.ok scHts (fun vs H Q E h => ?_) (fun cdv A outer s H vs Q E hr h => ?_)
  · obtain ⟨b, v, w, rfl, _⟩ := h
    rfl
  · obtain ⟨b, v, w, rfl, ⟨a, rfl, sa⟩, lw, kk⟩ := h
    refine ⟨_, pss_cons (ps_set (i := 2) scHts.nd rfl (Or.inl rfl) (pe_lst (pa_cons (pv 0) pa_nil)))
      (pss_cons (ps_for PassesOwn.never rfl (pi_tup (pv 1)) (pg_name (i := 3) scHts.nd rfl (.inl rfl))
        (pss_one (ps_expr (pe_bm PySem.F.plainAttrs_list PySem.F.slot_list_append PySem.F.type_list_append mt_append (pv 2) (pa_cons (pe_op op_add (pe_ix ix_list (pv 2) (pe_un un_neg pe_int) (fun _ _ => rfl)) (pv 3)) pa_nil)))))
      (pss_one (ps_ret (pe_callTy call_tuple_of (by rfl) T.tuple (by decide +kernel) (pa_cons (pv 2) pa_nil))))), ?_⟩
    refine ⟨_, rfl, (by show 1 ≤ sizeLine; decide), fun L hL => ?_⟩
    have s0 := same_new (o := .lst [.int b]) hL
    refine ⟨_, rfl, a, rfl, ⟨_, Bs.Same.t s0 sa⟩, for_tup (K := K) (a := a) (xs := w.map V.int) (fun i σ H1 => Same H H1 ∧ ∃ v3, H1 L = some (.lst ((hts b (w.take i)).map V.int)) ∧ σ = [some (V.int b), some (V.ref a), some (V.ref L), v3])
      ⟨s0, none, upd_same, rfl⟩ (fun i σ H1 _ p => Bs.Same.t p.1 sa) ?_ ?_⟩
    · rintro i x σ H1 hx ⟨s1, v3, hL1, rfl⟩
      obtain ⟨t, ht, rfl⟩ := some_int hx
      have hi : i < w.length := (List.getElem?_eq_some_iff.mp ht).1
      have lt : (w.take i).length = i := by rw [List.length_take]; omega
      have hlast : ((hts b (w.take i)).map V.int)[((hts b (w.take i)).map V.int).length - 1]? = some (V.int (hgt b (w.take i))) := by
        rw [List.length_map, List.getElem?_map, hts_last]
        rfl
      have hne : (hts b (w.take i)).map V.int ≠ [] := fun z => by
        have := congrArg List.length z
        rw [List.length_map, hts_len] at this
        cases this
      refine ⟨_, rfl, .inl ⟨rfl, _, SqL.of hL1⟩, _, rfl, _, rfl, L, _, _, _, rfl, rfl, SqL.of hL1, atI_neg1 hne hlast, _, rfl, _, _, rfl, rfl, L, _, _, rfl, rfl, hL1, small1000 (by rw [List.length_map, hts_len, lt]; omega), ?_⟩
      refine ⟨fun c o e => (upd_ne (ne_of_none e hL)).trans (s1 c o e), _, ?_, rfl⟩
      rw [upd_same, take_one ht, hts_snoc, List.map_append]
      rfl
    · rintro σ H1 ⟨s1, v3, hL1, rfl⟩
      rw [List.length_map, List.take_length] at hL1
      exact ⟨_, rfl, L, _, rfl, .inl ⟨SqL.of hL1, fun p hp => kk _ _ (s1.trans (same_new hp)) ⟨p, rfl, SqT.of upd_same⟩⟩⟩
theorem scNeedB' : FnScope ["thing", "low", "high"] ["thing", "low", "high"] (defScope sNeedB) := ⟨rfl, rfl, rfl, by decide +kernel, rfl, by decide +kernel, by decide +kernel⟩
theorem ok_needB' (F : Fun K "need_between" "need_between" sNeedB f fd) (W : Cal P w K mg base 2 "is_between" (spBetween K)) : FnOk P w K mg base CX0 3 f fd ["thing", "low", "high"] spNeedB' := by
  refine F.ok scNeedB' (fun vs H Q E h => ?_) (fun cdv A outer s H vs Q E hr h => ?_)
  · obtain ⟨i, lo, hi, rfl, _⟩ := h
    rfl
  · obtain ⟨i, lo, hi, rfl, h1, h2, kk⟩ := h
    refine ⟨_, pss_cons (ps_if (pt_not (pt_val (pe_n W hr (by decide) (by rfl) (pa_cons (pv 0) (pa_cons (pv 1) (pa_cons (pv 2) pa_nil)))))) (pss_one ps_never) pss_nil) (pss_one (ps_ret (pv 0))), ?_⟩
    refine ⟨_, rfl, _, rfl, _, rfl, _, .int i, lo, hi, rfl, .int i, _, rfl, ?_⟩
    have : betwD lo hi (.int i) = true := by
      show (decide (lo ≤ i) && decide (i ≤ hi)) = true
      rw [decide_eq_true h1, decide_eq_true h2]
      rfl
    rw [this]
    exact iteF ⟨_, rfl, kk⟩
theorem scNeedHt : FnScope ["thing"] ["thing"] (defScope sNeedHt) := ⟨rfl, rfl, rfl, by decide +kernel, rfl, by decide +kernel, by decide +kernel⟩
theorem ok_needHt (F : Fun K "need_height" "need_height" sNeedHt f fd) (B : Bnds mg) (W : Cal P w K mg base 3 "need_between" spNeedB') : FnOk P w K mg base CX0 4 f fd ["thing"] spNeedHt := by
  refine F.ok scNeedHt (fun vs H Q E h => ?_) (fun cdv A outer s H vs Q E hr h => ?_)
  · obtain ⟨i, rfl, _⟩ := h
    rfl
  · obtain ⟨i, rfl, h1, h2, kk⟩ := h
    obtain ⟨t4, m4⟩ := B.m4
    refine ⟨_, pss_one (ps_ret (pe_n W hr (by decide) (by rfl) (pa_cons (pv 0) (pa_cons pe_int (pa_cons (pe_glob (v := .int 4) (by rfl) m4 ⟨t4, rfl⟩) pa_nil))))), ?_⟩
    exact ⟨_, rfl, i, 0, 4, rfl, h1, h2, kk⟩
theorem scIsWay : FnScope ["start", "thing", "step"] ["start", "thing"] (defScope sIsWay) := ⟨rfl, rfl, rfl, by decide +kernel, rfl, by decide +kernel, by decide +kernel⟩
theorem ok_isWay (F : Fun K "is_way" "is_way" sIsWay f fd) (T : Blt mg) (B : Bnds mg) (al : mg "all" = none) (BE : Cal P w K mg base 2 "is_between" (spBetween K)) (HB : Cal P w K mg base 1 "heights_by" (spHts K)) : FnOk P w K mg base CX0 3 f fd ["start", "thing"] (spIsWay K) := by
  refine F.ok scIsWay (fun vs H Q E h => ?_) (fun cdv A outer s H vs Q E hr h => ?_)
  · obtain ⟨b, v, w, rfl, _⟩ := h
    rfl
  · obtain ⟨b, v, w, rfl, ⟨a, rfl, sa⟩, W, lw, kk⟩ := h
    obtain ⟨t8, m8⟩ := B.m8
    refine ⟨_, pss_cons (ps_if (PW.pt (pw_or (pt_not (pt_val (pe_callB call_isi (by rfl) T.isinstance (by decide +kernel) (pa_cons (pv 1) (pa_cons (pe_bltn (v := .ty "tuple") (by rfl) T.tuple (by decide +kernel) rfl) pa_nil)))))
        (pw_or1 (pt_cmpR op_gt (pe_callB call_len_seq (by rfl) T.len (by decide +kernel) (pa_cons (pv 1) pa_nil)) (pe_glob (v := .int 8) (by rfl) m8 ⟨t8, rfl⟩) (nomark _))))) (pss_one (ps_ret pe_bl)) pss_nil)
      (pss_one (ps_ret (pe_and (pe_callB (cr_all rfl) (by rfl) al (by decide +kernel) (pa_cons (pe_lc (own := [("step", 2)]) (g := gName 2) (tt := tYes) rfl scIsWay.nd (pi_tup (pv 1)) (blkOk_by (N := ["start", "thing", "step"]) (sc := defScope sIsWay) (by decide +kernel))
          (fun _ _ _ _ _ => pg_name (i := 2) scIsWay.nd rfl (Or.inl rfl)) (fun _ _ _ _ _ => pts_nil)
          (fun _ _ _ _ _ => pe_n BE hr (by decide) (by rfl) (pa_cons (pv 2) (pa_cons (pe_un un_neg pe_int) (pa_cons pe_int pa_nil))))) pa_nil))
        (pe_one (pe_cmpR op_ge (pe_callB (MxT.cr_mnT rfl) (by rfl) T.min (by decide +kernel) (pa_cons (pe_n HB hr (by decide) (by rfl) (pa_cons (pv 0) (pa_cons (pv 1) pa_nil))) pa_nil)) pe_int (nomark _)))))), ?_⟩
    have hd : Dp K H (.ref a) (dI w) := It.dp ⟨a, rfl, sa⟩
    refine ⟨_, rfl, _, _, _, _, _, rfl, .ty _, hd.ty, kitT K _, _, rfl, ?_⟩
    refine iteF ⟨_, rfl, a, _, rfl, .inr sa, _, _, rfl, rfl, _, rfl, ?_⟩
    refine ite2 (fun c => ?_) (fun _ => ?_)
    · have := of_decide_eq_true c
      rw [List.length_map] at this
      omega
    refine ⟨_, rfl, a, rfl, ⟨_, sa⟩, fun D hD => lc_tup (K := K) (a := a) (xs := w.map V.int) (fun i H2 => Same H H2 ∧ H2 D = some (.lst ((List.replicate i true).map V.bl))) ⟨same_new hD, upd_same⟩ (fun i H2 _ z => Bs.Same.t z.1 sa) ?_ ?_⟩
    · rintro i x H2 hx ⟨s2, hD2⟩
      obtain ⟨t, ht, rfl⟩ := some_int hx
      have hi : i < w.length := (List.getElem?_eq_some_iff.mp ht).1
      have tb : betwD (-1) 1 (.int t) = true := by
        have := W.t t (List.mem_of_getElem? ht)
        show (decide (-1 ≤ t) && decide (t ≤ 1)) = true
        rw [decide_eq_true (by omega), decide_eq_true (by omega)]
        rfl
      refine ⟨rfl, ?_⟩
      refine iteT (B := Same H H2 ∧ H2 D = some (.lst ((List.replicate (i + 1) true).map V.bl))) ?_
      refine ⟨_, rfl, _, rfl, _, .int t, -1, 1, rfl, .int t, ?_⟩
      rw [tb]
      refine ⟨_, hD2, small1000 (by rw [List.length_map, List.length_replicate]; omega), fun c o e => (upd_ne (ne_of_none e hD)).trans (s2 c o e), ?_⟩
      rw [upd_same, List.replicate_succ', List.map_append]
      rfl
    · rintro H2 ⟨s2, hD2⟩
      refine ⟨D, _, rfl, SqL.of hD2, _, rfl, ?_⟩
      have e : (List.replicate (w.map V.int).length true).all id = true := by
        rw [List.all_eq_true]
        intro x hx
        rw [(List.mem_replicate.mp hx).2]
        rfl
      rw [e]
      refine iteT ⟨_, rfl, _, rfl, b, _, w, rfl, ⟨a, rfl, Bs.Same.t s2 sa⟩, by omega, fun H3 u s3 hu => ?_⟩
      obtain ⟨c, rfl, sc⟩ := hu
      refine ⟨c, _, rfl, sc, fun z => ?_, fun m hm _ => ⟨_, _, rfl, rfl, ?_⟩⟩
      · have := congrArg List.length z
        rw [hts_len] at this
        cases this
      · show Q (.bl (decide (0 ≤ m))) H3
        rw [decide_eq_true (W.u m hm)]
        exact kk H3 (s2.trans s3)
theorem scNeedWay : FnScope ["start", "way"] ["start", "way"] (defScope sNeedWay) := ⟨rfl, rfl, rfl, by decide +kernel, rfl, by decide +kernel, by decide +kernel⟩
theorem ok_needWay (F : Fun K "need_way" "need_way" sNeedWay f fd) (NH : Cal P w K mg base 4 "need_height" spNeedHt) (IW : Cal P w K mg base 3 "is_way" (spIsWay K)) : FnOk P w K mg base CX0 5 f fd ["start", "way"] (spNeedWay K) := by
  refine F.ok scNeedWay (fun vs H Q E h => ?_) (fun cdv A outer s H vs Q E hr h => ?_)
  · obtain ⟨b, v, w, rfl, _⟩ := h
    rfl
  · obtain ⟨b, v, w, rfl, iw, W, lw, b0, b4, kk⟩ := h
    refine ⟨_, pss_cons (ps_expr (pe_n NH hr (by decide) (by rfl) (pa_cons (pv 0) pa_nil)))
      (pss_cons (ps_if (pt_not (pt_val (pe_n IW hr (by decide) (by rfl) (pa_cons (pv 0) (pa_cons (pv 1) pa_nil))))) (pss_one ps_never) pss_nil) (pss_one (ps_ret (pv 1)))), ?_⟩
    refine ⟨_, rfl, b, rfl, b0, b4, _, rfl, _, rfl, b, v, w, rfl, iw, W, lw, fun H' s => ⟨_, rfl, iteF ⟨_, rfl, kk H' s⟩⟩⟩
theorem scHtsOf : FnScope ["start", "way"] ["start", "way"] (defScope sHtsOf) := ⟨rfl, rfl, rfl, by decide +kernel, rfl, by decide +kernel, by decide +kernel⟩
theorem ok_htsOf (F : Fun K "heights_of" "heights_of" sHtsOf f fd) (NW : Cal P w K mg base 5 "need_way" (spNeedWay K)) (HB : Cal P w K mg base 1 "heights_by" (spHts K)) : FnOk P w K mg base CX0 6 f fd ["start", "way"] (spHtsOf K) := by
  refine F.ok scHtsOf (fun vs H Q E h => ?_) (fun cdv A outer s H vs Q E hr h => ?_)
  · obtain ⟨b, v, w, rfl, _⟩ := h
    rfl
  · obtain ⟨b, v, w, rfl, iw, W, lw, b0, b4, kk⟩ := h
    refine ⟨_, pss_one (ps_ret (pe_n HB hr (by decide) (by rfl) (pa_cons (pv 0) (pa_cons (pe_n NW hr (by decide) (by rfl) (pa_cons (pv 0) (pa_cons (pv 1) pa_nil))) pa_nil)))), ?_⟩
    exact ⟨_, rfl, _, rfl, _, rfl, b, v, w, rfl, iw, W, lw, b0, b4, fun H1 s1 => ⟨b, v, w, rfl, iw.mono s1, by omega, fun H2 u s2 hu => kk H2 u (s1.trans s2) hu⟩⟩
end
end Rs


set_option Elab.async false
set_option linter.all false
set_option maxRecDepth 100000
set_option maxHeartbeats 1000000
namespace Rs
open PySem L2 Bs Fq LamX
def step3 (k : Nat) : Int := match k with | 0 => -1 | 1 => 0 | _ => 1
/-- what one row gives, after k of the three steps -/
def extK (l e : Int) (r : Wy) (k : Nat) : List Wy := (([-1, 0, 1] : List Int).take k |>.filter fun s => fit l e r.2 s).map fun s => (r.1 ++ [s], r.2 + s)
theorem one_more {α β : Type} (p : α → Bool) (g : α → β) (x : α) : ([x].filter p).map g = if p x = true then [g x] else [] := by
  cases h : p x <;> simp [h]
theorem extK_succ (l e : Int) (r : Wy) {k : Nat} (h : k < 3) : extK l e r (k + 1) = extK l e r k ++ (if fit l e r.2 (step3 k) = true then [(r.1 ++ [step3 k], r.2 + step3 k)] else []) := by
  have hk : ([-1, 0, 1] : List Int).take (k + 1) = ([-1, 0, 1] : List Int).take k ++ [step3 k] := by
    rcases (by omega : k = 0 ∨ k = 1 ∨ k = 2) with rfl | rfl | rfl <;> rfl
  unfold extK
  rw [hk, List.filter_append, List.map_append, one_more]
theorem extK_len (l e : Int) (r : Wy) (k : Nat) : (extK l e r k).length ≤ 3 := by
  unfold extK
  rw [List.length_map]
  refine Nat.le_trans (List.length_filter_le _ _) ?_
  rw [List.length_take]
  exact Nat.min_le_right _ _
theorem grow_take (l e : Int) {rs : List Wy} {j : Nat} {r : Wy} (h : rs[j]? = some r) : grow l e (rs.take (j + 1)) = grow l e (rs.take j) ++ extK l e r 3 := by
  rw [take_one h]
  unfold grow
  rw [List.flatMap_append]
  congr 1
  show ext l e r ++ [] = _
  rw [List.append_nil]
  rfl
theorem absI_eq (x : Int) : (if x < 0 then -x else x) = absI x := rfl
abbrev NBw : List Str := ["start", "stop", "many", "begun", "left", "longer", "way", "height", "step"]
section
variable {P : Program} {w : World} {K : PySem.W.Frag} {mg : Str → Option Value} {base : Heap} {f : Addr} {fd : FuncData}
theorem scBetw : FnScope NBw ["start", "stop", "many"] (defScope sBetw) := ⟨rfl, rfl, rfl, by decide +kernel, rfl, by decide +kernel, by decide +kernel⟩
theorem p3le {k : Nat} (h : k ≤ 8) : 3 ^ k ≤ 6561 := Nat.pow_le_pow_right (by decide) h
theorem ok_betw (F : Fun K "ways_between" "ways_between" sBetw f fd) (T : Blt mg) (rv : mg "reversed" = none) : FnOk P w K mg base CX0 1 f fd ["start", "stop", "many"] (spWays K) := by
  refine F.ok scBetw (fun vs H Q E h => ?_) (fun cdv A outer s H vs Q E hr h => ?_)
  · obtain ⟨b, e, m, rfl, _⟩ := h
    rfl
  · obtain ⟨b, e, m, rfl, b0, b4, e0, e4, m8, kk⟩ := h
    refine ⟨_, pss_cons (ps_set (i := 3) scBetw.nd rfl (Or.inl rfl) (pe_lst (pa_cons (pe_tup (pa_cons (pe_tup pa_nil) (pa_cons (pv 0) pa_nil))) pa_nil)))
      (C8.pss_cut (ps_for PassesOwn.never rfl (pi_revR (by rfl) rv (prg_1 (by rfl) T.range (pv 2))) (pg_name (i := 4) scBetw.nd rfl (.inl rfl))
        (pss_cons (ps_set (i := 5) scBetw.nd rfl (Or.inl rfl) (pe_lst pa_nil))
        (C8.pss_cut (ps_for PassesOwn.never rfl (pi_list (pv 3)) (pg_tup rfl (pgs_cons (pg_name (i := 6) scBetw.nd rfl (.inl rfl)) (pgs_cons (pg_name (i := 7) scBetw.nd rfl (.inl rfl)) pgs_nil)))
          (pss_one (ps_for PassesOwn.never rfl (pi_tup (pe_tup (pa_cons (pe_un un_neg pe_int) (pa_cons pe_int (pa_cons pe_int pa_nil))))) (pg_name (i := 8) scBetw.nd rfl (.inl rfl))
            (pss_one (ps_if (PW.pt (pw_and (pt_cmpR op_ge (pe_op op_add (pv 7) (pv 8)) pe_int (nomark _)) (pw_and1 (pt_cmpR op_le (pe_callB call_abs (by rfl) T.abs (by decide +kernel) (pa_cons (pe_op op_sub (pe_op op_add (pv 7) (pv 8)) (pv 1)) pa_nil)) (pv 4) (nomark _)))))
              (pss_one (ps_expr (pe_bm PySem.F.plainAttrs_list PySem.F.slot_list_append PySem.F.type_list_append mt_append (pv 5) (pa_cons (pe_tup (pa_cons (pe_op op_catA (pv 6) (pe_tup (pa_cons (pv 8) pa_nil))) (pa_cons (pe_op op_add (pv 7) (pv 8)) pa_nil))) pa_nil)))) pss_nil)))))
        (pss_one (ps_set (i := 3) scBetw.nd rfl (Or.inl rfl) (pv 5))))))
      (pss_one (ps_ret (pe_callTy call_tuple_of (by rfl) T.tuple (by decide +kernel) (pa_cons (pe_lc (own := [("way", 6), ("height", 7)]) (g := gTup K 2 (gCons (gName 6) (gCons (gName 7) gNil))) (tt := tTest (tOp rEq (tVar 7) (tVar 1))) rfl scBetw.nd (pi_list (pv 3)) (blkOk_by (N := NBw) (sc := defScope sBetw) (by decide +kernel))
          (fun _ _ _ _ _ => pg_tup rfl (pgs_cons (pg_name (i := 6) scBetw.nd rfl (.inl rfl)) (pgs_cons (pg_name (i := 7) scBetw.nd rfl (.inl rfl)) pgs_nil))) (fun _ _ _ _ _ => pts_one (pt_cmpR op_eq (pv 7) (pv 1) (nomark _)))
          (fun _ _ _ _ _ => pv 6)) pa_nil))))), ?_⟩
    have s00 : ∀ {p q L : Addr} {H1 : Hp}, H p = none → (upd H p (.tup [])) q = none → True := fun _ _ => trivial
    refine ⟨(by show 0 ≤ sizeLine; decide), fun p1 hp1 => ⟨_, rfl, (by show 2 ≤ sizeLine; decide), fun p2 hp2 => ⟨(by show 1 ≤ sizeLine; decide), fun L hL => ?_⟩⟩⟩
    have u1 := same_new (o := .tup []) hp1
    have u2 := same_new (o := .tup [.ref p1, .int b]) hp2
    have u3 := same_new (o := .lst [.ref p2]) hL
    have w0 : Al (Wr K (upd (upd (upd H p1 (.tup [])) p2 (.tup [.ref p1, .int b])) L (.lst [.ref p2]))) [V.ref p2] (grown b e m 0) := .cons ⟨p2, .ref p1, rfl, SqT.of (u3 _ _ upd_same), p1, rfl, SqT.of (u3 _ _ (u2 _ _ upd_same))⟩ .nil
    have us := u1.trans (u2.trans u3)
    have g0 : upd (upd (upd H p1 (.tup [])) p2 (.tup [.ref p1, .int b])) L (.lst [.ref p2]) L = some (.lst [.ref p2]) := upd_same
    generalize upd (upd (upd H p1 (.tup [])) p2 (.tup [.ref p1, .int b])) L (.lst [.ref p2]) = H1 at *
    refine ⟨fun σ H2 => Same H H2 ∧ ∃ L vs v4 v5 v6 v7 v8, H2 L = some (.lst vs) ∧ Al (Wr K H2) vs (grown b e m m) ∧ σ = [some (V.int b), some (V.int e), some (V.int m), some (V.ref L), v4, v5, v6, v7, v8], ?_, ?_⟩
    · refine ⟨_, rfl, (m : Int), rfl, by omega, by omega, by omega, by omega, ?_⟩
      refine for_rangeC (n := ((m : Int) - 0).toNat) (fun i σ H2 => Same H H2 ∧ ∃ L vs v4 v5 v6 v7 v8, H2 L = some (.lst vs) ∧ Al (Wr K H2) vs (grown b e m i) ∧ σ = [some (V.int b), some (V.int e), some (V.int m), some (V.ref L), v4, v5, v6, v7, v8])
        ⟨us, L, _, none, none, none, none, none, g0, w0, rfl⟩ ?_ ?_
      · rintro i σ H2 hi ⟨s2, L2, vs, v4, v5, v6, v7, v8, gL, al, rfl⟩
        have hi' : i < m := by omega
        have len1 := al.len
        have len2 := grown_len b e m i
        have len3 := p3le (k := i) (by omega)
        have le : 0 + (((m : Int) - 0).toNat : Int) - 1 + (i : Int) * -1 = (m : Int) - 1 - i := by omega
        rw [le]
        refine ⟨(by show 0 ≤ sizeLine; decide), fun L3 hL3 => ?_⟩
        have u4 := same_new (o := .lst []) hL3
        have n23 : L2 ≠ L3 := ne_of_none gL hL3
        have s3 := s2.trans u4
        have hN : H L3 = none := s2.free hL3
        refine ⟨fun σ H3 => Same H H3 ∧ ∃ us v6 v7 v8, H3 L3 = some (.lst us) ∧ Al (Wr K H3) us (grow ((m : Int) - 1 - i) e (grown b e m i)) ∧ σ = [some (V.int b), some (V.int e), some (V.int m), some (V.ref L2), some (V.int ((m : Int) - 1 - i)), some (V.ref L3), v6, v7, v8], ?_, ?_⟩
        · refine ⟨_, rfl, L2, rfl, ⟨_, SqL.of (u4 _ _ gL)⟩, for_list (K := K) (a := L2) (xs := vs) (fun j σ H3 => Same H H3 ∧ H3 L2 = some (.lst vs) ∧ Al (Wr K H3) vs (grown b e m i) ∧ ∃ us v6 v7 v8, H3 L3 = some (.lst us) ∧ Al (Wr K H3) us (grow ((m : Int) - 1 - i) e ((grown b e m i).take j)) ∧ σ = [some (V.int b), some (V.int e), some (V.int m), some (V.ref L2), some (V.int ((m : Int) - 1 - i)), some (V.ref L3), v6, v7, v8])
            ⟨s3, u4 _ _ gL, al.imp fun _ _ z => z.mono u4, [], v6, v7, v8, upd_same, .nil, rfl⟩ (fun j σ H3 _ q => SqL.of q.2.1) ?_ ?_⟩
          · rintro j x σ H3 hx ⟨s4, g2, al3, us, v6, v7, v8, g3, au, rfl⟩
            obtain ⟨r, hr, pw, uw, rfl, sp, iw⟩ := al3.get hx
            have gr := grown_gr (e := e) b0 m i r (List.mem_of_getElem? hr)
            have lenu := au.len
            have lj : (grow ((m : Int) - 1 - i) e ((grown b e m i).take j)).length ≤ 19683 := by
              have := grow_len ((m : Int) - 1 - i) e ((grown b e m i).take j)
              rw [List.length_take] at this
              omega
            refine ⟨pw, _, rfl, sp, rfl, _, _, rfl, _, _, rfl, rfl, ?_⟩
            refine ⟨_, rfl, (by show 3 ≤ sizeLine; decide), fun p5 hp5 => ?_⟩
            have u5 := same_new (o := .tup [.int (-1), .int 0, .int 1]) hp5
            refine ⟨p5, rfl, ⟨_, SqT.of upd_same⟩, for_tup (K := K) (a := p5) (xs := [.int (-1), .int 0, .int 1]) (fun k σ H4 => Same H H4 ∧ H4 L2 = some (.lst vs) ∧ Al (Wr K H4) vs (grown b e m i) ∧ H4 p5 = some (.tup [.int (-1), .int 0, .int 1]) ∧ It K H4 uw r.1 ∧ ∃ us v8, H4 L3 = some (.lst us) ∧ Al (Wr K H4) us (grow ((m : Int) - 1 - i) e ((grown b e m i).take j) ++ extK ((m : Int) - 1 - i) e r k) ∧ σ = [some (V.int b), some (V.int e), some (V.int m), some (V.ref L2), some (V.int ((m : Int) - 1 - i)), some (V.ref L3), some uw, some (V.int r.2), v8])
              ⟨s4.trans u5, u5 _ _ g2, al3.imp fun _ _ z => z.mono u5, upd_same, iw.mono u5, us, v8, u5 _ _ g3, by rw [show extK ((m : Int) - 1 - i) e r 0 = [] from rfl, List.append_nil]; exact au.imp fun _ _ z => z.mono u5, rfl⟩ (fun k σ H4 _ q => SqT.of q.2.2.2.1) ?_ ?_⟩
            · rintro k x σ H4 hk ⟨s5, g2', al4, g5, iw4, us, v8, g3', au4, rfl⟩
              have k3 : k < 3 := (List.getElem?_eq_some_iff.mp hk).1
              have ex : x = .int (step3 k) := by
                rcases (by omega : k = 0 ∨ k = 1 ∨ k = 2) with rfl | rfl | rfl <;> exact (Option.some.inj hk).symm
              subst ex
              have lenu4 := au4.len
              have lx := extK_len ((m : Int) - 1 - i) e r k
              rw [List.length_append] at lenu4
              have es := extK_succ ((m : Int) - 1 - i) e r k3
              have no : fit ((m : Int) - 1 - i) e r.2 (step3 k) = false → (Same H H4 ∧ H4 L2 = some (.lst vs) ∧ Al (Wr K H4) vs (grown b e m i) ∧ H4 p5 = some (.tup [.int (-1), .int 0, .int 1]) ∧ It K H4 uw r.1 ∧ ∃ us v8, H4 L3 = some (.lst us) ∧ Al (Wr K H4) us (grow ((m : Int) - 1 - i) e ((grown b e m i).take j) ++ extK ((m : Int) - 1 - i) e r (k + 1)) ∧ [some (V.int b), some (V.int e), some (V.int m), some (V.ref L2), some (V.int ((m : Int) - 1 - i)), some (V.ref L3), some uw, some (V.int r.2), some (V.int (step3 k))] = [some (V.int b), some (V.int e), some (V.int m), some (V.ref L2), some (V.int ((m : Int) - 1 - i)), some (V.ref L3), some uw, some (V.int r.2), v8]) := fun f => by
                rw [es, f, if_neg (by decide), List.append_nil]
                exact ⟨s5, g2', al4, g5, iw4, us, _, g3', au4, rfl⟩
              refine ⟨_, rfl, _, rfl, _, _, rfl, rfl, _, _, rfl, rfl, _, rfl, ?_⟩
              refine ite2 (fun c1 => ?_) (fun c1 => no ?_)
              · refine ⟨_, rfl, _, rfl, _, _, rfl, rfl, _, rfl, _, _, rfl, rfl, _, rfl, _, rfl, _, _, rfl, rfl, _, rfl, ?_⟩
                refine ite2 (fun c2 => ?_) (fun c2 => no ?_)
                · have ft : fit ((m : Int) - 1 - i) e r.2 (step3 k) = true := by
                    unfold fit
                    rw [Bool.and_eq_true]
                    exact ⟨c1, c2⟩
                  obtain ⟨qa, rfl, sqa⟩ := iw4
                  refine ⟨_, rfl, .inl ⟨rfl, _, SqL.of g3'⟩, _, rfl, _, rfl, (by show 1 ≤ sizeLine; decide), fun p6 hp6 => ?_⟩
                  have u6 := same_new (o := .tup [.int (step3 k)]) hp6
                  refine cat_any (Bs.Same.t u6 sqa) (SqT.of upd_same) ?_ fun c7 H5 u7 s7 => ?_
                  · rw [List.length_map, gr.n]
                    exact Nat.le_of_lt (small1000 (by show i + 1 ≤ 1000; omega))
                  · refine ⟨_, rfl, _, rfl, _, _, rfl, rfl, (by show 2 ≤ sizeLine; decide), fun p8 hp8 => ?_⟩
                    have u8 := same_new (o := .tup [.ref c7, .int (r.2 + step3 k)]) hp8
                    have ua := u6.trans (u7.trans u8)
                    have gL3 := ua _ _ g3'
                    refine ⟨L3, us, _, rfl, rfl, gL3, (by have := sizeLine_eq; omega), ?_⟩
                    have ap : ∀ {c : Addr} {o : HO}, H4 c = some o → c ≠ L3 → upd (upd H5 p8 (.tup [.ref c7, .int (r.2 + step3 k)])) L3 (.lst (us ++ [.ref p8])) c = some o := fun z n => (upd_ne n).trans (ua _ _ z)
                    refine ⟨fun c o z => (upd_ne (ne_of_none z hN)).trans (ua _ _ (s5 c o z)), ap g2' n23, al4.imp fun _ _ z => (z.mono ua).off gL3, ap g5 (ne_of g5 g3' (by intro z; cases z)), ⟨qa, rfl, sqT_off gL3 (Bs.Same.t ua sqa)⟩, _, _, upd_same, ?_, rfl⟩
                    rw [es, ft, if_pos rfl, ← List.append_assoc]
                    refine (au4.imp fun _ _ z => (z.mono ua).off gL3).snoc ?_
                    have sc := Bs.Same.t u8 s7
                    rw [show r.1.map V.int ++ [V.int (step3 k)] = (r.1 ++ [step3 k]).map V.int from by rw [List.map_append]; rfl] at sc
                    exact ⟨p8, .ref c7, rfl, sqT_off gL3 (SqT.of upd_same), c7, rfl, sqT_off gL3 sc⟩
                · unfold fit
                  rw [Bool.and_eq_false_iff]
                  exact .inr (Bool.eq_false_iff.mpr c2)
              · unfold fit
                rw [Bool.and_eq_false_iff]
                exact .inl (Bool.eq_false_iff.mpr c1)
            · rintro σ H4 ⟨s5, g2', al4, g5, iw4, us, v8, g3', au4, rfl⟩
              exact ⟨s5, g2', al4, us, _, _, _, g3', by rw [grow_take _ _ hr]; exact au4, rfl⟩
          · rintro σ H3 ⟨s4, g2, al3, us, v6, v7, v8, g3, au, rfl⟩
            rw [len1, List.take_length] at au
            exact ⟨s4, us, v6, v7, v8, g3, au, rfl⟩
        · rintro σ H3 ⟨s4, us, v6, v7, v8, g3, au, rfl⟩
          exact ⟨_, rfl, s4, L3, us, _, _, _, _, _, g3, au, rfl⟩
      · rintro σ H2 ⟨s2, L2, vs, v4, v5, v6, v7, v8, gL, al, rfl⟩
        have em : ((m : Int) - 0).toNat = m := by omega
        rw [em] at al
        exact ⟨s2, L2, vs, v4, v5, v6, v7, v8, gL, al, rfl⟩
    · rintro σ H2 ⟨s2, L2, vs, v4, v5, v6, v7, v8, gL, al, rfl⟩
      have len1 := al.len
      have len2 := grown_len b e m m
      have len3 := p3le (k := m) m8
      refine ⟨_, rfl, L2, rfl, ⟨_, SqL.of gL⟩, fun D hD => lc_list (K := K) (a := L2) (xs := vs) (fun j H3 => Same H2 H3 ∧ ∃ us, H3 D = some (.lst us) ∧ Al (It K H3) us (ends e ((grown b e m m).take j))) ⟨same_new hD, [], upd_same, .nil⟩ (fun j H3 _ q => SqL.of (q.1 _ _ gL)) ?_ ?_⟩
      · rintro j x H3 hx ⟨s3, us, g3, au⟩
        obtain ⟨r, hr, pw, uw, rfl, sp, iw⟩ := al.get hx
        have lenu := au.len
        have tk := take_one hr
        have lj : (ends e ((grown b e m m).take j)).length ≤ 6561 := by
          unfold ends
          rw [List.length_map]
          refine Nat.le_trans (List.length_filter_le _ _) ?_
          rw [List.length_take]
          omega
        refine ⟨pw, _, rfl, Bs.Same.t s3 sp, rfl, _, _, rfl, _, _, rfl, rfl, rfl, ?_⟩
        refine ⟨_, rfl, _, rfl, rfl, _, rfl, ?_⟩
        have iw3 := iw.mono s3
        by_cases c : r.2 = e
        · rw [show decide (V.int r.2 = V.int e) = true from decide_eq_true (by rw [c])]
          refine iteT ⟨_, rfl, us, g3, small8000 (by omega), fun c o z => (upd_ne (ne_of_none z hD)).trans (s3 c o z), us ++ [uw], upd_same, ?_⟩
          rw [tk]
          unfold ends
          rw [List.filter_append, List.map_append, List.filter_cons, if_pos (decide_eq_true c)]
          exact (au.imp fun _ _ z => z.off g3).snoc (iw3.off g3)
        · rw [show decide (V.int r.2 = V.int e) = false from decide_eq_false fun z => c (V.int.inj z)]
          refine iteF ⟨s3, us, g3, ?_⟩
          rw [tk]
          unfold ends
          rw [List.filter_append, List.map_append, List.filter_cons, if_neg (by rw [decide_eq_false c]; decide)]
          rw [List.filter_nil, List.map_nil, List.append_nil]
          exact au
      · rintro H3 ⟨s3, us, g3, au⟩
        rw [len1, List.take_length] at au
        refine ⟨D, us, rfl, .inl ⟨SqL.of g3, fun p hp => ?_⟩⟩
        have u := same_new (o := .tup us) hp
        exact kk _ _ (s2.trans (s3.trans u)) ⟨p, us, rfl, SqT.of upd_same, au.imp fun _ _ z => z.mono u⟩
end
end Rs


set_option Elab.async false
set_option linter.all false
set_option maxRecDepth 100000
set_option maxHeartbeats 1000000
namespace Rs
open PySem L2 Bs Fq LamX
abbrev sLWays : Stmt := top 46
def upB (r : Wy) (s : Int) : Bool := decide (0 ≤ r.2 + s)
def nearB (l e : Int) (r : Wy) (s : Int) : Bool := decide (absI (r.2 + s - e) ≤ l)
def put (r : Wy) (s : Int) : Wy := (r.1 ++ [s], r.2 + s)
theorem ext_two (l e : Int) (r : Wy) : ((([-1, 0, 1] : List Int).filter (upB r)).filter (nearB l e r)).map (put r) = ext l e r := by
  unfold ext
  rw [List.filter_filter]
  congr 2
  funext s
  show (nearB l e r s && upB r s) = fit l e r.2 s
  rw [Bool.and_comm]
  rfl
theorem grow_step (l e : Int) {rs : List Wy} {j : Nat} {r : Wy} (h : rs[j]? = some r) : grow l e (rs.take (j + 1)) = grow l e (rs.take j) ++ ext l e r := grow_take l e h
theorem ints_at {ns : List Int} {i : Nat} {x : V} (h : (ns.map V.int)[i]? = some x) : ∃ s, ns[i]? = some s ∧ x = .int s := some_int h
theorem three_int : [V.int (-1), V.int 0, V.int 1] = ([-1, 0, 1] : List Int).map V.int := rfl
/-- start, stop, many -> the list of ways -/
def Wl (K : PySem.W.Frag) (H : Hp) (v : V) (ws : List (List Int)) : Prop := ∃ a vs, v = .ref a ∧ SqL K H a vs ∧ Al (It K H) vs ws
def spLWays (K : PySem.W.Frag) : Sp := fun vs H Q _ => ∃ (b e : Int) (m : Nat), vs = [.int b, .int e, .int m] ∧ 0 ≤ b ∧ b ≤ 4 ∧ 0 ≤ e ∧ e ≤ 4 ∧ m ≤ 8 ∧ ∀ H' u, Same H H' → Wl K H' u (ways b e m) → Q u H'
abbrev NLw : List Str := ["start", "stop", "many", "rows", "left", "longer", "way", "here", "some", "step"]
abbrev rAdd : R2 := rI0 fun i j => .int (i + j)
abbrev rSub : R2 := rI0 fun i j => .int (i - j)
abbrev rGe : R2 := rI0 fun i j => .bl (decide (j ≤ i))
abbrev rLe : R2 := rI0 fun i j => .bl (decide (i ≤ j))
abbrev rAbs' : List V → Hp → VK → Prop := fun xs H Q => ∃ i, xs = [.int i] ∧ Q (.int (if i < 0 then -i else i)) H
section
variable {P : Program} {w : World} {K : PySem.W.Frag} {mg : Str → Option Value} {base : Heap} {f : Addr} {fd : FuncData}
theorem scLHts : FnScope ["start", "way", "found_so", "step"] ["start", "way"] (defScope sLHts) := ⟨rfl, rfl, rfl, by decide +kernel, rfl, by decide +kernel, by decide +kernel⟩
theorem ok_lhts (F : Fun K "_law_heights" "_law_heights" sLHts f fd) (T : Blt mg) : FnOk P w K mg base CX0 1 f fd ["start", "way"] (spHts K) := by
  refine F.ok scLHts (fun vs H Q E h => ?_) (fun cdv A outer s H vs Q E hr h => ?_)
  · obtain ⟨b, v, w, rfl, _⟩ := h
    rfl
  · obtain ⟨b, v, w, rfl, ⟨a, rfl, sa⟩, lw, kk⟩ := h
    refine ⟨_, pss_cons (ps_set (i := 2) scLHts.nd rfl (Or.inl rfl) (pe_lst (pa_cons (pv 0) pa_nil)))
      (pss_cons (ps_for PassesOwn.never rfl (pi_tup (pv 1)) (pg_name (i := 3) scLHts.nd rfl (.inl rfl))
        (pss_one (ps_expr (pe_bm PySem.F.plainAttrs_list PySem.F.slot_list_append PySem.F.type_list_append mt_append (pv 2) (pa_cons (pe_op op_add (pe_ix ix_list (pv 2) (pe_un un_neg pe_int) (fun _ _ => rfl)) (pv 3)) pa_nil)))))
      (pss_one (ps_ret (pe_callTy call_tuple_of (by rfl) T.tuple (by decide +kernel) (pa_cons (pv 2) pa_nil))))), ?_⟩
    refine ⟨_, rfl, (by show 1 ≤ sizeLine; decide), fun L hL => ?_⟩
    have s0 := same_new (o := .lst [.int b]) hL
    refine ⟨_, rfl, a, rfl, ⟨_, Bs.Same.t s0 sa⟩, for_tup (K := K) (a := a) (xs := w.map V.int) (fun i σ H1 => Same H H1 ∧ ∃ v3, H1 L = some (.lst ((hts b (w.take i)).map V.int)) ∧ σ = [some (V.int b), some (V.ref a), some (V.ref L), v3])
      ⟨s0, none, upd_same, rfl⟩ (fun i σ H1 _ p => Bs.Same.t p.1 sa) ?_ ?_⟩
    · rintro i x σ H1 hx ⟨s1, v3, hL1, rfl⟩
      obtain ⟨t, ht, rfl⟩ := some_int hx
      have hi : i < w.length := (List.getElem?_eq_some_iff.mp ht).1
      have lt : (w.take i).length = i := by rw [List.length_take]; omega
      have hlast : ((hts b (w.take i)).map V.int)[((hts b (w.take i)).map V.int).length - 1]? = some (V.int (hgt b (w.take i))) := by
        rw [List.length_map, List.getElem?_map, hts_last]
        rfl
      have hne : (hts b (w.take i)).map V.int ≠ [] := fun z => by
        have := congrArg List.length z
        rw [List.length_map, hts_len] at this
        cases this
      refine ⟨_, rfl, .inl ⟨rfl, _, SqL.of hL1⟩, _, rfl, _, rfl, L, _, _, _, rfl, rfl, SqL.of hL1, atI_neg1 hne hlast, _, rfl, _, _, rfl, rfl, L, _, _, rfl, rfl, hL1, small1000 (by rw [List.length_map, hts_len, lt]; omega), ?_⟩
      refine ⟨fun c o e => (upd_ne (ne_of_none e hL)).trans (s1 c o e), _, ?_, rfl⟩
      rw [upd_same, take_one ht, hts_snoc, List.map_append]
      rfl
    · rintro σ H1 ⟨s1, v3, hL1, rfl⟩
      rw [List.length_map, List.take_length] at hL1
      exact ⟨_, rfl, L, _, rfl, .inl ⟨SqL.of hL1, fun p hp => kk _ _ (s1.trans (same_new hp)) ⟨p, rfl, SqT.of upd_same⟩⟩⟩
theorem scAllW : FnScope ["start", "stop", "many"] ["start", "stop", "many"] (defScope sAllW) := ⟨rfl, rfl, rfl, by decide +kernel, rfl, by decide +kernel, by decide +kernel⟩
theorem ok_allW (F : Fun K "all_ways" "all_ways" sAllW f fd) (B : Bnds mg) (NH : Cal P w K mg base 4 "need_height" spNeedHt) (NB : Cal P w K mg base 3 "need_between" spNeedB') (WB : Cal P w K mg base 1 "ways_between" (spWays K)) : FnOk P w K mg base CX0 5 f fd ["start", "stop", "many"] (spWays K) := by
  refine F.ok scAllW (fun vs H Q E h => ?_) (fun cdv A outer s H vs Q E hr h => ?_)
  · obtain ⟨b, e, m, rfl, _⟩ := h
    rfl
  · obtain ⟨b, e, m, rfl, b0, b4, e0, e4, m8, kk⟩ := h
    obtain ⟨t8, g8⟩ := B.m8
    refine ⟨_, pss_cons (ps_expr (pe_n NH hr (by decide) (by rfl) (pa_cons (pv 0) pa_nil))) (pss_cons (ps_expr (pe_n NH hr (by decide) (by rfl) (pa_cons (pv 1) pa_nil)))
      (pss_one (ps_ret (pe_n WB hr (by decide) (by rfl) (pa_cons (pv 0) (pa_cons (pv 1) (pa_cons (pe_n NB hr (by decide) (by rfl) (pa_cons (pv 2) (pa_cons pe_int (pa_cons (pe_glob (v := .int 8) (by rfl) g8 ⟨t8, rfl⟩) pa_nil)))) pa_nil))))))), ?_⟩
    exact ⟨_, rfl, b, rfl, b0, b4, _, rfl, e, rfl, e0, e4, _, rfl, _, rfl, _, rfl, (m : Int), 0, 8, rfl, by omega, by omega, b, e, m, rfl, b0, b4, e0, e4, m8, kk⟩
theorem scLWays : FnScope NLw ["start", "stop", "many"] (defScope sLWays) := ⟨rfl, rfl, rfl, by decide +kernel, rfl, by decide +kernel, by decide +kernel⟩
theorem ok_lways (F : Fun K "_law_ways" "_law_ways" sLWays f fd) (T : Blt mg) : FnOk P w K mg base CX0 1 f fd ["start", "stop", "many"] (spLWays K) := by
  refine F.ok scLWays (fun vs H Q E h => ?_) (fun cdv A outer s H vs Q E hr h => ?_)
  · obtain ⟨b, e, m, rfl, _⟩ := h
    rfl
  · obtain ⟨b, e, m, rfl, b0, b4, e0, e4, m8, kk⟩ := h
    refine ⟨_, pss_cons (ps_set (i := 3) scLWays.nd rfl (Or.inl rfl) (pe_lst (pa_cons (pe_tup (pa_cons (pe_tup pa_nil) (pa_cons (pv 0) pa_nil))) pa_nil)))
      (C8.pss_cut (ps_for PassesOwn.never rfl (pi_range3 (by rfl) T.range (pa_cons (pe_op op_sub (pv 2) pe_int) (pa_cons (pe_un un_neg pe_int) (pa_cons (pe_un un_neg pe_int) pa_nil)))) (pg_name (i := 4) scLWays.nd rfl (.inr rfl))
        (pss_cons (ps_set (i := 5) scLWays.nd rfl (Or.inl rfl) (pe_lst pa_nil))
        (C8.pss_cut (ps_for PassesOwn.never rfl (pi_list (pv 3)) (pg_tup rfl (pgs_cons (pg_name (i := 6) scLWays.nd rfl (.inr rfl)) (pgs_cons (pg_name (i := 7) scLWays.nd rfl (.inr rfl)) pgs_nil)))
          (C8.pss_cut (ps_setLc (i := 8) (own := [("step", 9)]) (g := gName 9) (tt := tTest (tOp rGe (tOp rAdd (tVar 7) (tVar 9)) (tC (.int 0)))) (by rfl) scLWays.nd rfl rfl (sw_true rfl rfl rfl (by decide +kernel)) (pi_tup (pe_tup (pa_cons (pe_un un_neg pe_int) (pa_cons pe_int (pa_cons pe_int pa_nil))))) (blkOk_by (N := NLw) (sc := defScope sLWays) (by decide +kernel))
              (fun _ _ _ _ _ => pg_name (i := 9) scLWays.nd rfl (Or.inl rfl)) (fun _ _ _ _ _ => pts_one (pt_cmpR op_ge (pe_op op_add (pv 7) (pv 9)) pe_int (nomark _))) (fun _ _ _ _ _ => pv 9))
          (pss_one (ps_expr (pe_bm PySem.F.plainAttrs_list PySem.F.slot_list_extend PySem.F.type_list_extend mt_extend (pv 5) (pa_cons (pe_lc (own := [("step", 9)]) (g := gName 9) (tt := tTest (tOp rLe (tCB rAbs' (tCons (tOp rSub (tOp rAdd (tVar 7) (tVar 9)) (tVar 1)) tNil)) (tVar 4))) rfl scLWays.nd (pi_list (pv 8)) (blkOk_by (N := NLw) (sc := defScope sLWays) (by decide +kernel))
              (fun _ _ _ _ _ => pg_name (i := 9) scLWays.nd rfl (Or.inl rfl)) (fun _ _ _ _ _ => pts_one (pt_cmpR op_le (pe_callB call_abs (by rfl) T.abs (by decide +kernel) (pa_cons (pe_op op_sub (pe_op op_add (pv 7) (pv 9)) (pv 1)) pa_nil)) (pv 4) (nomark _)))
              (fun _ _ _ _ _ => pe_tup (pa_cons (pe_op (r := rCatA K) op_catA (pv 6) (pe_tup (pa_cons (pv 9) pa_nil))) (pa_cons (pe_op (r := rAdd) op_add (pv 7) (pv 9)) pa_nil)))) pa_nil))))))
        (pss_one (ps_set (i := 3) scLWays.nd rfl (Or.inl rfl) (pe_callTy call_list_of (by rfl) T.list (by decide +kernel) (pa_cons (pv 5) pa_nil)))))))
      (pss_one (ps_ret (pe_lc (own := [("way", 6), ("here", 7)]) (g := gTup K 2 (gCons (gName 6) (gCons (gName 7) gNil))) (tt := tTest (tOp rEq (tVar 7) (tVar 1))) rfl scLWays.nd (pi_list (pv 3)) (blkOk_by (N := NLw) (sc := defScope sLWays) (by decide +kernel))
          (fun _ _ _ _ _ => pg_tup rfl (pgs_cons (pg_name (i := 6) scLWays.nd rfl (.inl rfl)) (pgs_cons (pg_name (i := 7) scLWays.nd rfl (.inl rfl)) pgs_nil))) (fun _ _ _ _ _ => pts_one (pt_cmpR op_eq (pv 7) (pv 1) (nomark _)))
          (fun _ _ _ _ _ => pv 6))))), ?_⟩
    refine ⟨(by show 0 ≤ sizeLine; decide), fun p1 hp1 => ⟨_, rfl, (by show 2 ≤ sizeLine; decide), fun p2 hp2 => ⟨(by show 1 ≤ sizeLine; decide), fun L hL => ?_⟩⟩⟩
    have u1 := same_new (o := .tup []) hp1
    have u2 := same_new (o := .tup [.ref p1, .int b]) hp2
    have u3 := same_new (o := .lst [.ref p2]) hL
    have w0 : Al (Wr K (upd (upd (upd H p1 (.tup [])) p2 (.tup [.ref p1, .int b])) L (.lst [.ref p2]))) [V.ref p2] (grown b e m 0) := .cons ⟨p2, .ref p1, rfl, SqT.of (u3 _ _ upd_same), p1, rfl, SqT.of (u3 _ _ (u2 _ _ upd_same))⟩ .nil
    have us := u1.trans (u2.trans u3)
    have g0 : upd (upd (upd H p1 (.tup [])) p2 (.tup [.ref p1, .int b])) L (.lst [.ref p2]) L = some (.lst [.ref p2]) := upd_same
    generalize upd (upd (upd H p1 (.tup [])) p2 (.tup [.ref p1, .int b])) L (.lst [.ref p2]) = H1 at *
    refine ⟨fun σ H2 => Same H H2 ∧ ∃ L vs v4 v5 v6 v7 v8, H2 L = some (.lst vs) ∧ Al (Wr K H2) vs (grown b e m m) ∧ σ = [some (V.int b), some (V.int e), some (V.int m), some (V.ref L), v4, v5, v6, v7, v8, none], ?_, ?_⟩
    · refine ⟨_, rfl, _, _, rfl, rfl, _, rfl, _, rfl, _, _, _, ((m : Int) - 1 - (-1)).toNat, rfl, RgC.neg (by omega) (by omega) (by decide) (by decide), ?_⟩
      have em : ((m : Int) - 1 - (-1)).toNat = m := by omega
      rw [em]
      refine for_rangeC (n := m) (fun i σ H2 => Same H H2 ∧ ∃ L vs v4 v5 v6 v7 v8, H2 L = some (.lst vs) ∧ Al (Wr K H2) vs (grown b e m i) ∧ σ = [some (V.int b), some (V.int e), some (V.int m), some (V.ref L), v4, v5, v6, v7, v8, none])
        ⟨us, L, _, none, none, none, none, none, g0, w0, rfl⟩ ?_ (fun _ _ q => q)
      rintro i σ H2 hi ⟨s2, L2, vs, v4, v5, v6, v7, v8, gL, al, rfl⟩
      have len1 := al.len
      have len2 := grown_len b e m i
      have len3 := p3le (k := i) (by omega)
      have le : (m : Int) - 1 + (i : Int) * -1 = (m : Int) - 1 - i := by omega
      rw [le]
      refine ⟨(by show 0 ≤ sizeLine; decide), fun L3 hL3 => ?_⟩
      have u4 := same_new (o := .lst []) hL3
      have n23 : L2 ≠ L3 := ne_of_none gL hL3
      have s3 := s2.trans u4
      have hN : H L3 = none := s2.free hL3
      refine ⟨fun σ H3 => Same H H3 ∧ ∃ us v6 v7 v8, H3 L3 = some (.lst us) ∧ Al (Wr K H3) us (grow ((m : Int) - 1 - i) e (grown b e m i)) ∧ σ = [some (V.int b), some (V.int e), some (V.int m), some (V.ref L2), some (V.int ((m : Int) - 1 - i)), some (V.ref L3), v6, v7, v8, none], ?_, ?_⟩
      · refine ⟨_, rfl, L2, rfl, ⟨_, SqL.of (u4 _ _ gL)⟩, for_list (K := K) (a := L2) (xs := vs) (fun j σ H3 => Same H H3 ∧ H3 L2 = some (.lst vs) ∧ Al (Wr K H3) vs (grown b e m i) ∧ ∃ us v6 v7 v8, H3 L3 = some (.lst us) ∧ Al (Wr K H3) us (grow ((m : Int) - 1 - i) e ((grown b e m i).take j)) ∧ σ = [some (V.int b), some (V.int e), some (V.int m), some (V.ref L2), some (V.int ((m : Int) - 1 - i)), some (V.ref L3), v6, v7, v8, none])
          ⟨s3, u4 _ _ gL, al.imp fun _ _ z => z.mono u4, [], v6, v7, v8, upd_same, .nil, rfl⟩ (fun j σ H3 _ q => SqL.of q.2.1) ?_ ?_⟩
        · rintro j x σ H3 hx ⟨s4, g2, al3, us, v6, v7, v8, g3, au, rfl⟩
          obtain ⟨r, hr, pw, uw, rfl, sp, iw⟩ := al3.get hx
          have gr := grown_gr (e := e) b0 m i r (List.mem_of_getElem? hr)
          have lenu := au.len
          have lj : (grow ((m : Int) - 1 - i) e ((grown b e m i).take j)).length ≤ 19683 := by
            have := grow_len ((m : Int) - 1 - i) e ((grown b e m i).take j)
            rw [List.length_take] at this
            omega
          have st := grow_step ((m : Int) - 1 - i) e hr
          refine ⟨pw, _, rfl, sp, rfl, _, _, rfl, _, _, rfl, rfl, ?_⟩
          refine ⟨fun σ H4 => Same H3 H4 ∧ ∃ D, H4 D = some (.lst ((([-1, 0, 1] : List Int).filter (upB r)).map V.int)) ∧ H3 D = none ∧ σ = [some (V.int b), some (V.int e), some (V.int m), some (V.ref L2), some (V.int ((m : Int) - 1 - i)), some (V.ref L3), some uw, some (V.int r.2), some (V.ref D), none], ?_, ?_⟩
          · refine ⟨_, rfl, (by show 3 ≤ sizeLine; decide), fun p5 hp5 => ?_⟩
            have u5 := same_new (o := .tup [.int (-1), .int 0, .int 1]) hp5
            refine ⟨p5, rfl, ⟨_, SqT.of upd_same⟩, fun D hD => lc_tup (K := K) (a := p5) (xs := ([-1, 0, 1] : List Int).map V.int) (fun k H4 => Same (upd H3 p5 (.tup [.int (-1), .int 0, .int 1])) H4 ∧ H4 D = some (.lst (((([-1, 0, 1] : List Int).take k).filter (upB r)).map V.int)))
              ⟨same_new hD, upd_same⟩ (fun k H4 _ q => SqT.of (q.1 _ _ upd_same)) ?_ ?_⟩
            · rintro k x H4 hk ⟨s5, g5⟩
              obtain ⟨s, hs, rfl⟩ := ints_at hk
              refine ⟨rfl, _, rfl, _, rfl, _, _, rfl, rfl, _, _, rfl, rfl, _, rfl, ?_⟩
              have l3 : ((([-1, 0, 1] : List Int).take k).filter (upB r)).length ≤ 3 := by
                refine Nat.le_trans (List.length_filter_le _ _) ?_
                rw [List.length_take]
                exact Nat.min_le_right _ _
              refine if_in (c := upB r s) rfl (fun c => ?_) (fun c => ?_)
              · refine ⟨_, rfl, _, g5, small1000 (by rw [List.length_map]; omega), fun c o z => (upd_ne (ne_of_none z hD)).trans (s5 c o z), ?_⟩
                rw [upd_same, take_one hs, List.filter_append, List.map_append, List.filter_cons, if_pos c]
                rfl
              · refine ⟨s5, ?_⟩
                rw [g5, take_one hs, List.filter_append, List.map_append, List.filter_cons, if_neg (by rw [c]; decide), List.filter_nil, List.map_nil, List.append_nil]
            · rintro H4 ⟨s5, g5⟩
              have hn : H3 D = none := by
                cases z : H3 D with
                | none => rfl
                | some o =>
                  have := u5 _ _ z
                  rw [hD] at this
                  cases this
              exact ⟨u5.trans s5, D, g5, hn, rfl⟩
          · rintro σ H4 ⟨s5, D, gD, hD3, rfl⟩
            obtain ⟨qa, rfl, sqa⟩ := iw
            refine ⟨_, rfl, .inl ⟨rfl, _, SqL.of (s5 _ _ g3)⟩, _, rfl, D, rfl, ⟨_, SqL.of gD⟩, fun D2 hD2 => lc_list (K := K) (a := D) (xs := (([-1, 0, 1] : List Int).filter (upB r)).map V.int) (fun k H5 => Same H4 H5 ∧ ∃ zs, H5 D2 = some (.lst zs) ∧ Al (Wr K H5) zs ((((([-1, 0, 1] : List Int).filter (upB r)).take k).filter (nearB ((m : Int) - 1 - i) e r)).map (put r)))
              ⟨same_new hD2, [], upd_same, .nil⟩ (fun k H5 _ q => SqL.of (q.1 _ _ gD)) ?_ ?_⟩
            · rintro k x H5 hk ⟨s6, zs, g6, az⟩
              obtain ⟨s, hs, rfl⟩ := ints_at hk
              refine ⟨rfl, _, rfl, _, rfl, _, _, rfl, rfl, _, rfl, _, _, rfl, rfl, _, rfl, _, rfl, _, _, rfl, rfl, _, rfl, ?_⟩
              have lz := az.len
              have l3 : ((((([-1, 0, 1] : List Int).filter (upB r)).take k).filter (nearB ((m : Int) - 1 - i) e r)).map (put r)).length ≤ 3 := by
                rw [List.length_map]
                refine Nat.le_trans (List.length_filter_le _ _) ?_
                rw [List.length_take]
                exact Nat.le_trans (Nat.min_le_right _ _) (List.length_filter_le _ _)
              refine if_in (c := nearB ((m : Int) - 1 - i) e r s) rfl (fun c => ?_) (fun c => ?_)
              · refine ⟨_, rfl, _, rfl, (by show 1 ≤ sizeLine; decide), fun p6 hp6 => ?_⟩
                have u6 := same_new (o := .tup [.int s]) hp6
                refine cat_any (Bs.Same.t (s5.trans (s6.trans u6)) sqa) (SqT.of upd_same) ?_ fun c7 H6 u7 s7 => ?_
                · rw [List.length_map, gr.n]
                  exact Nat.le_of_lt (small1000 (by show i + 1 ≤ 1000; omega))
                · refine ⟨_, rfl, _, rfl, _, _, rfl, rfl, (by show 2 ≤ sizeLine; decide), fun p8 hp8 => ?_⟩
                  have u8 := same_new (o := .tup [.ref c7, .int (r.2 + s)]) hp8
                  have ua := u6.trans (u7.trans u8)
                  have gD2 := ua _ _ g6
                  have sc := Bs.Same.t u8 s7
                  rw [show r.1.map V.int ++ [V.int s] = (r.1 ++ [s]).map V.int from by rw [List.map_append]; rfl] at sc
                  refine ⟨zs, gD2, small1000 (by omega), fun c o z => (upd_ne (ne_of_none z hD2)).trans (ua _ _ (s6 c o z)), zs ++ [.ref p8], upd_same, ?_⟩
                  rw [take_one hs, List.filter_append, List.map_append, one_more (nearB ((m : Int) - 1 - i) e r) (put r) s, if_pos c]
                  exact (az.imp fun _ _ z => (z.mono ua).off gD2).snoc ⟨p8, .ref c7, rfl, sqT_off gD2 (SqT.of upd_same), c7, rfl, sqT_off gD2 sc⟩
              · refine ⟨s6, zs, g6, ?_⟩
                rw [take_one hs, List.filter_append, List.map_append, one_more (nearB ((m : Int) - 1 - i) e r) (put r) s, if_neg (by rw [c]; decide), List.append_nil]
                exact az
            · rintro H5 ⟨s6, zs, g6, az⟩
              rw [List.length_map, List.take_length, ext_two] at az
              have s46 := s5.trans s6
              have gL3 := s46 _ _ g3
              have lz := az.len
              have lx := ext_len ((m : Int) - 1 - i) e r
              refine ⟨L3, D2, us, zs, rfl, rfl, gL3, g6, (by have := sizeLine_eq; omega), ?_⟩
              have n2 : L2 ≠ L3 := n23
              refine ⟨fun c o z => (upd_ne (ne_of_none z hN)).trans (s46 _ _ (s4 c o z)), (upd_ne n2).trans (s46 _ _ g2), al3.imp fun _ _ z => (z.mono s46).off gL3, us ++ zs, _, _, _, upd_same, ?_, rfl⟩
              rw [st]
              exact ((au.imp fun _ _ z => z.mono s46).app az).imp fun _ _ z => z.off gL3
        · rintro σ H3 ⟨s4, g2, al3, us, v6, v7, v8, g3, au, rfl⟩
          rw [len1, List.take_length] at au
          exact ⟨s4, us, v6, v7, v8, g3, au, rfl⟩
      · rintro σ H3 ⟨s4, us, v6, v7, v8, g3, au, rfl⟩
        refine ⟨_, rfl, L3, us, rfl, .inl (SqL.of g3), fun p9 hp9 => ?_⟩
        have u9 := same_new (o := .lst us) hp9
        exact ⟨s4.trans u9, p9, us, _, _, _, _, _, upd_same, au.imp fun _ _ z => z.mono u9, rfl⟩
    · rintro σ H2 ⟨s2, L2, vs, v4, v5, v6, v7, v8, gL, al, rfl⟩
      have len1 := al.len
      have len2 := grown_len b e m m
      have len3 := p3le (k := m) m8
      refine ⟨_, rfl, L2, rfl, ⟨_, SqL.of gL⟩, fun D hD => lc_list (K := K) (a := L2) (xs := vs) (fun j H3 => Same H2 H3 ∧ ∃ us, H3 D = some (.lst us) ∧ Al (It K H3) us (ends e ((grown b e m m).take j))) ⟨same_new hD, [], upd_same, .nil⟩ (fun j H3 _ q => SqL.of (q.1 _ _ gL)) ?_ ?_⟩
      · rintro j x H3 hx ⟨s3, us, g3, au⟩
        obtain ⟨r, hr, pw, uw, rfl, sp, iw⟩ := al.get hx
        have lenu := au.len
        have tk := take_one hr
        have lj : (ends e ((grown b e m m).take j)).length ≤ 6561 := by
          unfold ends
          rw [List.length_map]
          refine Nat.le_trans (List.length_filter_le _ _) ?_
          rw [List.length_take]
          omega
        refine ⟨pw, _, rfl, Bs.Same.t s3 sp, rfl, _, _, rfl, _, _, rfl, rfl, rfl, ?_⟩
        refine ⟨_, rfl, _, rfl, rfl, _, rfl, ?_⟩
        have iw3 := iw.mono s3
        by_cases c : r.2 = e
        · rw [show decide (V.int r.2 = V.int e) = true from decide_eq_true (by rw [c])]
          refine iteT ⟨_, rfl, us, g3, small8000 (by omega), fun c o z => (upd_ne (ne_of_none z hD)).trans (s3 c o z), us ++ [uw], upd_same, ?_⟩
          rw [tk]
          unfold ends
          rw [List.filter_append, List.map_append, List.filter_cons, if_pos (decide_eq_true c)]
          exact (au.imp fun _ _ z => z.off g3).snoc (iw3.off g3)
        · rw [show decide (V.int r.2 = V.int e) = false from decide_eq_false fun z => c (V.int.inj z)]
          refine iteF ⟨s3, us, g3, ?_⟩
          rw [tk]
          unfold ends
          rw [List.filter_append, List.map_append, List.filter_cons, if_neg (by rw [decide_eq_false c]; decide), List.filter_nil, List.map_nil, List.append_nil]
          exact au
      · rintro H3 ⟨s3, us, g3, au⟩
        rw [len1, List.take_length] at au
        exact kk _ _ (s2.trans s3) ⟨D, us, rfl, SqL.of g3, au⟩
end
end Rs


set_option Elab.async false
set_option linter.all false
set_option maxRecDepth 100000
set_option maxHeartbeats 1000000
namespace Rs
open PySem L2 Bs Fq LamX RZ
/-! ### the error of the family of KeyError -/
abbrev OexK (K : PySem.W.Frag) (C : Addr) : Prop := OxF.OexF K OxF.keN OxF.keT C
structure ErrK (K : PySem.W.Frag) (mg : Str → Option Value) (x qual fld : Str) (st : Stmt) (C : Addr) : Prop where
  gC : mg x = some (.ref C)
  oex : OexK K C
  xf : XfC K C
  no : PySem.W.findIn K (.ref C) fld = some none
  eq : PySem.W.exmOne K (.ref C) (.ref C) = some true
  ini : ∃ (fI : Addr) (fd : FuncData), PySem.W.findIn K (.ref C) "__init__" = some (some (.ref fI)) ∧ PySem.W.typeIn K (.ref fI) = some (.type "function") ∧ Fun K "__init__" qual st fI fd ∧ Binds K fd ["self", fld] []
structure ErrOkK (P : Program) (w : World) (K : PySem.W.Frag) (mg : Str → Option Value) (base : Heap) (x fld : Str) (C : Addr) : Prop where
  gC : mg x = some (.ref C)
  oex : OexK K C
  ini : ∃ (fI : Addr) (fd : FuncData), PySem.W.findIn K (.ref C) "__init__" = some (some (.ref fI)) ∧ PySem.W.typeIn K (.ref fI) = some (.type "function") ∧ FnOk P w K mg base CX0 1 fI fd ["self", fld] (spInitW K C fld) ∧ Binds K fd ["self", fld] []
abbrev sIMi : Stmt := inClass (top 11) 0
section
variable {P : Program} {w : World} {K : PySem.W.Frag} {mg : Str → Option Value} {base : Heap} {f : Addr} {fd : FuncData}
theorem scIMi : FnScope ["self", "given"] ["self", "given"] (defScope sIMi) := ⟨rfl, rfl, rfl, by decide +kernel, rfl, by decide +kernel, by decide +kernel⟩
theorem ok_iMi {C : Addr} {q : Str} (F : Fun K "__init__" q sIMi f fd) (T : OexK K C) (no : PySem.W.findIn K (.ref C) "given" = some none) : FnOk P w K mg base CX0 1 f fd ["self", "given"] (spInitW K C "given") := by
  refine F.ok scIMi (fun vs H Q E h => ?_) (fun cdv A outer s H vs Q E hr h => ?_)
  · obtain ⟨a, y, rfl, _⟩ := h
    rfl
  · obtain ⟨a, y, rfl, ha, k⟩ := h
    exact ⟨_, pss_one (OxF.ps_setF OxF.famK (pv 0) (pv 1)), _, rfl, _, rfl, a, C, rfl, T, no, ha, fun dx n1 n2 => k dx n1 n2⟩
theorem ErrK.okM {x q : Str} {C : Addr} (T : ErrK K mg x q "given" sIMi C) : ErrOkK P w K mg base x "given" C := by
  obtain ⟨fI, fd, a, b, F, bi⟩ := T.ini
  exact ⟨T.gC, T.oex, fI, fd, a, b, ok_iMi F T.oex T.no, bi⟩
end
theorem ps_rzK {X : Cx} {x fld : Str} {C : Addr} {j : Nat} {e : Expr} {te : TE} {W : WX} {p pos pos2 : Pos} (hc : X.calm = true) (T : ErrOkK X.prog X.w X.K X.mg X.base x fld C) (hr : Room j X.A) (hj : 2 ≤ j) (tk : Takes X W) (he : PE X e te) (hg : Gl X x)
    (hdb : (x == ("__debug__" : Str)) = false := by decide) (hs : starEach (e :: []) X.env = (false, eval e X.env) :: starEach [] X.env := by rfl) (hpl : (backTo pos (starEach [] X.env)).any (·.1) = false := by rfl) :
    PS X (.Raise (some (.Call (.Name x p) [e] [] pos)) none pos2) (tRzW C fld W te) := by
  obtain ⟨fI, fd, iC, tI, F1, b⟩ := T.ini
  have h := ps_raise (pos := pos2) hc tk (OxF.pmkF (x := x) (p := p) (pos := pos) OxF.famK T.oex iC tI F1 (hr.mono hj) b pass0 hg T.gC (pa_cons (pe_weak he) pa_nil hs) hdb hs hpl)
  constructor
  intro pins s σ H D I q
  refine h.run pins s σ H D I ?_
  refine ⟨_, q, fun v H1 z => ?_⟩
  refine ⟨(by show 1 ≤ 1000; decide), fun a ha => ⟨a, v, rfl, upd_same, fun dx n1 n2 => ⟨rfl, dx, [(fld, v)], upd_same, ?_, ?_, ?_⟩⟩⟩
  · rw [upd_ne n2]
    exact upd_same
  · rw [upd_ne n2] at n1
    exact n1
  · rw [upd_ne n2] at n1
    show W _ _ _ (upd (del _ a) dx _)
    rw [heap_end ha n2]
    exact z dx n1
/-! ### worths -/
def Wv (K : PySem.W.Frag) (H : Hp) (u : V) : Option F → Prop
  | none => u = .non
  | some q => Fr K H u q
/-- a list of at most one -/
def Lo (K : PySem.W.Frag) (H : Hp) (u : V) (o : Option F) : Prop := ∃ a, u = .ref a ∧ match o with | none => SqL K H a [] | some q => ∃ v, SqL K H a [v] ∧ Fr K H v q
structure Args (K : PySem.W.Frag) (H : Hp) (vL v : V) (T : F) (ls ss : List F) (b : Int) (w : List Int) : Prop where
  lad : Lad K H vL T ls ss
  it : It K H v w
  way : Way b w
  len : w.length ≤ 8
  zl : Za 1 ls
  zs : Za 1 ss
theorem Args.mono {K : PySem.W.Frag} {H H' : Hp} {vL v : V} {T : F} {ls ss : List F} {b : Int} {w : List Int} (A : Args K H vL v T ls ss b w) (e : Same H H') : Args K H' vL v T ls ss b w := ⟨A.lad.mono e, A.it.mono e, A.way, A.len, A.zl, A.zs⟩
abbrev sWorthBy : Stmt := top 36
abbrev sWayWorth : Stmt := top 37
abbrev sLEnded : Stmt := top 45
abbrev sLWorth : Stmt := top 48
def spWorthBy (K : PySem.W.Frag) : Sp := fun vs H Q _ => ∃ (vL v : V) (T : F) (ls ss : List F) (b : Int) (w : List Int), vs = [vL, .int b, v] ∧ Args K H vL v T ls ss b w ∧ ∀ H' u, Same H H' → Wv K H' u (wv (endB ss) ls ss b w) → Q u H'
def spNL (K : PySem.W.Frag) : Sp := fun vs H Q _ => ∃ (v : V) (d : PyData), vs = [v] ∧ Dp K H v d ∧ ladderD d = true ∧ ∀ H', Same H H' → Q v H'
def spWayWorth (K : PySem.W.Frag) (C : Addr) : Sp := fun vs H Q E => ∃ (vL v : V) (T : F) (ls ss : List F) (b : Int) (w : List Int), vs = [vL, .int b, v] ∧ Args K H vL v T ls ss b w ∧ ladderD (dL T ls ss) = true ∧ 0 ≤ b ∧ b ≤ 4 ∧
  (∀ q, wv (endB ss) ls ss b w = some q → ∀ H' u, Same H H' → Fr K H' u q → Q u H') ∧ (wv (endB ss) ls ss b w = none → ∀ H', Same H H' → OutW E C "given" v H')
def spOpt (K : PySem.W.Frag) : Sp := fun vs H Q _ => ∃ (vL v : V) (T : F) (ls ss : List F) (b : Int) (w : List Int), vs = [vL, .int b, v] ∧ Args K H vL v T ls ss b w ∧ ladderD (dL T ls ss) = true ∧ 0 ≤ b ∧ b ≤ 4 ∧
  ∀ H' u, Same H H' → Lo K H' u (wv (endB ss) ls ss b w) → Q u H'
theorem co_at {xs : List V} {qs : List F} {K : PySem.W.Frag} {H : Hp} (f : FrAll K H xs qs) {h : Int} (h0 : 0 ≤ h) (h1 : h < qs.length) : ∃ v, atI xs h = some v ∧ Fr K H v (co qs h.toNat) := by
  obtain ⟨v, q, e1, e2, e3⟩ := f.get (i := h.toNat) (by omega)
  refine ⟨v, ?_, ?_⟩
  · obtain ⟨n, rfl⟩ : ∃ n : Nat, h = n := ⟨h.toNat, by omega⟩
    exact atI_nat e1
  · rw [co_get e2]
    exact e3
theorem getD_of {w : List Int} {i : Nat} {s : Int} (h : w[i]? = some s) : w.getD i 0 = s := by
  rw [List.getD_eq_getElem?_getD, h]
  rfl
theorem hgt_succ (b : Int) {w : List Int} {i : Nat} {s : Int} (h : w[i]? = some s) : hgt b (w.take (i + 1)) = hgt b (w.take i) + s := by
  rw [take_one h]
  unfold hgt
  rw [List.sum_append]
  simp
  omega
theorem over_iff {ls : List F} {b : Int} {w : List Int} {m : Int} (h1 : m ∈ hts b w) (h2 : ∀ y ∈ hts b w, y ≤ m) : over ls b w ↔ (ls.length : Int) ≤ m :=
  ⟨fun ⟨h, hm, hl⟩ => Int.le_trans hl (h2 h hm), fun h => ⟨m, h1, h⟩⟩
abbrev NWb : List Str := ["ladder", "start", "way", "total", "levels", "steps", "heights", "worth", "height", "step"]
section
variable {P : Program} {w : World} {K : PySem.W.Frag} {mg : Str → Option Value} {base : Heap} {f : Addr} {fd : FuncData} {CM : Addr}
theorem scWorthBy : FnScope NWb ["ladder", "start", "way"] (defScope sWorthBy) := ⟨rfl, rfl, rfl, by decide +kernel, rfl, by decide +kernel, by decide +kernel⟩
theorem ok_worthBy (F : Fun K "worth_by" "worth_by" sWorthBy f fd) (T : Blt mg) (Z : Nou K mg) (O : OneG K mg) (zp : mg "zip" = none) (mx : mg "max" = none) (HB : Cal P w K mg base 1 "heights_by" (spHts K)) (HE : Cal P w K mg base 1 "has_end" (spHasEnd K)) (TI : Cal P w K mg base 2 "timed" (spOp K mul dom2)) :
    FnOk P w K mg base CX0 3 f fd ["ladder", "start", "way"] (spWorthBy K) := by
  refine F.ok scWorthBy (fun vs H Q E h => ?_) (fun cdv A outer s H vs Q E hr h => ?_)
  · obtain ⟨vL, v, T0, ls, ss, b, w, rfl, _⟩ := h
    rfl
  · obtain ⟨vL, v, T0, ls, ss, b, w, rfl, ⟨⟨a, v1, v2, v3, rfl, sq, f1, ⟨a2, xs, rfl, sx, fx⟩, ⟨a3, ys, rfl, sy, fy⟩⟩, ⟨aw, rfl, sw⟩, W, lw, zl, zs⟩, kk⟩ := h
    obtain ⟨z, mz, sz⟩ := Z.ex
    obtain ⟨o, mo, so⟩ := O.ex
    have lx := fx.len
    have ly := fy.len
    refine ⟨_, pss_cons (ps_asg (pv 0) (pg_tup rfl (pgs_cons (pg_name (i := 3) scWorthBy.nd rfl (.inl rfl)) (pgs_cons (pg_name (i := 4) scWorthBy.nd rfl (.inl rfl)) (pgs_cons (pg_name (i := 5) scWorthBy.nd rfl (.inl rfl)) pgs_nil)))))
      (pss_cons (ps_set (i := 6) scWorthBy.nd rfl (Or.inl rfl) (pe_n HB hr (by decide) (by rfl) (pa_cons (pv 1) (pa_cons (pv 2) pa_nil))))
      (C8.pss_cut (ps_if (PW.pt (pw_and (pt_val (pe_n HE hr (by decide) (by rfl) (pa_cons (pv 0) pa_nil))) (pw_and1 (pt_cmpR op_ge (pe_callB (MxT.cr_mxT rfl) (by rfl) mx (by decide +kernel) (pa_cons (pv 6) pa_nil)) (pe_callB call_len_seq (by rfl) T.len (by decide +kernel) (pa_cons (pv 4) pa_nil)) (nomark _))))) (pss_one (ps_ret (pe_glob (v := .ref z) (by rfl) mz rfl))) pss_nil)
      (pss_cons (ps_set (i := 7) scWorthBy.nd rfl (Or.inl rfl) (pe_glob (v := .ref o) (by rfl) mo rfl))
      (pss_cons (ps_for PassesOwn.never rfl (pi_zipA (by rfl) zp (pa_cons (pv 6) (pa_cons (pv 2) pa_nil))) (pg_tup rfl (pgs_cons (pg_name (i := 8) scWorthBy.nd rfl (.inl rfl)) (pgs_cons (pg_name (i := 9) scWorthBy.nd rfl (.inl rfl)) pgs_nil)))
        (pss_one (ps_if (pt_cmpR op_eq (pv 9) pe_int (nomark _))
          (pss_cons (ps_if (pt_cmpR op_ge (pv 8) (pe_callB call_len_seq (by rfl) T.len (by decide +kernel) (pa_cons (pv 4) pa_nil)) (nomark _)) (pss_one (ps_ret pe_non)) pss_nil)
            (pss_one (ps_set (i := 7) scWorthBy.nd rfl (Or.inl rfl) (pe_n TI hr (by decide) (by rfl) (pa_cons (pv 7) (pa_cons (pe_ix ix_tup (pv 4) (pv 8) (fun _ _ => rfl)) pa_nil))))))
          (pss_one (ps_if (pt_cmpR op_eq (pv 9) (pe_un un_neg pe_int) (nomark _))
            (pss_cons (ps_if (pt_cmpR op_gt (pv 8) (pe_callB call_len_seq (by rfl) T.len (by decide +kernel) (pa_cons (pv 5) pa_nil)) (nomark _)) (pss_one (ps_ret pe_non)) pss_nil)
              (pss_one (ps_set (i := 7) scWorthBy.nd rfl (Or.inl rfl) (pe_n TI hr (by decide) (by rfl) (pa_cons (pv 7) (pa_cons (pe_ix ix_tup (pv 5) (pe_op op_sub (pv 8) pe_int) (fun _ _ => rfl)) pa_nil)))))) pss_nil)))))
      (pss_one (ps_ret (pv 7))))))), ?_⟩
    refine ⟨_, rfl, a, _, rfl, sq, rfl, _, _, rfl, _, _, rfl, _, _, rfl, rfl, ?_⟩
    refine ⟨_, rfl, _, rfl, b, _, w, rfl, ⟨aw, rfl, sw⟩, by omega, fun H1 u s1 hu => ?_⟩
    obtain ⟨ah, rfl, sh⟩ := hu
    have lad1 : Lad K H1 (.ref a) T0 ls ss := ⟨a, v1, _, _, rfl, Bs.Same.t s1 sq, f1.mono s1, ⟨a2, xs, rfl, Bs.Same.t s1 sx, fx.mono s1⟩, ⟨a3, ys, rfl, Bs.Same.t s1 sy, fy.mono s1⟩⟩
    refine ⟨fun σ H2 => H2 = H1 ∧ ¬ (endB ss = true ∧ over ls b w) ∧ σ = [some (V.ref a), some (V.int b), some (V.ref aw), some v1, some (V.ref a2), some (V.ref a3), some (V.ref ah), none, none, none], ?_, ?_⟩
    · refine ⟨_, rfl, _, T0, ls, ss, rfl, lad1, _, rfl, ?_⟩
      cases e : endB ss with
      | false => exact iteF ⟨rfl, (fun z => by cases z.1), rfl⟩
      | true =>
        refine iteT ⟨_, rfl, ah, _, rfl, sh, (fun z => by
          have := congrArg List.length z
          rw [hts_len] at this
          cases this), fun m hm hy => ⟨_, rfl, a2, xs, rfl, .inr (Bs.Same.t s1 sx), _, _, rfl, rfl, _, rfl, ?_⟩⟩
        have oi := over_iff (ls := ls) hm hy
        rw [lx]
        refine ite2 (fun c => ?_) (fun c => ⟨rfl, fun z => c (decide_eq_true (oi.mp z.2)), rfl⟩)
        refine kk H1 _ s1 ?_
        unfold wv
        rw [if_pos ⟨e, oi.mpr (of_decide_eq_true c)⟩]
        exact ⟨z, rfl, sz H1⟩
    · rintro σ H2 ⟨rfl, nov, rfl⟩
      refine ⟨_, rfl, _, rfl, ah, aw, _, _, rfl, .inr ⟨sh, Bs.Same.t s1 sw, ?_⟩⟩
      refine for_it (walk_zipT (xs := (hts b w).map V.int) (ys := w.map V.int) (n := w.length) (by rw [List.length_map, List.length_map, hts_len]; omega)) (fun i σ H3 => Same H2 H3 ∧ lck ls ss b w i = false ∧ ∃ v7 v8 v9, Fr K H3 v7 (fnd ls ss b w i) ∧ σ = [some (V.ref a), some (V.int b), some (V.ref aw), some v1, some (V.ref a2), some (V.ref a3), some (V.ref ah), some v7, v8, v9])
        ⟨fun _ _ z => z, rfl, .ref o, none, none, ⟨o, rfl, so H2⟩, rfl⟩ (fun i σ H3 _ q => ⟨Bs.Same.t q.1 sh, Bs.Same.t (s1.trans q.1) sw⟩) ?_ ?_
      · rintro i x' σ H3 H4 hi ⟨s3, lk, v7, v8, v9, f7, rfl⟩ ⟨T', x1, y1, rfl, hT, rfl, h1, h2⟩
        have h1' : ((hts b w).map V.int)[i]? = some x1 := h1
        have h2' : (w.map V.int)[i]? = some y1 := h2
        obtain ⟨t, ht, rfl⟩ := ints_at h2'
        rw [List.getElem?_map, hts_get b w i (by omega)] at h1'
        cases h1'
        have s4 := same_new (o := .tup [V.int (hgt b (w.take i)), V.int t]) hT
        have s14 := s1.trans (s3.trans s4)
        have h0 := up_hgt W.u (i := i) (by omega)
        have h0' := up_hgt W.u (i := i + 1) (by omega)
        rw [hgt_succ b ht] at h0'
        have gd := getD_of ht
        have tt := W.t t (List.mem_of_getElem? ht)
        have ef : fnd ls ss b w (i + 1) = mst ls ss (fnd ls ss b w i) (hgt b (w.take i)) t := by
          show mst _ _ _ _ (w.getD i 0) = _
          rw [gd]
        have el : lck ls ss b w (i + 1) = lst ls ss (hgt b (w.take i)) t := by
          show (lck ls ss b w i || lst _ _ _ (w.getD i 0)) = _
          rw [gd, lk, Bool.false_or]
        have zf := fnd_zs zl zs b w i
        generalize hgt b (w.take i) = h at *
        have bad : lst ls ss h t = true → ∀ H', Same H H' → Q .non H' := fun z H' sH => by
          refine kk H' _ sH ?_
          unfold wv
          rw [if_neg nov, if_pos (lck_mono (el.trans z) (by omega))]
          rfl
        refine ⟨T', _, rfl, SqT.of upd_same, rfl, _, _, rfl, _, _, rfl, rfl, ?_⟩
        have f7' := f7.mono s4
        have fx' := fx.mono s14
        have fy' := fy.mono s14
        have sx' := Bs.Same.t s14 sx
        have sy' := Bs.Same.t s14 sy
        have s24 : Same H2 (upd H3 T' (.tup [V.int h, V.int t])) := s3.trans s4
        generalize upd H3 T' (.tup [V.int h, V.int t]) = H5 at *
        refine ⟨_, rfl, rfl, _, rfl, ?_⟩
        by_cases c0 : t = 0
        · rw [show decide (V.int t = V.int 0) = true from decide_eq_true (by rw [c0])]
          refine iteT ⟨_, rfl, _, rfl, a2, xs, rfl, .inr sx', _, _, rfl, rfl, _, rfl, ?_⟩
          rw [lx]
          refine ite2 (fun c => ?_) (fun c => ?_)
          · have c' := of_decide_eq_true c
            exact bad (decide_eq_true (by omega)) _ s14
          · have c' : h < ls.length := by
              have : ¬ (ls.length : Int) ≤ h := fun z => c (decide_eq_true z)
              omega
            obtain ⟨u, g1, g2⟩ := co_at fx' h0 c'
            refine ⟨_, rfl, _, rfl, _, rfl, a2, xs, _, u, rfl, rfl, sx', g1, v7, u, _, _, rfl, f7', g2, ⟨zs_dm zf (by omega), zs_dm (zl.co _) (by decide)⟩, fun p hp => ?_⟩
            have sp := same_new (o := fr (mul (fnd ls ss b w i) (co ls h.toNat))) hp
            refine ⟨s24.trans sp, ?_, _, _, _, ?_, rfl⟩
            · rw [el]
              exact decide_eq_false (by omega)
            · rw [ef]
              unfold mst
              rw [if_pos ⟨c0, c'⟩]
              exact Fr.of upd_same
        · rw [show decide (V.int t = V.int 0) = false from decide_eq_false (fun z => c0 (V.int.inj z))]
          refine iteF ⟨_, rfl, _, rfl, rfl, _, rfl, ?_⟩
          by_cases c1 : t = -1
          · rw [show decide (V.int t = V.int (-1)) = true from decide_eq_true (by rw [c1])]
            refine iteT ⟨_, rfl, _, rfl, a3, ys, rfl, .inr sy', _, _, rfl, rfl, _, rfl, ?_⟩
            rw [ly]
            refine ite2 (fun c => ?_) (fun c => ?_)
            · have c' := of_decide_eq_true c
              exact bad (decide_eq_true (by omega)) _ s14
            · have c' : h ≤ ss.length := by
                have : ¬ (ss.length : Int) < h := fun z => c (decide_eq_true z)
                omega
              obtain ⟨u, g1, g2⟩ := co_at fy' (h := h - 1) (by omega) (by omega)
              refine ⟨_, rfl, _, rfl, _, rfl, _, _, rfl, rfl, a3, ys, _, u, rfl, rfl, sy', g1, v7, u, _, _, rfl, f7', g2, ⟨zs_dm zf (by omega), zs_dm (zs.co _) (by decide)⟩, fun p hp => ?_⟩
              have sp := same_new (o := fr (mul (fnd ls ss b w i) (co ss (h - 1).toNat))) hp
              refine ⟨s24.trans sp, ?_, _, _, _, ?_, rfl⟩
              · rw [el]
                exact decide_eq_false (by omega)
              · rw [ef]
                unfold mst
                rw [if_neg (by omega), if_pos ⟨c1, c'⟩]
                exact Fr.of upd_same
          · rw [show decide (V.int t = V.int (-1)) = false from decide_eq_false (fun z => c1 (V.int.inj z))]
            refine iteF ⟨s24, ?_, _, _, _, ?_, rfl⟩
            · rw [el]
              exact decide_eq_false (by omega)
            · rw [ef]
              unfold mst
              rw [if_neg (by omega), if_neg (by omega)]
              exact f7'
      · rintro σ H3 ⟨s3, lk, v7, v8, v9, f7, rfl⟩
        refine ⟨_, rfl, kk H3 _ (s1.trans s3) ?_⟩
        unfold wv
        rw [if_neg nov, if_neg (by rw [lk]; decide)]
        exact f7
end
end Rs


set_option Elab.async false
set_option linter.all false
set_option maxRecDepth 100000
set_option maxHeartbeats 1000000
namespace Rs
open PySem L2 Bs Fq LamX RZ
theorem eqv_tup_nil (qs : List F) : PyData.eqv (dP qs) (.tuple []) = qs.isEmpty := by
  cases qs <;> rfl
theorem endB_co {ss : List F} (n : ss ≠ []) : endB ss = decide (co ss (ss.length - 1) = (0, 1)) := by
  unfold endB
  refine decide_eq_decide.mpr ⟨fun h => ?_, fun h z => ?_⟩
  · exact Classical.byContradiction fun z => h (.inr z)
  · rcases z with z | z
    · exact n z
    · exact z h
theorem shaped_dP (qs : List F) : SeqAt.shaped (dP qs) = true := by
  unfold SeqAt.shaped
  rw [Bool.and_eq_true_iff]
  refine ⟨?_, decide_eq_true ?_⟩
  · simpa [dP, PyData.canLay0] using can_dFs qs
  · have := dep_dFs qs
    simp only [dP, PyData.depth]
    omega
theorem end_len {T : F} {ls ss : List F} (h : ladderD (dL T ls ss) = true) (e : endB ss = true) : ls.length = ss.length := by
  have np : ¬ Pn ss := of_decide_eq_true e
  have n : ss ≠ [] := fun z => np (.inl z)
  have c : co ss (ss.length - 1) = (0, 1) := Classical.byContradiction fun z => np (.inr z)
  have h' : (posD (dF T) && (fracsD 5 (dP ls) && (fracsD 5 (dP ss) && shapeD (dP ls) (dP ss)))) = true := h
  rw [shape_end n c, Bool.and_eq_true, Bool.and_eq_true, Bool.and_eq_true, Bool.and_eq_true, decide_eq_true_eq] at h'
  exact h'.2.2.2.1
theorem lastL {ls ss : List F} {q : F} {h t : Int} (n1 : ¬ (t = 0 ∧ h < ls.length)) (n2 : ¬ (t = -1 ∧ h ≤ ss.length)) : lst ls ss h t = (!decide (V.int t = V.int 1)) ∧ mst ls ss q h t = q := by
  refine ⟨?_, ?_⟩
  · unfold lst
    by_cases c : t = 1
    · rw [decide_eq_false (by omega), show decide (V.int t = V.int 1) = true from decide_eq_true (by rw [c])]
      rfl
    · rw [decide_eq_true ⟨n1, n2, c⟩, show decide (V.int t = V.int 1) = false from decide_eq_false (fun z => c (V.int.inj z))]
      rfl
  · unfold mst
    rw [if_neg n1, if_neg n2]
def dO : Option F → PyData
  | none => .list []
  | some q => .list [dF q]
theorem Lo.dp {K : PySem.W.Frag} {H : Hp} {u : V} {o : Option F} (h : Lo K H u o) : Dp K H u (dO o) := by
  obtain ⟨a, rfl, h⟩ := h
  cases o with
  | none => exact .lst h .nil
  | some q =>
    obtain ⟨v, s, f⟩ := h
    exact .lst s (.cons f.dp .nil)
def spLEnd (K : PySem.W.Frag) : Sp := fun vs H Q _ => ∃ (v : V) (T : F) (ls ss : List F), vs = [v] ∧ Lad K H v T ls ss ∧ ∀ H', Same H H' → Q (.bl (endB ss)) H'
abbrev NLw2 : List Str := ["ladder_so", "start", "way", "total", "levels", "steps", "found", "lacks", "step", "here"]
abbrev sHeard' : Stmt := top 49
section
variable {P : Program} {w : World} {K : PySem.W.Frag} {mg : Str → Option Value} {base : Heap} {f : Addr} {fd : FuncData} {CM : Addr}
theorem ok_needLad' (F : Fun K "need_ladder" "need_ladder" sNeedLad f fd) (W : Cal P w K mg base 4 "is_ladder" (spIsLad K)) : FnOk P w K mg base CX0 5 f fd ["thing"] (spNL K) := by
  refine F.ok scNeedLad (fun vs H Q E h => ?_) (fun cdv A outer s H vs Q E hr h => ?_)
  · obtain ⟨v, d, rfl, _⟩ := h
    rfl
  · obtain ⟨v, d, rfl, hd, e, kk⟩ := h
    refine ⟨_, pss_cons (ps_if (pt_not (pt_val (pe_n W hr (by decide) (by rfl) (pa_cons (pv 0) pa_nil)))) (pss_one ps_never) pss_nil) (pss_one (ps_ret (pv 0))), ?_⟩
    refine ⟨_, rfl, v, d, rfl, hd, fun H' s => ⟨_, rfl, ?_⟩⟩
    rw [e]
    exact iteF ⟨_, rfl, kk H' s⟩
theorem scWayWorth : FnScope ["ladder", "start", "way", "worth"] ["ladder", "start", "way"] (defScope sWayWorth) := ⟨rfl, rfl, rfl, by decide +kernel, rfl, by decide +kernel, by decide +kernel⟩
theorem ok_wayWorth (F : Fun K "way_worth" "way_worth" sWayWorth f fd) (T : ErrOkK P w K mg base "Missing" "given" CM) (NLd : Cal P w K mg base 5 "need_ladder" (spNL K)) (NW : Cal P w K mg base 5 "need_way" (spNeedWay K)) (WB : Cal P w K mg base 3 "worth_by" (spWorthBy K)) :
    FnOk P w K mg base (L2.CX P w) 6 f fd ["ladder", "start", "way"] (spWayWorth K CM) := by
  refine F.okX scWayWorth (fun vs H Q E h => ?_) (fun cdv A outer s H vs Q E hr h => ?_)
  · obtain ⟨vL, v, T0, ls, ss, b, w, rfl, _⟩ := h
    rfl
  · obtain ⟨vL, v, T0, ls, ss, b, w, rfl, G, hl, b0, b4, k1, k2⟩ := h
    refine ⟨_, pss_cons (ps_expr (pe_n NLd hr (by decide) (by rfl) (pa_cons (pv 0) pa_nil)))
      (pss_cons (ps_expr (pe_n NW hr (by decide) (by rfl) (pa_cons (pv 1) (pa_cons (pv 2) pa_nil))))
      (pss_cons (ps_set (i := 3) scWayWorth.nd rfl (Or.inl rfl) (pe_n WB hr (by decide) (by rfl) (pa_cons (pv 0) (pa_cons (pv 1) (pa_cons (pv 2) pa_nil)))))
      (pss_cons (ps_if (pt_cmpR op_isN (pv 3) pe_non (nomark _)) (pss_one (ps_rzK rfl T hr (by decide) (takes_of rfl rfl rfl rfl) (pv 2) (by rfl))) pss_nil)
      (pss_one (ps_ret (pv 3)))))), ?_⟩
    refine ⟨_, rfl, vL, _, rfl, G.lad.dp, hl, fun H1 s1 => ?_⟩
    have G1 := G.mono s1
    refine ⟨_, rfl, _, rfl, b, v, w, rfl, G1.it, G1.way, G1.len, b0, b4, fun H2 s2 => ?_⟩
    have G2 := G1.mono s2
    refine ⟨_, rfl, _, rfl, _, rfl, vL, v, T0, ls, ss, b, w, rfl, G2, fun H3 u s3 hu => ?_⟩
    have s13 := s1.trans (s2.trans s3)
    refine ⟨_, rfl, rfl, _, rfl, ?_⟩
    cases e : wv (endB ss) ls ss b w with
    | none =>
      rw [e] at hu
      obtain rfl : u = .non := hu
      exact iteT ⟨_, rfl, k2 e H3 s13⟩
    | some q =>
      rw [e] at hu
      obtain ⟨a, rfl, sa⟩ : Fr K H3 u q := hu
      exact iteF ⟨_, rfl, k1 q e H3 _ s13 ⟨a, rfl, sa⟩⟩
theorem scLEnd : FnScope ["ladder_so"] ["ladder_so"] (defScope sLEnded) := ⟨rfl, rfl, rfl, by decide +kernel, rfl, by decide +kernel, by decide +kernel⟩
theorem ok_lend (F : Fun K "_law_ended" "_law_ended" sLEnded f fd) : FnOk P w K mg base CX0 1 f fd ["ladder_so"] (spLEnd K) := by
  refine F.ok scLEnd (fun vs H Q E h => ?_) (fun cdv A outer s H vs Q E hr h => ?_)
  · obtain ⟨v, T0, ls, ss, rfl, _⟩ := h
    rfl
  · obtain ⟨v, T0, ls, ss, rfl, ⟨a, v1, v2, v3, rfl, sq, f1, p2, a3, ys, rfl, sy, fy⟩, kk⟩ := h
    have ly := fy.len
    refine ⟨_, pss_one (ps_ret (pe_and (pe_cmpR (op_neD hr.units) (pe_ix ix_tup (pv 0) pe_int (fun _ _ => rfl)) (pe_tup pa_nil) (nomark _))
      (pe_one (pe_cmpR (op_eqD hr.units) (pe_ix ix_tup (pe_ix ix_tup (pv 0) pe_int (fun _ _ => rfl)) (pe_un un_neg pe_int) (fun _ _ => rfl)) (pe_tup (pa_cons pe_int (pa_cons pe_int pa_nil))) (nomark _))))), ?_⟩
    refine ⟨_, rfl, a, _, 2, _, rfl, rfl, sq, rfl, (by show 0 ≤ sizeLine; decide), fun p hp => ?_⟩
    have s1 := same_new (o := .tup []) hp
    refine ⟨dP ss, .tuple [], (Po.mono s1 ⟨a3, ys, rfl, sy, fy⟩).dp, .tup (SqT.of upd_same) .nil, shaped_dP ss, rfl, _, rfl, ?_⟩
    rw [eqv_tup_nil]
    by_cases ne : ss = []
    · subst ne
      exact iteF (kk _ s1)
    · have hb : (!ss.isEmpty) = true := by
        cases ss with
        | nil => exact absurd rfl ne
        | cons _ _ => rfl
      show if (!ss.isEmpty) = true then _ else _
      rw [hb]
      have yn : ys ≠ [] := fun z => ne (List.eq_nil_of_length_eq_zero (by rw [← ly, z]; rfl))
      have sp := List.length_pos_iff.mpr ne
      obtain ⟨u, q, g1, g2, g3⟩ := fy.get (i := ss.length - 1) (by omega)
      have eq_ : co ss (ss.length - 1) = q := co_get g2
      rw [← ly] at g1
      refine iteT ⟨_, rfl, a, _, 2, _, rfl, rfl, Bs.Same.t s1 sq, rfl, _, rfl, a3, ys, _, u, rfl, rfl, Bs.Same.t s1 sy, atI_neg1 yn g1, (by show 2 ≤ sizeLine; decide), fun p2 hp2 => ?_⟩
      have s2 := same_new (o := .tup [.int 0, .int 1]) hp2
      refine ⟨dF q, dF (0, 1), (g3.mono (s1.trans s2)).dp, .tup (SqT.of upd_same) (.cons (.int 0) (.cons (.int 1) .nil)), rfl, rfl, ?_⟩
      rw [eqv_nought, show decide (q = (0, 1)) = endB ss from by rw [endB_co ne, eq_]]
      exact kk _ (s1.trans s2)
theorem scLWorth : FnScope NLw2 ["ladder_so", "start", "way"] (defScope sLWorth) := ⟨rfl, rfl, rfl, by decide +kernel, rfl, by decide +kernel, by decide +kernel⟩
theorem ok_lworth (F : Fun K "_law_way_worth" "_law_way_worth" sLWorth f fd) (T : Blt mg) (zp : mg "zip" = none) (mx : mg "max" = none) (LH : Cal P w K mg base 1 "_law_heights" (spHts K)) (LE : Cal P w K mg base 1 "_law_ended" (spLEnd K)) (lT : Cal P w K mg base 2 "_law_times" (spOp K mul domL)) :
    FnOk P w K mg base CX0 3 f fd ["ladder_so", "start", "way"] (spOpt K) := by
  refine F.ok scLWorth (fun vs H Q E h => ?_) (fun cdv A outer s H vs Q E hr h => ?_)
  · obtain ⟨vL, v, T0, ls, ss, b, w, rfl, _⟩ := h
    rfl
  · obtain ⟨vL, v, T0, ls, ss, b, w, rfl, ⟨⟨a, v1, v2, v3, rfl, sq, f1, ⟨a2, xs, rfl, sx, fx⟩, ⟨a3, ys, rfl, sy, fy⟩⟩, ⟨aw, rfl, sw⟩, W, lw, zl, zs⟩, hld, b0, b4, kk⟩ := h
    have lx := fx.len
    have ly := fy.len
    have el := end_len hld
    refine ⟨_, pss_cons (ps_asg (pv 0) (pg_tup rfl (pgs_cons (pg_name (i := 3) scLWorth.nd rfl (.inl rfl)) (pgs_cons (pg_name (i := 4) scLWorth.nd rfl (.inl rfl)) (pgs_cons (pg_name (i := 5) scLWorth.nd rfl (.inl rfl)) pgs_nil)))))
      (pss_cons (ps_asg (pe_tup (pa_cons (pe_tup (pa_cons pe_int (pa_cons pe_int pa_nil))) (pa_cons pe_bl pa_nil))) (pg_tup rfl (pgs_cons (pg_name (i := 6) scLWorth.nd rfl (.inl rfl)) (pgs_cons (pg_name (i := 7) scLWorth.nd rfl (.inl rfl)) pgs_nil))))
      (C8.pss_cut (ps_for PassesOwn.never rfl (pi_zipA (by rfl) zp (pa_cons (pv 2) (pa_cons (pe_n LH hr (by decide) (by rfl) (pa_cons (pv 1) (pa_cons (pv 2) pa_nil))) pa_nil))) (pg_tup rfl (pgs_cons (pg_name (i := 8) scLWorth.nd rfl (.inl rfl)) (pgs_cons (pg_name (i := 9) scLWorth.nd rfl (.inl rfl)) pgs_nil)))
        (pss_one (ps_if (PW.pt (pw_and (pt_cmpR op_eq (pv 8) pe_int (nomark _)) (pw_and1 (pt_cmpR op_lt (pv 9) (pe_callB call_len_seq (by rfl) T.len (by decide +kernel) (pa_cons (pv 4) pa_nil)) (nomark _)))))
          (pss_one (ps_set (i := 6) scLWorth.nd rfl (Or.inl rfl) (pe_n lT hr (by decide) (by rfl) (pa_cons (pv 6) (pa_cons (pe_ix ix_tup (pv 4) (pv 9) (fun _ _ => rfl)) pa_nil)))))
          (pss_one (ps_if (PW.pt (pw_and (pt_cmpR op_eq (pv 8) (pe_un un_neg pe_int) (nomark _)) (pw_and1 (pt_cmpR op_le (pv 9) (pe_callB call_len_seq (by rfl) T.len (by decide +kernel) (pa_cons (pv 5) pa_nil)) (nomark _)))))
            (pss_one (ps_set (i := 6) scLWorth.nd rfl (Or.inl rfl) (pe_n lT hr (by decide) (by rfl) (pa_cons (pv 6) (pa_cons (pe_ix ix_tup (pv 5) (pe_op op_sub (pv 9) pe_int) (fun _ _ => rfl)) pa_nil)))))
            (pss_one (ps_set (i := 7) scLWorth.nd rfl (Or.inl rfl) (pe_or (pv 7) (pe_one (pe_cmpR op_ne (pv 8) pe_int (nomark _)))))))))))
      (pss_cons (ps_if (pt_val (pe_n LE hr (by decide) (by rfl) (pa_cons (pv 0) pa_nil)))
        (pss_one (ps_ret (pe_ifExp (pt_cmpR op_ge (pe_callB (MxT.cr_mxT rfl) (by rfl) mx (by decide +kernel) (pa_cons (pe_n LH hr (by decide) (by rfl) (pa_cons (pv 1) (pa_cons (pv 2) pa_nil))) pa_nil)) (pe_callB call_len_seq (by rfl) T.len (by decide +kernel) (pa_cons (pv 4) pa_nil)) (nomark _)) (pe_lst (pa_cons (pe_tup (pa_cons pe_int (pa_cons pe_int pa_nil))) pa_nil)) (pe_lst (pa_cons (pv 6) pa_nil))))) pss_nil)
      (pss_one (ps_ret (pe_ifExp (pt_val (pv 7)) (pe_lst pa_nil) (pe_lst (pa_cons (pv 6) pa_nil)))))))), ?_⟩
    refine ⟨_, rfl, a, _, rfl, sq, rfl, _, _, rfl, _, _, rfl, _, _, rfl, rfl, ?_⟩
    refine ⟨(by show 2 ≤ sizeLine; decide), fun po hpo => ⟨(by show 2 ≤ sizeLine; decide), fun pt hpt => ⟨pt, _, rfl, SqT.of upd_same, rfl, _, _, rfl, _, _, rfl, rfl, ?_⟩⟩⟩
    have s0 := same_new (o := .tup [.int 1, .int 1]) hpo
    have s0' := same_new (o := .tup [.ref po, .bl false]) hpt
    have s1 := s0.trans s0'
    have f0 : Fr K (upd (upd H po (.tup [.int 1, .int 1])) pt (.tup [.ref po, .bl false])) (.ref po) (1, 1) := (show Fr K (upd H po (.tup [.int 1, .int 1])) (.ref po) (1, 1) from Fr.of upd_same).mono s0'
    generalize upd (upd H po (.tup [.int 1, .int 1])) pt (.tup [.ref po, .bl false]) = H1 at *
    refine ⟨fun σ H3 => Same H H3 ∧ ∃ v6 v8 v9, Fr K H3 v6 (fnd ls ss b w w.length) ∧ σ = [some (V.ref a), some (V.int b), some (V.ref aw), some v1, some (V.ref a2), some (V.ref a3), some v6, some (V.bl (lck ls ss b w w.length)), v8, v9], ?_, ?_⟩
    · refine ⟨_, rfl, _, rfl, _, rfl, b, _, w, rfl, ⟨aw, rfl, Bs.Same.t s1 sw⟩, by omega, fun H2 u s2 hu => ?_⟩
      obtain ⟨ah, rfl, sh⟩ := hu
      have s12 := s1.trans s2
      refine ⟨aw, ah, _, _, rfl, .inr ⟨Bs.Same.t s12 sw, sh, ?_⟩⟩
      refine for_it (walk_zipT (xs := w.map V.int) (ys := (hts b w).map V.int) (n := w.length) (by rw [List.length_map, List.length_map, hts_len]; omega)) (fun i σ H3 => Same H2 H3 ∧ ∃ v6 v8 v9, Fr K H3 v6 (fnd ls ss b w i) ∧ σ = [some (V.ref a), some (V.int b), some (V.ref aw), some v1, some (V.ref a2), some (V.ref a3), some v6, some (V.bl (lck ls ss b w i)), v8, v9])
        ⟨fun _ _ z => z, .ref po, none, none, f0.mono s2, rfl⟩ (fun i σ H3 _ q => ⟨Bs.Same.t (s12.trans q.1) sw, Bs.Same.t q.1 sh⟩) ?_ ?_
      · rintro i x' σ H3 H4 hi ⟨s3, v6, v8, v9, f6, rfl⟩ ⟨T', x1, y1, rfl, hT, rfl, h1, h2⟩
        have h1' : (w.map V.int)[i]? = some x1 := h1
        have h2' : ((hts b w).map V.int)[i]? = some y1 := h2
        obtain ⟨t, ht, rfl⟩ := ints_at h1'
        rw [List.getElem?_map, hts_get b w i (by omega)] at h2'
        cases h2'
        have s4 := same_new (o := .tup [V.int t, V.int (hgt b (w.take i))]) hT
        have s14 := s12.trans (s3.trans s4)
        have h0 := up_hgt W.u (i := i) (by omega)
        have h0' := up_hgt W.u (i := i + 1) (by omega)
        rw [hgt_succ b ht] at h0'
        have gd := getD_of ht
        have tt := W.t t (List.mem_of_getElem? ht)
        have ef : fnd ls ss b w (i + 1) = mst ls ss (fnd ls ss b w i) (hgt b (w.take i)) t := by
          show mst _ _ _ _ (w.getD i 0) = _
          rw [gd]
        have elk : lck ls ss b w (i + 1) = (lck ls ss b w i || lst ls ss (hgt b (w.take i)) t) := by
          show (lck ls ss b w i || lst _ _ _ (w.getD i 0)) = _
          rw [gd]
        have zf := fnd_zs zl zs b w i
        generalize hgt b (w.take i) = h at *
        refine ⟨T', _, rfl, SqT.of upd_same, rfl, _, _, rfl, _, _, rfl, rfl, ?_⟩
        have f6' := f6.mono s4
        have fx' := fx.mono s14
        have fy' := fy.mono s14
        have sx' := Bs.Same.t s14 sx
        have sy' := Bs.Same.t s14 sy
        have s24 : Same H2 (upd H3 T' (.tup [V.int t, V.int h])) := s3.trans s4
        generalize upd H3 T' (.tup [V.int t, V.int h]) = H5 at *
        have done : ∀ (H6 : Hp) (u : V), Same H5 H6 → lst ls ss h t = false → Fr K H6 u (mst ls ss (fnd ls ss b w i) h t) → (Same H2 H6 ∧ ∃ v6 v8 v9, Fr K H6 v6 (fnd ls ss b w (i + 1)) ∧ [some (V.ref a), some (V.int b), some (V.ref aw), some v1, some (V.ref a2), some (V.ref a3), some u, some (V.bl (lck ls ss b w i)), some (V.int t), some (V.int h)] = [some (V.ref a), some (V.int b), some (V.ref aw), some v1, some (V.ref a2), some (V.ref a3), some v6, some (V.bl (lck ls ss b w (i + 1))), v8, v9]) := fun H6 u s6 el fu => by
          refine ⟨s24.trans s6, u, some (V.int t), some (V.int h), ?_, ?_⟩
          · rw [ef]
            exact fu
          · rw [elk, el, Bool.or_false]
        refine ⟨_, rfl, rfl, _, rfl, ?_⟩
        by_cases c0 : t = 0
        · rw [show decide (V.int t = V.int 0) = true from decide_eq_true (by rw [c0])]
          refine iteT ⟨_, rfl, _, rfl, a2, xs, rfl, .inr sx', _, _, rfl, rfl, _, rfl, ?_⟩
          rw [lx]
          refine ite2 (fun c => ?_) (fun c => ?_)
          · have c' := of_decide_eq_true c
            obtain ⟨u, g1, g2⟩ := co_at fx' h0 c'
            refine ⟨_, rfl, _, rfl, _, rfl, a2, xs, _, u, rfl, rfl, sx', g1, v6, u, _, _, rfl, f6', g2, ⟨zs_dl zf (by omega), zs_dl (zl.co _) (by decide)⟩, fun p hp => ?_⟩
            have sp := same_new (o := fr (mul (fnd ls ss b w i) (co ls h.toNat))) hp
            refine done _ _ sp (decide_eq_false (by omega)) ?_
            unfold mst
            rw [if_pos ⟨c0, c'⟩]
            exact Fr.of upd_same
          · have c' : ¬ h < ls.length := fun z => c (decide_eq_true z)
            refine ⟨_, rfl, _, rfl, rfl, _, rfl, ?_⟩
            rw [show decide (V.int t = V.int (-1)) = false from decide_eq_false (fun z => by have := V.int.inj z; omega)]
            refine iteF ?_
            have n1 : ¬ (t = 0 ∧ h < ls.length) := fun z => c' z.2
            have n2 : ¬ (t = -1 ∧ h ≤ ss.length) := fun z => by have := z.1; omega
            have ell := lastL (q := fnd ls ss b w i) n1 n2
            rw [ell.2] at ef
            rw [ell.1] at elk
            refine ⟨_, rfl, _, rfl, ?_⟩
            cases e7 : lck ls ss b w i with
            | true =>
              rw [e7, Bool.true_or] at elk
              refine iteT ⟨s24, v6, some (V.int t), some (V.int h), ?_, ?_⟩
              · rw [ef]
                exact f6'
              · rw [elk]
                rfl
            | false =>
              rw [e7, Bool.false_or] at elk
              refine iteF ⟨_, rfl, rfl, s24, v6, some (V.int t), some (V.int h), ?_, ?_⟩
              · rw [ef]
                exact f6'
              · rw [elk]
                rfl
        · rw [show decide (V.int t = V.int 0) = false from decide_eq_false (fun z => c0 (V.int.inj z))]
          refine iteF ⟨_, rfl, _, rfl, rfl, _, rfl, ?_⟩
          by_cases c1 : t = -1
          · rw [show decide (V.int t = V.int (-1)) = true from decide_eq_true (by rw [c1])]
            refine iteT ⟨_, rfl, _, rfl, a3, ys, rfl, .inr sy', _, _, rfl, rfl, _, rfl, ?_⟩
            rw [ly]
            refine ite2 (fun c => ?_) (fun c => ?_)
            · have c' := of_decide_eq_true c
              obtain ⟨u, g1, g2⟩ := co_at fy' (h := h - 1) (by omega) (by omega)
              refine ⟨_, rfl, _, rfl, _, rfl, _, _, rfl, rfl, a3, ys, _, u, rfl, rfl, sy', g1, v6, u, _, _, rfl, f6', g2, ⟨zs_dl zf (by omega), zs_dl (zs.co _) (by decide)⟩, fun p hp => ?_⟩
              have sp := same_new (o := fr (mul (fnd ls ss b w i) (co ss (h - 1).toNat))) hp
              refine done _ _ sp (decide_eq_false (by omega)) ?_
              unfold mst
              rw [if_neg (by omega), if_pos ⟨c1, c'⟩]
              exact Fr.of upd_same
            · have c' : ¬ h ≤ ss.length := fun z => c (decide_eq_true z)
              have n1 : ¬ (t = 0 ∧ h < ls.length) := fun z => c0 z.1
              have n2 : ¬ (t = -1 ∧ h ≤ ss.length) := fun z => c' z.2
              have ell := lastL (q := fnd ls ss b w i) n1 n2
              rw [ell.2] at ef
              rw [ell.1] at elk
              refine ⟨_, rfl, _, rfl, ?_⟩
              cases e7 : lck ls ss b w i with
              | true =>
                rw [e7, Bool.true_or] at elk
                refine iteT ⟨s24, v6, some (V.int t), some (V.int h), ?_, ?_⟩
                · rw [ef]
                  exact f6'
                · rw [elk]
                  rfl
              | false =>
                rw [e7, Bool.false_or] at elk
                refine iteF ⟨_, rfl, rfl, s24, v6, some (V.int t), some (V.int h), ?_, ?_⟩
                · rw [ef]
                  exact f6'
                · rw [elk]
                  rfl
          · rw [show decide (V.int t = V.int (-1)) = false from decide_eq_false (fun z => c1 (V.int.inj z))]
            refine iteF ?_
            have n1 : ¬ (t = 0 ∧ h < ls.length) := fun z => c0 z.1
            have n2 : ¬ (t = -1 ∧ h ≤ ss.length) := fun z => c1 z.1
            have ell := lastL (q := fnd ls ss b w i) n1 n2
            rw [ell.2] at ef
            rw [ell.1] at elk
            refine ⟨_, rfl, _, rfl, ?_⟩
            cases e7 : lck ls ss b w i with
            | true =>
              rw [e7, Bool.true_or] at elk
              refine iteT ⟨s24, v6, some (V.int t), some (V.int h), ?_, ?_⟩
              · rw [ef]
                exact f6'
              · rw [elk]
                rfl
            | false =>
              rw [e7, Bool.false_or] at elk
              refine iteF ⟨_, rfl, rfl, s24, v6, some (V.int t), some (V.int h), ?_, ?_⟩
              · rw [ef]
                exact f6'
              · rw [elk]
                rfl
      · rintro σ H3 ⟨s3, v6, v8, v9, f6, rfl⟩
        exact ⟨s12.trans s3, v6, v8, v9, f6, rfl⟩
    · rintro σ H3 ⟨s3, v6, v8, v9, f6, rfl⟩
      refine ⟨_, rfl, _, T0, ls, ss, rfl, ⟨a, v1, _, _, rfl, Bs.Same.t s3 sq, f1.mono s3, ⟨a2, xs, rfl, Bs.Same.t s3 sx, fx.mono s3⟩, ⟨a3, ys, rfl, Bs.Same.t s3 sy, fy.mono s3⟩⟩, fun H4 s4 => ⟨_, rfl, ?_⟩⟩
      have s34 := s3.trans s4
      have f64 := f6.mono s4
      have made : ∀ L, H4 L = none → wv (endB ss) ls ss b w = some (fnd ls ss b w w.length) → Q (.ref L) (upd H4 L (.lst [v6])) := fun L hL e => by
        have u := same_new (o := .lst [v6]) hL
        refine kk _ _ (s34.trans u) ?_
        rw [e]
        exact ⟨L, rfl, v6, SqL.of upd_same, f64.mono u⟩
      cases e : endB ss with
      | false =>
        refine iteF ⟨_, rfl, _, rfl, ?_⟩
        have no : ¬ (endB ss = true ∧ over ls b w) := fun z => by
          rw [e] at z
          cases z.1
        cases e2 : lck ls ss b w w.length with
        | true =>
          refine iteT ⟨(by show 0 ≤ sizeLine; decide), fun L hL => ?_⟩
          have u := same_new (o := .lst []) hL
          refine kk _ _ (s34.trans u) ?_
          unfold wv
          rw [if_neg no, if_pos e2]
          exact ⟨L, rfl, SqL.of upd_same⟩
        | false =>
          refine iteF ⟨_, rfl, (by show 1 ≤ sizeLine; decide), fun L hL => made L hL ?_⟩
          unfold wv
          rw [if_neg no, if_neg (by rw [e2]; decide)]
      | true =>
        refine iteT ⟨_, rfl, _, rfl, b, _, w, rfl, ⟨aw, rfl, Bs.Same.t s34 sw⟩, by omega, fun H5 u s5 hu => ?_⟩
        obtain ⟨ah, rfl, sh⟩ := hu
        have s35 := s34.trans s5
        refine ⟨ah, _, rfl, sh, (fun z => by
          have := congrArg List.length z
          rw [hts_len] at this
          cases this), fun m hm hy => ⟨_, rfl, a2, xs, rfl, .inr (Bs.Same.t s35 sx), _, _, rfl, rfl, _, rfl, ?_⟩⟩
        have oi := over_iff (ls := ls) hm hy
        rw [lx]
        refine ite2 (fun c => ?_) (fun c => ?_)
        · refine ⟨(by show 2 ≤ sizeLine; decide), fun p1 hp1 => ⟨(by show 1 ≤ sizeLine; decide), fun p2 hp2 => ?_⟩⟩
          have u1 := same_new (o := .tup [.int 0, .int 1]) hp1
          have u2 := same_new (o := .lst [.ref p1]) hp2
          refine kk _ _ (s35.trans (u1.trans u2)) ?_
          unfold wv
          rw [if_pos ⟨e, oi.mpr (of_decide_eq_true c)⟩]
          exact ⟨p2, rfl, _, SqL.of upd_same, (show Fr K (upd H5 p1 (.tup [.int 0, .int 1])) (.ref p1) (0, 1) from Fr.of upd_same).mono u2⟩
        · refine ⟨_, rfl, (by show 1 ≤ sizeLine; decide), fun L hL => ?_⟩
          have u := same_new (o := .lst [v6]) hL
          have no : ¬ over ls b w := fun z => c (decide_eq_true (oi.mp z))
          refine kk _ _ (s35.trans u) ?_
          unfold wv
          rw [if_neg (fun z => no z.2), if_neg (by rw [no_lack (el e) W no _ (Nat.le_refl _)]; decide)]
          exact ⟨L, rfl, v6, SqL.of upd_same, (f64.mono s5).mono u⟩
end
end Rs


set_option Elab.async false
set_option linter.all false
set_option maxRecDepth 100000
set_option maxHeartbeats 1000000
namespace Rs
open PySem L2 Bs Fq LamX RZ
theorem zs_red {x y : Int} (h1 : -6 ≤ x) (h2 : x ≤ 6) (h3 : 1 ≤ y) (h4 : y ≤ 3) : Zs 1 (red x y) := by
  have hp : 0 < y := by omega
  refine Zs.of (red_ok hp) (Int.dvd_trans (vl_dvd (red_ok (a := x) hp) (vl_red hp)) ?_) ?_
  · rcases (by omega : y = 1 ∨ y = 2 ∨ y = 3) with rfl | rfl | rfl <;> decide
  · have := red_top (a := x) hp
    omega
theorem pos_red {x y : Int} (h1 : 0 < x) (h3 : 0 < y) : 0 < (red x y).1 := by
  have o := red_ok (a := x) h3
  have v := vl_red (a := x) h3
  unfold Vl at v
  have h1 : 0 < x * (red x y).2 := Int.mul_pos h1 o.1
  rw [← v] at h1
  exact Int.pos_of_mul_pos_left h1 h3
/-- a drawn ladder -/
structure DrL (T : F) (ls ss : List F) : Prop where
  zT : Zs 1 T
  pT : 0 < T.1
  zl : Za 1 ls
  zs : Za 1 ss
  l3 : ls.length ≤ 4
  sh : (above ss = true ∧ (ls.length = ss.length ∨ ls.length = ss.length + 1)) ∨ (ls.length = ss.length ∧ ss ≠ [] ∧ co ss (ss.length - 1) = (0, 1) ∧ above (ss.take (ss.length - 1)) = true)
theorem above_pn {ss : List F} (h : above ss = true) : Pn ss := by
  by_cases c : ss = []
  · exact .inl c
  · refine .inr fun z => ?_
    have hl := List.length_pos_iff.mpr c
    have := List.all_eq_true.mp h _ (co_mem (qs := ss) (k := ss.length - 1) (by omega))
    rw [z] at this
    exact absurd this (by decide)
theorem above_app {a b : List F} (h : above a = true) (g : above b = true) : above (a ++ b) = true := by
  unfold above at *
  rw [List.all_append, h, g]
  rfl
theorem above_take {a : List F} (n : Nat) (h : above a = true) : above (a.take n) = true := by
  unfold above at *
  rw [List.all_eq_true] at *
  exact fun q hq => h q (List.mem_of_mem_take hq)
theorem DrL.lad {T : F} {ls ss : List F} (h : DrL T ls ss) : ladderD (dL T ls ss) = true := by
  have okl : ∀ {l : List F}, Za 1 l → ∀ q ∈ l, Fq.Ok q := fun z q hq => (z q hq).ok
  have fr5 : ∀ {l : List F}, Za 1 l → l.length ≤ 5 → fracsD 5 (dP l) = true := fun {l} z n => by
    show (decide (((l.map dF).length : Int) ≤ 5) && (l.map dF).all fracD) = true
    rw [all_frac_of (okl z), List.length_map, decide_eq_true (by omega)]
    rfl
  have l3 := h.l3
  have m5 : ss.length ≤ 5 := by rcases h.sh with ⟨_, e⟩ | ⟨e, _⟩ <;> omega
  show (posD (dF T) && (fracsD 5 (dP ls) && (fracsD 5 (dP ss) && shapeD (dP ls) (dP ss)))) = true
  have e1 : posD (dF T) = true := by
    show (fracD (dF T) && decide (0 < T.1)) = true
    rw [fracD_dF h.zT.ok, decide_eq_true h.pT]
    rfl
  rw [e1, fr5 h.zl (by omega), fr5 h.zs m5]
  rcases h.sh with ⟨a, e⟩ | ⟨e, n, z, a⟩
  · rw [shape_open (above_pn a), a, decide_eq_true (by omega : ls.length ≤ 4)]
    rcases e with e | e
    · rw [decide_eq_true e]
      rfl
    · rw [decide_eq_true e, Bool.or_true]
      rfl
  · rw [shape_end n z, a, decide_eq_true e]
    rfl
/-! ### sizes of what is told -/
def Sz (q : F) : Prop := Lt2 350 q.1 ∧ Lt2 350 q.2
def SzA (qs : List F) : Prop := ∀ q ∈ qs, Sz q
theorem sz_log {x : Int} (h : Lt2 350 x) : x.natAbs.log2 < 350 := PySem.Flt.log2_lt_of (by decide) h
theorem int_short' {i : Int} (h : Lt2 350 i) : (PyData.shown (.int i)).length ≤ 500 := by
  have := int_text_length_le (a := i) (k := 350) (by decide) (sz_log h)
  have e : (PyData.shown (.int i)).length = (toString i).length := by
    show (Str.ofString (toString i)).length = _
    exact ofString_length _
  omega
/-- data that is small, to so many levels, with so much weight -/
structure Ft (k n : Nat) (d : PyData) : Prop where
  s : d.showable = true
  h : d.hasDict = false
  dep : d.depth ≤ k
  l : d.leavesShort 500 = true
  w : d.weight ≤ n
structure FtA (k n : Nat) (ds : List PyData) : Prop where
  s : PyData.showableAll ds = true
  h : PyData.hasDictAll ds = false
  dep : PyData.depthAll ds ≤ k
  l : PyData.leavesShortAll 500 ds = true
  w : PyData.weightAll ds ≤ n
theorem FtA.nil {k : Nat} : FtA k 0 [] := ⟨rfl, rfl, Nat.zero_le _, rfl, Nat.le_refl _⟩
theorem FtA.cons {k n m : Nat} {d : PyData} {ds : List PyData} (a : Ft k n d) (b : FtA k m ds) : FtA k (n + 1 + m) (d :: ds) := by
  refine ⟨?_, ?_, ?_, ?_, ?_⟩
  · simp only [PyData.showableAll, a.s, b.s, Bool.and_self]
  · simp only [PyData.hasDictAll, a.h, b.h, Bool.or_self]
  · have := a.dep
    have := b.dep
    simp only [PyData.depthAll]
    omega
  · simp only [PyData.leavesShortAll, a.l, b.l, Bool.and_self]
  · have := a.w
    have := b.w
    simp only [PyData.weightAll]
    omega
theorem FtA.tup {k n : Nat} {ds : List PyData} (a : FtA k n ds) : Ft (k + 1) n (.tuple ds) := by
  refine ⟨a.s, a.h, ?_, a.l, a.w⟩
  have := a.dep
  simp only [PyData.depth]
  omega
theorem FtA.lst {k n : Nat} {ds : List PyData} (a : FtA k n ds) : Ft (k + 1) n (.list ds) := by
  refine ⟨a.s, a.h, ?_, a.l, a.w⟩
  have := a.dep
  simp only [PyData.depth]
  omega
theorem Ft.mono {k n m i : Nat} {d : PyData} (a : Ft k n d) (h1 : k ≤ m) (h2 : n ≤ i) : Ft m i d := ⟨a.s, a.h, Nat.le_trans a.dep h1, a.l, Nat.le_trans a.w h2⟩
theorem FtA.mono {k n m i : Nat} {d : List PyData} (a : FtA k n d) (h1 : k ≤ m) (h2 : n ≤ i) : FtA m i d := ⟨a.s, a.h, Nat.le_trans a.dep h1, a.l, Nat.le_trans a.w h2⟩
theorem Ft.ok {d : PyData} {k n : Nat} (a : Ft k n d) (h1 : k ≤ 60) (h2 : n ≤ 33000) : Sh.Ok d := by
  refine ⟨a.s, a.h, Nat.le_trans a.dep h1, ?_⟩
  have := PyData.shown_le 500 (by decide) d a.l
  have e : sizeLine = 16777216 := sizeLine_eq
  have : (500 + 2) * d.weight ≤ 502 * 33000 := Nat.mul_le_mul (Nat.le_refl _) (Nat.le_trans a.w h2)
  omega
theorem ft_int {x : Int} (h : Lt2 350 x) : Ft 0 350 (.int x) := by
  have l := sz_log h
  refine ⟨?_, rfl, ?_, ?_, ?_⟩
  · simp only [PyData.showable, decide_eq_true_eq]
    omega
  · simp [PyData.depth]
  · simp only [PyData.leavesShort, decide_eq_true_eq]
    exact int_short' h
  · simp only [PyData.weight]
    split <;> omega
theorem ft_frac {q : F} (h : Sz q) : Ft 1 702 (dF q) := (FtA.cons (ft_int h.1) (FtA.cons (ft_int h.2) FtA.nil)).tup
theorem ft_fracs : ∀ {qs : List F}, SzA qs → FtA 1 (703 * qs.length) (qs.map dF)
  | [], _ => FtA.nil
  | q :: qs, h => by
    have a := FtA.cons (ft_frac (h q List.mem_cons_self)) (ft_fracs (qs := qs) fun r hr => h r (List.mem_cons_of_mem _ hr))
    refine a.mono (Nat.le_refl _) ?_
    rw [List.length_cons]
    omega
theorem ft_poly {qs : List F} {m : Nat} (h : SzA qs) (l : qs.length ≤ m) : Ft 2 (703 * m) (dP qs) := (ft_fracs h).tup.mono (Nat.le_refl _) (Nat.mul_le_mul (Nat.le_refl _) l)
theorem lt2_small {x : Int} {n : Nat} (h : x.natAbs < n) (hn : n ≤ 2 ^ 250) : Lt2 350 x := Lt2.mono (m := 250) (Nat.lt_of_lt_of_le h hn) (by decide)
theorem zs_sz {n : Nat} {q : F} (h : Zs n q) (e : n ≤ 38) : Sz q := by
  have h2 := h.mono e
  obtain ⟨o, t, v, l⟩ := h2
  have d := vl_dvd o v
  have p := six_pos 38
  have s : q.2 ≤ 6 ^ 38 := Int.le_of_dvd p d
  obtain ⟨x, hx⟩ := d
  have x0 : 0 < x := by
    rw [hx] at p
    exact Int.pos_of_mul_pos_right p o.1 |> id
  have et : q.1 * x = t := by
    unfold Vl at v
    refine mul_cancel (m := q.2) (by have := o.1; omega) ?_
    rw [← v, hx]
    grind
  have b : 2 ^ (9 * 38) < 2 ^ 350 := by decide
  refine ⟨?_, ?_⟩
  · refine Nat.lt_of_le_of_lt (Nat.le_trans ?_ l) b
    rw [← et, Int.natAbs_mul]
    exact Nat.le_mul_of_pos_right _ (by omega)
  · have c : (6 : Int) ^ 38 < 2 ^ 350 := by decide
    have := o.1
    show q.2.natAbs < 2 ^ 350
    omega
theorem za_sz {n : Nat} {l : List F} (h : Za n l) (e : n ≤ 38) : SzA l := fun q hq => zs_sz (h q hq) e
theorem ft_bool (b : Bool) : Ft 0 1 (.bool b) := by
  refine ⟨rfl, rfl, by simp [PyData.depth], ?_, by simp [PyData.weight]⟩
  cases b <;> decide

abbrev sDrawn : Stmt := top 44
def spDrawn (K : PySem.W.Frag) : Sp := fun vs H Q _ => ∃ (p c l : Addr) (n : Nat) (t : Int), vs = [.ref p] ∧ Sta H p c l n t ∧ t ≤ 7000 ∧
  ∀ (H' : Hp) (v : V) (T : F) (ls ss : List F) (t' : Int), Lad K H' v T ls ss → DrL T ls ss → t ≤ t' → t' ≤ t + 20 → Sta H' p c l n t' → Kp p l H H' → Q v H'
abbrev NDr : List Str := ["state", "many", "kind", "total", "levels", "steps", "k"]
/-- what stands while a ladder is drawn -/
structure Dw (K : PySem.W.Frag) (H H4 : Hp) (p c l : Addr) (n : Nat) (u : Int) (tv : V) (T0 : F) (D D2 : Addr) (ls ss : List F) : Prop where
  f : Fr K H4 tv T0
  zT : Zs 1 T0
  pT : 0 < T0.1
  g1 : ∃ xs, H4 D = some (.lst xs) ∧ FrAll K H4 xs ls
  g2 : ∃ ys, H4 D2 = some (.lst ys) ∧ FrAll K H4 ys ss
  zl : Za 1 ls
  zs : Za 1 ss
  S : Sta H4 p c l n u
  k : Kp p l H H4
  n1 : c ≠ D ∧ l ≠ D ∧ p ≠ D
  n2 : c ≠ D2 ∧ l ≠ D2 ∧ p ≠ D2
  nd : D ≠ D2
  h1 : H D = none
  h2 : H D2 = none
theorem kp_none {p l D : Addr} {H H4 : Hp} (k : Kp p l H H4) (h : H4 D = none) (n1 : p ≠ D) (n2 : l ≠ D) : H D = none := by
  cases e : H D with
  | none => rfl
  | some o =>
    have := k D o e n1.symm n2.symm
    rw [h] at this
    cases this
theorem Kp.off {p l D : Addr} {H H4 : Hp} {o : HO} (k : Kp p l H H4) (h : H D = none) : Kp p l H (upd H4 D o) := fun b' o' e m1 m2 => (upd_ne (ne_of_none e h)).trans (k b' o' e m1 m2)
theorem bare_neg {t : Int} (h : 0 ≤ t) : True := trivial
section
variable {P : Program} {w : World} {K : PySem.W.Frag} {mg : Str → Option Value} {base : Heap} {f : Addr} {fd : FuncData} {CM : Addr}
theorem scHeard' : FnScope ["ladder_so", "start", "way", "error"] ["ladder_so", "start", "way"] (defScope sHeard') := ⟨rfl, rfl, rfl, by decide +kernel, rfl, by decide +kernel, by decide +kernel⟩
theorem shaped_dI (w : List Int) : SeqAt.shaped (dI w) = true := by
  unfold SeqAt.shaped
  rw [Bool.and_eq_true_iff]
  refine ⟨?_, decide_eq_true ?_⟩
  · simpa [dI, PyData.canLay0] using can_ints w
  · have := dep_ints w
    simp only [dI, PyData.depth]
    omega
theorem eqv_ints : ∀ w : List Int, PyData.eqvAll (w.map PyData.int) (w.map PyData.int) = true
  | [] => by simp [PyData.eqvAll]
  | i :: w => by
    have := eqv_ints w
    simp [PyData.eqvAll, PyData.eqv, this]
theorem eqv_dI (w : List Int) : PyData.eqv (dI w) (dI w) = true := by
  show PyData.eqvAll (w.map PyData.int) (w.map PyData.int) = true
  exact eqv_ints w
theorem ok_lheard (F : Fun K "_law_heard" "_law_heard" sHeard' f fd) (M : ErrK K mg "Missing" "Missing.__init__" "given" sIMi CM) (WW : CalX P w K mg base 6 "way_worth" (spWayWorth K CM)) : FnOk P w K mg base CX0 7 f fd ["ladder_so", "start", "way"] (spOpt K) := by
  refine F.ok scHeard' (fun vs H Q E h => ?_) (fun cdv A outer s H vs Q E hr h => ?_)
  · obtain ⟨vL, v, T0, ls, ss, b, w, rfl, _⟩ := h
    rfl
  · obtain ⟨vL, v, T0, ls, ss, b, w, rfl, G, hl, b0, b4, kk⟩ := h
    obtain ⟨g, gd, gps, FF, gm, gk, gb⟩ := WW.ex
    refine ⟨_, pss_one (ps_try_as (i := 3) rfl rfl scHeard'.nd rfl rfl ⟨by rfl, by decide, .inl M.gC⟩ L2.takes0
      (fun W pn xe tk _ => pss_one (ps_ret (pe_lst (pa_cons (pe_callS FF hr (by rfl) gm gk gb (fun σ => passAt tk σ) (pa_cons (pv 0) (pa_cons (pv 1) (pa_cons (pv 2) pa_nil)))) pa_nil))))
      (fun a oe cls d pn hz hf => pss_one (ps_ret (pe_ifExp (pt_cmpR (r := rEqD K) (op_eqD hr.units) (pe_xf M.xf M.no hz hf (pv 3)) (pv 2) (nomark _)) (pe_lst pa_nil) pe_non)))), ?_⟩
    refine ⟨_, rfl, _, rfl, _, rfl, vL, v, T0, ls, ss, b, w, rfl, G, hl, b0, b4, fun q e H1 u s1 fu => ?_, fun e H1 s1 d hd => ?_⟩
    · refine ⟨(by show 1 ≤ sizeLine; decide), fun L hL => ?_⟩
      have u1 := same_new (o := .lst [u]) hL
      refine kk _ _ (s1.trans u1) ?_
      rw [e]
      exact ⟨L, rfl, u, SqL.of upd_same, fu.mono u1⟩
    · have s2 := same_new (o := .xd [("given", v)]) hd
      have it2 := G.it.mono (s1.trans s2)
      refine ⟨true, M.eq, fun _ a ha => ?_, fun z => by cases z⟩
      refine ⟨_, rfl, rfl, rfl, d, _, v, rfl, upd_same, rfl, _, rfl, dI w, dI w, it2.dp, it2.dp, shaped_dI w, shaped_dI w, _, rfl, ?_⟩
      rw [eqv_dI]
      refine iteT ⟨(by show 0 ≤ sizeLine; decide), fun L hL => ?_⟩
      have u1 := same_new (o := .lst []) hL
      refine kk _ _ (s1.trans (s2.trans u1)) ?_
      rw [e]
      exact ⟨L, rfl, SqL.of upd_same⟩
theorem scDrawn : FnScope NDr ["state"] (defScope sDrawn) := ⟨rfl, rfl, rfl, by decide +kernel, rfl, by decide +kernel, by decide +kernel⟩
theorem ok_drawn (F : Fun K "_law_drawn_ladder" "_law_drawn_ladder" sDrawn f fd) (T : Blt mg) (DR : Cal P w K mg base 2 "_law_draw" spDraw) (LR : Cal P w K mg base 1 "_law_ratio" spLRatio) : FnOk P w K mg base CX0 3 f fd ["state"] (spDrawn K) := by
  refine F.ok scDrawn (fun vs H Q E h => ?_) (fun cdv A outer s H vs Q E hr h => ?_)
  · obtain ⟨p, c, l, n, t, rfl, _⟩ := h
    rfl
  · obtain ⟨p, c, l, n, t, rfl, S, t7, kk⟩ := h
    refine ⟨_, pss_cons (ps_par (i := 1) (j := 2) (by rfl) scDrawn.nd rfl rfl (by decide) rfl rfl (pa_cons (pe_n DR hr (by decide) (by rfl) (pa_cons (pv 0) (pa_cons pe_int pa_nil))) (pa_cons (pe_n DR hr (by decide) (by rfl) (pa_cons (pv 0) (pa_cons pe_int pa_nil))) pa_nil)) (by rfl))
      (pss_cons (ps_set (i := 3) scDrawn.nd rfl (Or.inl rfl) (pe_n LR hr (by decide) (by rfl) (pa_cons (pe_op op_add pe_int (pe_n DR hr (by decide) (by rfl) (pa_cons (pv 0) (pa_cons pe_int pa_nil)))) (pa_cons (pe_op op_add pe_int (pe_n DR hr (by decide) (by rfl) (pa_cons (pv 0) (pa_cons pe_int pa_nil)))) pa_nil))))
      (C8.pss_cut (ps_setLc (i := 4) (own := [("k", 6)]) (g := gName 6) (tt := tYes) (by rfl) scDrawn.nd rfl rfl (sw_true rfl rfl rfl (by decide +kernel)) (pi_range1 rfl T.range (pa_cons (pv 1) pa_nil)) (blkOk_by (N := NDr) (sc := defScope sDrawn) (by decide +kernel))
          (fun _ _ _ _ _ => pg_name (i := 6) scDrawn.nd rfl (Or.inl rfl)) (fun _ _ _ _ _ => pts_nil)
          (fun _ _ _ _ _ => pe_n LR hr (by decide) (by rfl) (pa_cons (pe_op (r := rSub) op_sub (pe_n DR hr (by decide) (by rfl) (pa_cons (pv 0) (pa_cons pe_int pa_nil))) pe_int) (pa_cons (pe_op (r := rAdd) op_add pe_int (pe_n DR hr (by decide) (by rfl) (pa_cons (pv 0) (pa_cons pe_int pa_nil)))) pa_nil))))
      (C8.pss_cut (ps_setLc (i := 5) (own := [("k", 6)]) (g := gName 6) (tt := tYes) (by rfl) scDrawn.nd rfl rfl (sw_true rfl rfl rfl (by decide +kernel)) (pi_range1 rfl T.range (pa_cons (pv 1) pa_nil)) (blkOk_by (N := NDr) (sc := defScope sDrawn) (by decide +kernel))
          (fun _ _ _ _ _ => pg_name (i := 6) scDrawn.nd rfl (Or.inl rfl)) (fun _ _ _ _ _ => pts_nil)
          (fun _ _ _ _ _ => pe_n LR hr (by decide) (by rfl) (pa_cons (pe_op (r := rAdd) op_add pe_int (pe_n DR hr (by decide) (by rfl) (pa_cons (pv 0) (pa_cons pe_int pa_nil)))) (pa_cons (pe_op (r := rAdd) op_add pe_int (pe_n DR hr (by decide) (by rfl) (pa_cons (pv 0) (pa_cons pe_int pa_nil)))) pa_nil))))
      (C8.pss_cut (ps_if (PW.pt (pw_and (pt_cmpR op_eq (pv 2) pe_int (nomark _)) (pw_and1 (pt_cmpR op_gt (pv 1) pe_int (nomark _))))) (pss_one (ps_asg (pe_tup (pa_cons pe_int (pa_cons pe_int pa_nil))) (pg_sub (pv 5) (pe_op op_sub (pv 1) pe_int) set_list))) pss_nil)
      (C8.pss_cut (ps_if (pt_cmpR op_eq (pv 2) pe_int (nomark _)) (pss_one (ps_expr (pe_bm PySem.F.plainAttrs_list PySem.F.slot_list_append PySem.F.type_list_append mt_append (pv 4) (pa_cons (pe_n LR hr (by decide) (by rfl) (pa_cons (pe_op op_sub (pe_n DR hr (by decide) (by rfl) (pa_cons (pv 0) (pa_cons pe_int pa_nil))) pe_int) (pa_cons pe_int pa_nil))) pa_nil)))) pss_nil)
      (pss_one (ps_ret (pe_tup (pa_cons (pv 3) (pa_cons (pe_callTy call_tuple_of (by rfl) T.tuple (by decide +kernel) (pa_cons (pv 4) pa_nil)) (pa_cons (pe_callTy call_tuple_of (by rfl) T.tuple (by decide +kernel) (pa_cons (pv 5) pa_nil)) pa_nil))))))))))), ?_⟩
    refine ⟨_, rfl, p, c, l, n, t, 4, rfl, S, by omega, by decide, by decide, fun H1 x x0 x1 S1 k1 => ?_⟩
    refine ⟨_, rfl, p, c, l, n, t + 1, 3, rfl, S1, by omega, by decide, by decide, fun H2 y y0 y1 S2 k2 => ?_⟩
    refine ⟨_, _, rfl, ?_⟩
    refine ⟨_, rfl, p, c, l, n, _, 4, rfl, S2, by omega, by decide, by decide, fun H3 u u0 u1 S3 k3 => ?_⟩
    refine ⟨_, _, rfl, rfl, _, rfl, p, c, l, n, _, 2, rfl, S3, by omega, by decide, by decide, fun H4 v v0 v1 S4 k4 => ?_⟩
    refine ⟨_, _, rfl, rfl, 1 + u, 1 + v, rfl, by omega, ?_, fun b hb => ?_⟩
    · have : (1 + v).natAbs < 2 ^ 2 := by omega
      exact Lt2.mono (m := 2) this (by decide)
    have s5 := same_new (o := fr (red (1 + u) (1 + v))) hb
    have k5 := (k1.trans (k2.trans (k3.trans k4))).trans (Kp.of s5)
    have fT : Fr K (upd H4 b (fr (red (1 + u) (1 + v)))) (.ref b) (red (1 + u) (1 + v)) := Fr.of upd_same
    have zT : Zs 1 (red (1 + u) (1 + v)) := zs_red (by omega) (by omega) (by omega) (by omega)
    have pT := pos_red (x := 1 + u) (y := 1 + v) (by omega) (by omega)
    have S5 := S4.mono s5
    generalize upd H4 b (fr (red (1 + u) (1 + v))) = H5 at *
    generalize red (1 + u) (1 + v) = T0 at *
    clear S1 S2 S3 S4 k1 k2 k3 k4 s5 hb
    have et : t + 1 + 1 + 1 + 1 = t + 4 := by omega
    rw [et] at S5
    -- the levels
    refine ⟨fun σ H6 => ∃ (D : Addr) (ls : List Fq.F) (xs : List V), H6 D = some (.lst xs) ∧ FrAll K H6 xs ls ∧ ls.length = x.toNat ∧ Za 1 ls ∧ Fr K H6 (.ref b) T0 ∧ Sta H6 p c l n (t + 4 + 2 * x) ∧ Kp p l H H6 ∧ (c ≠ D ∧ l ≠ D ∧ p ≠ D) ∧ H D = none ∧ σ = [some (V.ref p), some (V.int x), some (V.int y), some (V.ref b), some (V.ref D), none, none], ?_, ?_⟩
    · obtain ⟨cs, c1, _⟩ := S5.cs
      obtain ⟨zs, l1, _⟩ := S5.ls
      refine ⟨_, rfl, x, rfl, by omega, by omega, fun D hD => ?_⟩
      have nc : c ≠ D := ne_of_none c1 hD
      have nl : l ≠ D := ne_of_none l1 hD
      have np : p ≠ D := ne_of_none S5.d hD
      have hN := kp_none k5 hD np nl
      have s1 := same_new (o := .lst []) hD
      refine lc_range (n := x.toNat) (fun i H6 => ∃ acc qs, H6 D = some (.lst acc) ∧ FrAll K H6 acc qs ∧ qs.length = i ∧ Za 1 qs ∧ Fr K H6 (.ref b) T0 ∧ Sta H6 p c l n (t + 4 + 2 * i) ∧ Kp p l H H6)
        ⟨[], [], upd_same, .nil, rfl, fun q h => by simp at h, fT.mono s1, by simpa using S5.mono s1, k5.trans (Kp.of s1)⟩ ?_ ?_
      · rintro i H6 hi ⟨acc, qs, hD6, fa, ql, q3, f6, S6, k6⟩
        refine ⟨rfl, ?_⟩
        refine iteT (B := ∃ acc qs, H6 D = some (.lst acc) ∧ FrAll K H6 acc qs ∧ qs.length = i + 1 ∧ Za 1 qs ∧ Fr K H6 (.ref b) T0 ∧ Sta H6 p c l n (t + 4 + 2 * ((i + 1 : Nat) : Int)) ∧ Kp p l H H6) ?_
        refine ⟨_, rfl, p, c, l, n, _, 7, rfl, S6, by omega, by decide, by decide, fun H7 u u0 u1 S7 k7 => ?_⟩
        refine ⟨_, _, rfl, rfl, _, rfl, p, c, l, n, _, 2, rfl, S7, by omega, by decide, by decide, fun H8 v v0 v1 S8 k8 => ?_⟩
        refine ⟨_, _, rfl, rfl, u - 3, 1 + v, rfl, by omega, ?_, fun q hq => ?_⟩
        · have : (1 + v).natAbs < 2 ^ 2 := by omega
          exact Lt2.mono (m := 2) this (by decide)
        have s9 := same_new (o := fr (red (u - 3) (1 + v))) hq
        have k79 := (k7.trans k8).trans (Kp.of s9)
        have hD9 := k79 D _ hD6 np.symm nl.symm
        refine ⟨acc, hD9, small1000 (by rw [fa.len]; omega), _, qs ++ [red (u - 3) (1 + v)], upd_same, (FrAll.off hD9 (fa.kp k79 S6)).snoc ((Fr.of upd_same).off hD9), ?_, ?_, (k79.fr S6 f6).off hD9, ?_, (k6.trans k79).off hN⟩
        · rw [List.length_append, ql]
          rfl
        · intro r hr
          rcases List.mem_append.mp hr with h | h
          · exact q3 r h
          · rw [List.mem_singleton.mp h]
            exact zs_red (by omega) (by omega) (by omega) (by omega)
        · have e : t + 4 + 2 * (i : Int) + 1 + 1 = t + 4 + 2 * ((i + 1 : Nat) : Int) := by omega
          rw [e] at S8
          exact (S8.mono s9).off hD9 nc nl
      · rintro H6 ⟨acc, qs, hD6, fa, ql, q3, f6, S6, k6⟩
        have e : t + 4 + 2 * ((x.toNat : Nat) : Int) = t + 4 + 2 * x := by omega
        rw [e] at S6
        exact ⟨D, qs, acc, hD6, fa, ql, q3, f6, S6, k6, ⟨nc, nl, np⟩, hN, rfl⟩
    clear S5 k5 fT
    rintro σ H5 ⟨D, ls, xs, gD, fx, lx, zl, fT, S5, k5, n1, h1, rfl⟩
    have x3 : x.toNat ≤ 3 := by omega
    -- the steps
    refine ⟨fun σ H6 => ∃ (D2 : Addr) (ss : List Fq.F), Dw K H H6 p c l n (t + 4 + 4 * x) (.ref b) T0 D D2 ls ss ∧ above ss = true ∧ ss.length = x.toNat ∧ σ = [some (V.ref p), some (V.int x), some (V.int y), some (V.ref b), some (V.ref D), some (V.ref D2), none], ?_, ?_⟩
    · obtain ⟨cs, c1, _⟩ := S5.cs
      obtain ⟨zs, l1, _⟩ := S5.ls
      refine ⟨_, rfl, x, rfl, by omega, by omega, fun D2 hD => ?_⟩
      have nc : c ≠ D2 := ne_of_none c1 hD
      have nl : l ≠ D2 := ne_of_none l1 hD
      have np : p ≠ D2 := ne_of_none S5.d hD
      have nd : D ≠ D2 := ne_of_none gD hD
      have hN := kp_none k5 hD np nl
      have s1 := same_new (o := .lst []) hD
      refine lc_range (n := x.toNat) (fun i H6 => ∃ acc qs, H6 D2 = some (.lst acc) ∧ FrAll K H6 acc qs ∧ qs.length = i ∧ Za 1 qs ∧ above qs = true ∧ Fr K H6 (.ref b) T0 ∧ Sta H6 p c l n (t + 4 + 2 * x + 2 * i) ∧ Kp p l H H6 ∧ H6 D = some (.lst xs) ∧ FrAll K H6 xs ls)
        ⟨[], [], upd_same, .nil, rfl, fun q h => by simp at h, rfl, fT.mono s1, by simpa using S5.mono s1, k5.trans (Kp.of s1), s1 _ _ gD, fx.mono s1⟩ ?_ ?_
      · rintro i H6 hi ⟨acc, qs, hD6, fa, ql, q3, qa, f6, S6, k6, g6, fx6⟩
        refine ⟨rfl, ?_⟩
        refine iteT (B := ∃ acc qs, H6 D2 = some (.lst acc) ∧ FrAll K H6 acc qs ∧ qs.length = i + 1 ∧ Za 1 qs ∧ above qs = true ∧ Fr K H6 (.ref b) T0 ∧ Sta H6 p c l n (t + 4 + 2 * x + 2 * ((i + 1 : Nat) : Int)) ∧ Kp p l H H6 ∧ H6 D = some (.lst xs) ∧ FrAll K H6 xs ls) ?_
        refine ⟨_, rfl, p, c, l, n, _, 4, rfl, S6, by omega, by decide, by decide, fun H7 u u0 u1 S7 k7 => ?_⟩
        refine ⟨_, _, rfl, rfl, _, rfl, p, c, l, n, _, 2, rfl, S7, by omega, by decide, by decide, fun H8 v v0 v1 S8 k8 => ?_⟩
        refine ⟨_, _, rfl, rfl, 1 + u, 1 + v, rfl, by omega, ?_, fun q hq => ?_⟩
        · have : (1 + v).natAbs < 2 ^ 2 := by omega
          exact Lt2.mono (m := 2) this (by decide)
        have s9 := same_new (o := fr (red (1 + u) (1 + v))) hq
        have k79 := (k7.trans k8).trans (Kp.of s9)
        have hD9 := k79 D2 _ hD6 np.symm nl.symm
        refine ⟨acc, hD9, small1000 (by rw [fa.len]; omega), _, qs ++ [red (1 + u) (1 + v)], upd_same, (FrAll.off hD9 (fa.kp k79 S6)).snoc ((Fr.of upd_same).off hD9), ?_, ?_, ?_, (k79.fr S6 f6).off hD9, ?_, (k6.trans k79).off hN, (upd_ne nd).trans (k79 D _ g6 n1.2.2.symm n1.2.1.symm), FrAll.off hD9 (fx6.kp k79 S6)⟩
        · rw [List.length_append, ql]
          rfl
        · intro r hr
          rcases List.mem_append.mp hr with h | h
          · exact q3 r h
          · rw [List.mem_singleton.mp h]
            exact zs_red (by omega) (by omega) (by omega) (by omega)
        · refine above_app qa ?_
          show (decide (0 < (red (1 + u) (1 + v)).1) && true) = true
          rw [decide_eq_true (pos_red (by omega) (by omega))]
          rfl
        · have e : t + 4 + 2 * x + 2 * (i : Int) + 1 + 1 = t + 4 + 2 * x + 2 * ((i + 1 : Nat) : Int) := by omega
          rw [e] at S8
          exact (S8.mono s9).off hD9 nc nl
      · rintro H6 ⟨acc, qs, hD6, fa, ql, q3, qa, f6, S6, k6, g6, fx6⟩
        have e : t + 4 + 2 * x + 2 * ((x.toNat : Nat) : Int) = t + 4 + 4 * x := by omega
        rw [e] at S6
        exact ⟨D2, qs, ⟨f6, zT, pT, ⟨xs, g6, fx6⟩, ⟨acc, hD6, fa⟩, zl, q3, S6, k6, n1, ⟨nc, nl, np⟩, nd, h1, hN⟩, qa, ql, rfl⟩
    clear S5 k5 fT gD fx
    rintro σ H5 ⟨D2, ss, W, qa, ql, rfl⟩
    -- the last step nought
    refine ⟨fun σ H6 => ∃ ss, Dw K H H6 p c l n (t + 4 + 4 * x) (.ref b) T0 D D2 ls ss ∧ ss.length = x.toNat ∧ (above ss = true ∨ (y = 0 ∧ ss ≠ [] ∧ co ss (ss.length - 1) = (0, 1) ∧ above (ss.take (ss.length - 1)) = true)) ∧ σ = [some (V.ref p), some (V.int x), some (V.int y), some (V.ref b), some (V.ref D), some (V.ref D2), none], ?_, ?_⟩
    · refine ⟨_, rfl, rfl, _, rfl, ?_⟩
      refine ite2 (fun e1 => ?_) (fun _ => ⟨ss, W, ql, .inl qa, rfl⟩)
      have y0' : y = 0 := V.int.inj (of_decide_eq_true e1)
      refine ⟨_, rfl, _, _, rfl, rfl, _, rfl, ?_⟩
      refine ite2 (fun e2 => ?_) (fun _ => ⟨ss, W, ql, .inl qa, rfl⟩)
      have xp : 0 < x := of_decide_eq_true e2
      obtain ⟨ys, gy, fy⟩ := W.g2
      obtain ⟨xs, gx, fx⟩ := W.g1
      have ly := fy.len
      refine ⟨(by show 2 ≤ sizeLine; decide), fun z hz => ?_⟩
      have s6 := same_new (o := .tup [.int 0, .int 1]) hz
      have hD6 := s6 _ _ gy
      have hix : ixN ys.length (x - 1) = some (ss.length - 1) := by
        unfold ixN
        rw [if_pos (by omega), if_pos (by omega)]
        congr 1
        omega
      refine ⟨_, rfl, _, rfl, _, _, rfl, rfl, D2, ys, _, _, rfl, rfl, hD6, hix, ?_⟩
      refine ⟨ss.set (ss.length - 1) (0, 1), ⟨(W.f.mono s6).off hD6, W.zT, W.pT, ⟨xs, (upd_ne W.nd).trans (s6 _ _ gx), FrAll.off hD6 (fx.mono s6)⟩, ⟨_, upd_same, FrAll.set _ (FrAll.off hD6 (fy.mono s6)) ((show Fr K (upd H5 z (.tup [.int 0, .int 1])) (.ref z) (0, 1) from Fr.of upd_same).off hD6)⟩, W.zl, za_set W.zs Zs.zero _, (W.S.mono s6).off hD6 W.n2.1 W.n2.2.1, (W.k.trans (Kp.of s6)).off W.h2, W.n1, W.n2, W.nd, W.h1, W.h2⟩, by rw [List.length_set]; exact ql, .inr ⟨y0', fun e => ?_, ?_, ?_⟩, rfl⟩
      · have := congrArg List.length e
        rw [List.length_set] at this
        have h0 : ss.length = 0 := this
        omega
      · rw [List.length_set, co_set _ (by omega), if_pos rfl]
      · rw [List.length_set, List.take_set, List.set_eq_of_length_le (by rw [List.length_take]; omega)]
        exact above_take _ qa
    clear W qa ql
    rintro σ H5 ⟨ss, W, ql, sh, rfl⟩
    -- one level more
    refine ⟨fun σ H6 => ∃ ls u, Dw K H H6 p c l n u (.ref b) T0 D D2 ls ss ∧ t ≤ u ∧ u ≤ t + 20 ∧ DrL T0 ls ss ∧ σ = [some (V.ref p), some (V.int x), some (V.int y), some (V.ref b), some (V.ref D), some (V.ref D2), none], ?_, ?_⟩
    · refine ⟨_, rfl, rfl, _, rfl, ?_⟩
      refine ite2 (fun e1 => ?_) (fun e1 => ?_)
      · have y1' : y = 1 := V.int.inj (of_decide_eq_true e1)
        have qa : above ss = true := by
          rcases sh with h | h
          · exact h
          · omega
        obtain ⟨ys, gy, fy⟩ := W.g2
        obtain ⟨xs, gx, fx⟩ := W.g1
        refine ⟨_, rfl, .inl ⟨rfl, _, SqL.of gx⟩, _, rfl, p, c, l, n, _, 7, rfl, W.S, by omega, by decide, by decide, fun H7 u u0 u1 S7 k7 => ?_⟩
        refine ⟨_, _, rfl, rfl, u - 3, 1, rfl, by decide, (by show (1 : Int).natAbs < _; exact Nat.one_lt_two_pow (by decide)), fun q hq => ?_⟩
        have s9 := same_new (o := fr (red (u - 3) 1)) hq
        have k79 := k7.trans (Kp.of s9)
        have gx9 := k79 D _ gx W.n1.2.2.symm W.n1.2.1.symm
        have gy9 := k79 D2 _ gy W.n2.2.2.symm W.n2.2.1.symm
        have lx9 := fx.len
        refine ⟨D, xs, _, rfl, rfl, gx9, small1000 (by omega), ?_⟩
        refine ⟨ls ++ [red (u - 3) 1], t + 4 + 4 * x + 1, ⟨(k79.fr W.S W.f).off gx9, W.zT, W.pT, ⟨_, upd_same, (FrAll.off gx9 (fx.kp k79 W.S)).snoc ((Fr.of upd_same).off gx9)⟩, ⟨ys, (upd_ne W.nd.symm).trans gy9, FrAll.off gx9 (fy.kp k79 W.S)⟩, ?_, W.zs, (S7.mono s9).off gx9 W.n1.1 W.n1.2.1, (W.k.trans k79).off W.h1, W.n1, W.n2, W.nd, W.h1, W.h2⟩, by omega, by omega, ?_, rfl⟩
        · intro r hr
          rcases List.mem_append.mp hr with h | h
          · exact W.zl r h
          · rw [List.mem_singleton.mp h]
            exact zs_red (by omega) (by omega) (by omega) (by omega)
        · refine ⟨W.zT, W.pT, ?_, W.zs, by rw [List.length_append, lx]; show x.toNat + 1 ≤ 4; omega, .inl ⟨qa, .inr ?_⟩⟩
          · intro r hr
            rcases List.mem_append.mp hr with h | h
            · exact W.zl r h
            · rw [List.mem_singleton.mp h]
              exact zs_red (by omega) (by omega) (by omega) (by omega)
          · rw [List.length_append, lx, ql]
            rfl
      · refine ⟨ls, _, W, by omega, by omega, ⟨W.zT, W.pT, W.zl, W.zs, by omega, ?_⟩, rfl⟩
        rcases sh with h | ⟨_, h2, h3, h4⟩
        · exact .inl ⟨h, .inl (by omega)⟩
        · exact .inr ⟨by omega, h2, h3, h4⟩
    clear W sh lx zl
    rintro σ H5 ⟨ls, u, W, u1, u2, dr, rfl⟩
    obtain ⟨ys, gy, fy⟩ := W.g2
    obtain ⟨xs, gx, fx⟩ := W.g1
    refine ⟨_, rfl, _, rfl, D, xs, rfl, .inl ⟨SqL.of gx, fun p5 hp5 => ?_⟩⟩
    have s8 := same_new (o := .tup xs) hp5
    refine ⟨_, rfl, D2, ys, rfl, .inl ⟨SqL.of (s8 _ _ gy), fun p6 hp6 => ?_⟩⟩
    have s9 := same_new (o := .tup ys) hp6
    refine ⟨(by show 3 ≤ sizeLine; decide), fun p7 hp7 => ?_⟩
    have s10 := same_new (o := .tup [V.ref b, V.ref p5, V.ref p6]) hp7
    have sa := (s8.trans s9).trans s10
    exact kk _ (.ref p7) T0 ls ss u ⟨p7, _, _, _, rfl, SqT.of upd_same, W.f.mono sa, ⟨p5, xs, rfl, SqT.of (s10 _ _ (s9 _ _ upd_same)), fx.mono sa⟩, ⟨p6, ys, rfl, SqT.of (s10 _ _ upd_same), fy.mono sa⟩⟩ dr u1 u2 (W.S.mono sa) (W.k.trans (Kp.of sa))
end
end Rs


set_option Elab.async false
set_option linter.all false
set_option maxRecDepth 100000
set_option maxHeartbeats 1000000
namespace Rs
open PySem L2 Bs Fq LamX RZ
/-! ### what is told of all ways of a ladder -/
theorem ft_ints : ∀ {ns : List Int}, (∀ x ∈ ns, x.natAbs < 16) → FtA 0 (5 * ns.length) (ns.map PyData.int)
  | [], _ => FtA.nil
  | x :: ns, h => by
    have hx := h x List.mem_cons_self
    have a : Ft 0 4 (.int x) := by
      have f := ft_int (lt2_small hx (by decide))
      refine ⟨f.s, f.h, f.dep, f.l, ?_⟩
      simp only [PyData.weight]
      split
      · omega
      · have : x.natAbs.log2 < 4 := PySem.Flt.log2_lt_of (by decide) (by omega)
        omega
    refine (FtA.cons a (ft_ints (ns := ns) fun r hr => h r (List.mem_cons_of_mem _ hr))).mono (Nat.le_refl _) ?_
    rw [List.length_cons]
    omega
theorem ft_dI {ns : List Int} {k : Nat} (h : ∀ x ∈ ns, x.natAbs < 16) (l : ns.length ≤ k) : Ft 1 (5 * k) (dI ns) := (ft_ints h).tup.mono (Nat.le_refl _) (Nat.mul_le_mul (Nat.le_refl _) l)
theorem ft_ws : ∀ {ws : List (List Int)} {k : Nat}, (∀ w ∈ ws, tri w ∧ w.length ≤ k) → FtA 1 ((5 * k + 1) * ws.length) (ws.map dI)
  | [], _, _ => FtA.nil
  | w :: ws, k, h => by
    have hw := h w List.mem_cons_self
    have a : Ft 1 (5 * k) (dI w) := ft_dI (fun x hx => by rcases hw.1 x hx with rfl | rfl | rfl <;> decide) hw.2
    refine (FtA.cons a (ft_ws (ws := ws) fun r hr => h r (List.mem_cons_of_mem _ hr))).mono (Nat.le_refl _) ?_
    rw [List.length_cons, Nat.mul_succ]
    omega
theorem sh_ways {b e : Int} (b0 : 0 ≤ b) {m : Nat} (hm : m ≤ 5) : Sh.Ok (dW (ways b e m)) := by
  have l := ways_len b e m
  have l2 : 3 ^ m ≤ 243 := Nat.pow_le_pow_right (by decide) hm
  have f := (ft_ws (k := 5) fun w hw => ⟨(ways_way (e := e) b0 m w hw).1.t, by rw [(ways_way (e := e) b0 m w hw).2]; exact hm⟩).tup
  exact f.ok (by decide) (Nat.le_trans (Nat.mul_le_mul (Nat.le_refl _) (Nat.le_trans l l2)) (by decide))
theorem hts_le (b : Int) (w : List Int) (t : tri w) : ∀ h ∈ hts b w, h ≤ b + w.length := by
  induction w generalizing b with
  | nil =>
    intro h hh
    rw [List.mem_singleton.mp hh]
    exact Int.le_of_eq (Int.add_zero b).symm
  | cons s w ih =>
    intro h hh
    rw [List.length_cons]
    rcases List.mem_cons.mp hh with rfl | hh
    · omega
    · have := ih (b + s) (fun x hx => t x (List.mem_cons_of_mem _ hx)) h hh
      have := t s List.mem_cons_self
      omega
theorem sh_hts {b : Int} {w : List Int} (W : Way b w) (b4 : b ≤ 4) (l : w.length ≤ 8) : Sh.Ok (dI (hts b w)) := by
  refine (ft_dI (k := 9) (fun x hx => ?_) (by rw [hts_len]; omega)).ok (by decide) (by decide)
  have := hts_le b w W.t x hx
  have := W.u x hx
  omega
theorem wv_zs {E : Bool} {ls ss : List F} (zl : Za 1 ls) (zs : Za 1 ss) (b : Int) (w : List Int) {q : F} (h : wv E ls ss b w = some q) : Zs w.length q := by
  unfold wv at h
  split at h
  · cases h
    exact Zs.zero
  · split at h
    · cases h
    · cases h
      exact fnd_zs zl zs b w _
theorem sh_O {o : Option F} (h : ∀ q, o = some q → Sz q) : Sh.Ok (dO o) := by
  cases o with
  | none => exact (FtA.nil (k := 0)).lst.ok (by decide) (by decide)
  | some q => exact (FtA.cons (ft_frac (h q rfl)) FtA.nil).lst.ok (by decide) (by decide)
theorem sh_lad {T : F} {ls ss : List F} (h : DrL T ls ss) : Sh.Ok (dL T ls ss) := by
  have l3 := h.l3
  have m3 : ss.length ≤ 4 := by rcases h.sh with ⟨_, e⟩ | ⟨e, _⟩ <;> omega
  have e1 := ft_frac (zs_sz h.zT (by decide))
  have e2 := ft_poly (m := 4) (za_sz h.zl (by decide)) l3
  have e3 := ft_poly (m := 4) (za_sz h.zs (by decide)) m3
  exact (FtA.cons (e1.mono (m := 2) (by decide) (Nat.le_refl _)) (FtA.cons e2 (FtA.cons e3 FtA.nil))).tup.ok (by decide) (by decide)
theorem can_ws : ∀ ws : List (List Int), PyData.canLayAll0 (ws.map dI) = true
  | [] => by simp [PyData.canLayAll0]
  | w :: ws => by
    have := can_ws ws
    have h := can_ints w
    simp [PyData.canLayAll0, PyData.canLay0, dI, this, h]
theorem dep_ws : ∀ ws : List (List Int), PyData.depthAll (ws.map dI) ≤ 2
  | [] => by simp [PyData.depthAll]
  | w :: ws => by
    have := dep_ws ws
    have h := dep_ints w
    simp only [List.map_cons, PyData.depthAll, PyData.depth, dI]
    omega
theorem shaped_dW (ws : List (List Int)) : SeqAt.shaped (dW ws) = true := by
  unfold SeqAt.shaped
  rw [Bool.and_eq_true_iff]
  refine ⟨?_, decide_eq_true ?_⟩
  · simpa [dW, PyData.canLay0] using can_ws ws
  · have := dep_ws ws
    simp only [dW, PyData.depth]
    omega
theorem eqv_dW : ∀ ws : List (List Int), PyData.eqv (dW ws) (dW ws) = true := by
  intro ws
  show PyData.eqvAll (ws.map dI) (ws.map dI) = true
  induction ws with
  | nil => rfl
  | cons q qs ih =>
    show (PyData.eqv (dI q) (dI q) && PyData.eqvAll (qs.map dI) (qs.map dI)) = true
    rw [eqv_dI, ih]
    rfl
theorem Al.mem {α : Type} {R : V → α → Prop} : ∀ {vs : List V} {qs : List α}, Al R vs qs → ∀ v ∈ vs, ∃ q ∈ qs, R v q
  | _, _, .nil, v, h => by cases h
  | _, _, .cons a b, v, h => by
    rcases List.mem_cons.mp h with rfl | h
    · exact ⟨_, List.mem_cons_self, a⟩
    · obtain ⟨q, hq, r⟩ := Al.mem b v h
      exact ⟨q, List.mem_cons_of_mem _ hq, r⟩
theorem cutV_mem {xs : List V} {lo hi : Option Int} {v : V} (h : v ∈ cutV xs lo hi) : v ∈ xs := List.mem_of_mem_drop (List.mem_of_mem_take h)
/-- a slice, whichever -/
theorem sl_any {K : PySem.W.Frag} {H : Hp} {Q : VK} {a : Addr} {xs : List V} {lo hi : Option Int} (ha : SqT K H a xs) (k : ∀ c H' ys, Same H H' → SqT K H' c ys → (∀ v ∈ ys, v ∈ xs) → ys.length ≤ xs.length → Q (.ref c) H') : rSlA K (.ref a) lo hi H Q :=
  ⟨a, xs, rfl, ha, fun _ => k a H xs (fun _ _ z => z) ha (fun _ h => h) (Nat.le_refl _), fun _ p hp => k p _ _ (same_new hp) (SqT.of upd_same) (fun _ h => cutV_mem h) (cutV_length _ _ _)⟩
abbrev sRight : Stmt := top 50
def spRight (K : PySem.W.Frag) : Sp := fun vs H Q _ => ∃ (vL : V) (T : F) (ls ss : List F) (b e : Int) (m : Nat), vs = [vL, .int b, .int e, .int m] ∧ Lad K H vL T ls ss ∧ DrL T ls ss ∧ 0 ≤ b ∧ b ≤ 4 ∧ 0 ≤ e ∧ e ≤ 4 ∧ m ≤ 5 ∧ ∀ H', Same H H' → Q (.bl true) H'
abbrev NRt : List Str := ["ladder_so", "start", "stop", "many", "kept", "due", "way"]
section
variable {P : Program} {w : World} {K : PySem.W.Frag} {mg : Str → Option Value} {base : Heap} {f : Addr} {fd : FuncData}
theorem scRight : FnScope NRt ["ladder_so", "start", "stop", "many"] (defScope sRight) := ⟨rfl, rfl, rfl, by decide +kernel, rfl, by decide +kernel, by decide +kernel⟩
theorem ok_right (F : Fun K "_law_right" "_law_right" sRight f fd) (T : Blt mg) (LW : Cal P w K mg base 1 "_law_ways" (spLWays K)) (AW : Cal P w K mg base 5 "all_ways" (spWays K)) (HO : Cal P w K mg base 6 "heights_of" (spHtsOf K)) (LH : Cal P w K mg base 1 "_law_heights" (spHts K))
    (HE : Cal P w K mg base 7 "_law_heard" (spOpt K)) (LO : Cal P w K mg base 3 "_law_way_worth" (spOpt K)) : FnG P w K mg base 8 f fd ["ladder_so", "start", "stop", "many"] (spRight K) := by
  refine FnG.ok F scRight (fun vs H Q E h => ?_) (fun cdv A outer s H vs Q E hgd hr h => ?_)
  · obtain ⟨vL, T0, ls, ss, b, e, m, rfl, _⟩ := h
    rfl
  · obtain ⟨vL, T0, ls, ss, b, e, m, rfl, lad, dl, b0, b4, e0, e4, m5, kk⟩ := h
    have hrep := fun (es : List Expr) => True
    refine ⟨_, C8.pss_cut (ps_par (i := 4) (j := 5) (by rfl) scRight.nd rfl rfl (by decide) rfl rfl (pa_cons (pe_callB (call_repr hgd hr.units) (by rfl) T.repr (by decide +kernel) (pa_cons (pv 0) pa_nil)) (pa_cons (pe_callTy call_tuple_of (by rfl) T.tuple (by decide +kernel) (pa_cons (pe_n LW hr (by decide) (by rfl) (pa_cons (pv 1) (pa_cons (pv 2) (pa_cons (pv 3) pa_nil)))) pa_nil)) pa_nil)) (by rfl))
      (C8.pss_cut (ps_if (PW.pt (pw_or (pt_cmpR op_ne (pe_callB (call_repr hgd hr.units) (by rfl) T.repr (by decide +kernel) (pa_cons (pe_n AW hr (by decide) (by rfl) (pa_cons (pv 1) (pa_cons (pv 2) (pa_cons (pv 3) pa_nil)))) pa_nil)) (pe_callB (call_repr hgd hr.units) (by rfl) T.repr (by decide +kernel) (pa_cons (pv 5) pa_nil)) (nomark _))
          (pw_or1 (pt_cmpR (op_neD hr.units) (pe_n AW hr (by decide) (by rfl) (pa_cons (pv 1) (pa_cons (pv 2) (pa_cons (pv 3) pa_nil)))) (pv 5) (nomark _))))) (pss_one (ps_ret pe_bl)) pss_nil)
      (C8.pss_cut (ps_for PassesOwn.never rfl (pi_tup (pe_op op_catA (pe_slice sl_tupA (pv 5) po_none (po_some pe_int)) (pe_slice sl_tupA (pv 5) (po_some (pe_un un_neg pe_int)) po_none))) (pg_name (i := 6) scRight.nd rfl (.inl rfl))
        (C8.pss_cut (ps_if (pt_cmpR op_ne (pe_callB (call_repr hgd hr.units) (by rfl) T.repr (by decide +kernel) (pa_cons (pe_n HO hr (by decide) (by rfl) (pa_cons (pv 1) (pa_cons (pv 6) pa_nil))) pa_nil)) (pe_callB (call_repr hgd hr.units) (by rfl) T.repr (by decide +kernel) (pa_cons (pe_n LH hr (by decide) (by rfl) (pa_cons (pv 1) (pa_cons (pv 6) pa_nil))) pa_nil)) (nomark _)) (pss_one (ps_ret pe_bl)) pss_nil)
        (pss_one (ps_if (pt_cmpR op_ne (pe_callB (call_repr hgd hr.units) (by rfl) T.repr (by decide +kernel) (pa_cons (pe_n HE hr (by decide) (by rfl) (pa_cons (pv 0) (pa_cons (pv 1) (pa_cons (pv 6) pa_nil)))) pa_nil)) (pe_callB (call_repr hgd hr.units) (by rfl) T.repr (by decide +kernel) (pa_cons (pe_n LO hr (by decide) (by rfl) (pa_cons (pv 0) (pa_cons (pv 1) (pa_cons (pv 6) pa_nil)))) pa_nil)) (nomark _)) (pss_one (ps_ret pe_bl)) pss_nil))))
      (pss_one (ps_ret (pe_cmpR op_eq (pe_callB (call_repr hgd hr.units) (by rfl) T.repr (by decide +kernel) (pa_cons (pv 0) pa_nil)) (pv 4) (nomark _)))))), ?_⟩
    have shL := sh_lad dl
    have shW := sh_ways (e := e) b0 m5
    obtain ⟨aL, v1, v2, v3, rfl, lrest⟩ := id lad
    clear lrest
    -- kept, due
    refine ⟨fun σ H1 => ∃ vD, Same H H1 ∧ Wt K H1 vD (ways b e m) ∧ σ = [some (V.ref aL), some (V.int b), some (V.int e), some (V.int m), some (V.str (dL T0 ls ss).shown), some vD, none], ?_, ?_⟩
    · refine ⟨_, rfl, aL, dL T0 ls ss, rfl, lad.dp, shL.s, shL.n, shL.dep, shL.l, ?_⟩
      refine ⟨_, rfl, _, rfl, _, rfl, b, e, m, rfl, b0, b4, e0, e4, by omega, fun H1 u s1 hu => ?_⟩
      obtain ⟨a, us, rfl, sl, al⟩ := hu
      refine ⟨a, us, rfl, .inl ⟨sl, fun p hp => ?_⟩⟩
      have s2 := same_new (o := .tup us) hp
      exact ⟨_, _, rfl, .ref p, s1.trans s2, ⟨p, us, rfl, SqT.of upd_same, al.imp fun _ _ z => z.mono s2⟩, rfl⟩
    rintro σ H1 ⟨vD, s1, wD, rfl⟩
    obtain ⟨aD, vs, rfl, sD, al⟩ := id wD
    -- the listing
    refine ⟨fun σ H2 => Same H H2 ∧ Wt K H2 (.ref aD) (ways b e m) ∧ σ = [some (V.ref aL), some (V.int b), some (V.int e), some (V.int m), some (V.str (dL T0 ls ss).shown), some (.ref aD), none], ?_, ?_⟩
    · refine ⟨_, rfl, _, rfl, _, rfl, b, e, m, rfl, b0, b4, e0, e4, by omega, fun H2 u s2 hu => ?_⟩
      obtain ⟨a, us, rfl, sl, al2⟩ := id hu
      refine ⟨a, dW (ways b e m), rfl, hu.dp, shW.s, shW.n, shW.dep, shW.l, ?_⟩
      refine ⟨_, rfl, aD, dW (ways b e m), rfl, (wD.mono s2).dp, shW.s, shW.n, shW.dep, shW.l, ?_⟩
      refine ⟨rfl, false, by simp, ?_⟩
      refine ⟨_, rfl, _, rfl, _, rfl, b, e, m, rfl, b0, b4, e0, e4, by omega, fun H3 u s3 hu3 => ?_⟩
      refine ⟨_, rfl, dW (ways b e m), dW (ways b e m), hu3.dp, (wD.mono (s2.trans s3)).dp, shaped_dW _, shaped_dW _, _, rfl, ?_⟩
      rw [eqv_dW]
      exact iteF ⟨s1.trans (s2.trans s3), wD.mono (s2.trans s3), rfl⟩
    clear wD sD al
    rintro σ H2 ⟨s2, wD, rfl⟩
    obtain ⟨aD', vs, ea, sD, al⟩ := id wD
    cases ea
    -- way by way
    refine ⟨fun σ H3 => Same H H3 ∧ ∃ v6, σ = [some (V.ref aL), some (V.int b), some (V.int e), some (V.int m), some (V.str (dL T0 ls ss).shown), some (.ref aD), v6], ?_, ?_⟩
    · refine ⟨_, rfl, _, rfl, sl_any sD fun c1 H3 xs1 s3 q1 m1 l1 => ?_⟩
      refine ⟨_, rfl, _, rfl, _, rfl, ?_⟩
      unfold tNoPart
      refine sl_any (Bs.Same.t s3 sD) fun c2 H4 xs2 s4 q2 m2 l2 => ?_
      refine cat_any (Bs.Same.t s4 q1) q2 ?_ fun c3 H5 s5 q3 => ?_
      · have := al.len
        have := ways_len b e m
        have l2 : 3 ^ m ≤ 243 := Nat.pow_le_pow_right (by decide) m5
        exact Nat.le_of_lt (small1000 (by omega))
      have s35 := s3.trans (s4.trans s5)
      have s25 := s2.trans s35
      refine ⟨c3, rfl, ⟨_, q3⟩, for_tup (K := K) (a := c3) (xs := xs1 ++ xs2) (fun i σ H6 => Same H5 H6 ∧ ∃ v6, σ = [some (V.ref aL), some (V.int b), some (V.int e), some (V.int m), some (V.str (dL T0 ls ss).shown), some (.ref aD), v6])
        ⟨fun _ _ z => z, none, rfl⟩ (fun i σ H6 _ q => Bs.Same.t q.1 q3) ?_ ?_⟩
      · rintro i x σ H6 hx ⟨s6, v6, rfl⟩
        have hx' : x ∈ vs := by
          rcases List.mem_append.mp (List.mem_of_getElem? hx) with h | h
          · exact m1 _ h
          · exact m2 _ h
        obtain ⟨wy, hw, it⟩ := al.mem x hx'
        obtain ⟨W, lw⟩ := ways_way (e := e) b0 m wy hw
        have it6 := it.mono (s35.trans s6)
        have lad6 := lad.mono (s25.trans s6)
        have shH := sh_hts W b4 (by omega)
        have shO := sh_O (o := wv (endB ss) ls ss b wy) fun q hq => zs_sz (wv_zs dl.zl dl.zs b wy hq) (by omega)
        refine ⟨fun σ H7 => Same H6 H7 ∧ σ = [some (V.ref aL), some (V.int b), some (V.int e), some (V.int m), some (V.str (dL T0 ls ss).shown), some (.ref aD), some x], ?_, ?_⟩
        · refine ⟨_, rfl, _, rfl, b, x, wy, rfl, it6, W, by omega, b0, b4, fun H7 u s7 hu => ?_⟩
          obtain ⟨ah, rfl, sh⟩ := id hu
          refine ⟨ah, dI (hts b wy), rfl, hu.dp, shH.s, shH.n, shH.dep, shH.l, ?_⟩
          refine ⟨_, rfl, _, rfl, b, x, wy, rfl, it6.mono s7, by omega, fun H8 u s8 hu8 => ?_⟩
          obtain ⟨ah, rfl, sh⟩ := id hu8
          refine ⟨ah, dI (hts b wy), rfl, hu8.dp, shH.s, shH.n, shH.dep, shH.l, ?_⟩
          refine ⟨rfl, false, by simp, ?_⟩
          exact ⟨s7.trans s8, rfl⟩
        rintro σ H7 ⟨s7, rfl⟩
        refine ⟨_, rfl, _, rfl, _, rfl, .ref aL, x, T0, ls, ss, b, wy, rfl, ⟨lad6.mono s7, it6.mono s7, W, by omega, dl.zl, dl.zs⟩, dl.lad, b0, b4, fun H8 u s8 hu => ?_⟩
        obtain ⟨ah, rfl, sh⟩ := id hu
        refine ⟨ah, dO (wv (endB ss) ls ss b wy), rfl, hu.dp, shO.s, shO.n, shO.dep, shO.l, ?_⟩
        refine ⟨_, rfl, _, rfl, _, rfl, .ref aL, x, T0, ls, ss, b, wy, rfl, ⟨lad6.mono (s7.trans s8), it6.mono (s7.trans s8), W, by omega, dl.zl, dl.zs⟩, dl.lad, b0, b4, fun H9 u s9 hu9 => ?_⟩
        obtain ⟨ah, rfl, sh⟩ := id hu9
        refine ⟨ah, dO (wv (endB ss) ls ss b wy), rfl, hu9.dp, shO.s, shO.n, shO.dep, shO.l, ?_⟩
        refine ⟨rfl, false, by simp, ?_⟩
        exact ⟨s6.trans (s7.trans (s8.trans s9)), some x, rfl⟩
      · rintro σ H6 ⟨s6, v6, rfl⟩
        exact ⟨s25.trans s6, v6, rfl⟩
    clear wD sD al
    rintro σ H3 ⟨s3, v6, rfl⟩
    refine ⟨_, rfl, aL, dL T0 ls ss, rfl, (lad.mono s3).dp, shL.s, shL.n, shL.dep, shL.l, ?_⟩
    refine ⟨_, rfl, rfl, ?_⟩
    rw [decide_eq_true rfl]
    exact kk _ s3
end
end Rs


set_option Elab.async false
set_option linter.all false
set_option maxRecDepth 100000
set_option maxHeartbeats 1000000
namespace Rs
open PySem L2 Bs Fq LamX RZ
abbrev sLaw : Stmt := top 51
abbrev NL : List Str := ["script", "state", "lap", "ladder_so", "start", "stop", "many", "short", "shut", "told", "due"]
def spLaw (K : PySem.W.Frag) : Sp := fun vs H Q _ => ∃ (a : Addr) (ns : List Int), vs = [.ref a] ∧ SqL K H a (ns.map V.int) ∧ ns.length ≤ 63 ∧ ∀ H', Q (.bl true) H'
theorem scLaw : FnScope NL ["script"] (defScope sLaw) := ⟨rfl, rfl, rfl, by decide +kernel, rfl, by decide +kernel, by decide +kernel⟩
theorem sqT_kp' {K : PySem.W.Frag} {H H' : Hp} {p c l : Addr} {n : Nat} {t : Int} {a : Addr} {xs : List V} (k : Kp p l H H') (S : Sta H p c l n t) (s : SqT K H a xs) : SqT K H' a xs := by
  obtain ⟨ls, b1, _⟩ := S.ls
  rcases s with (s | ⟨o, s⟩) | s
  · exact .inl (.inl (k a _ s (ne_of s S.d (by intro z; cases z)) (ne_of s b1 (by intro z; cases z))))
  · exact .inl (.inr ⟨o, k a _ s (ne_of s S.d (by intro z; cases z)) (ne_of s b1 (by intro z; cases z))⟩)
  · exact .inr s
theorem Lad.kp {K : PySem.W.Frag} {H H' : Hp} {p c l : Addr} {n : Nat} {t : Int} {v : V} {T : F} {ls ss : List F} (k : Kp p l H H') (S : Sta H p c l n t) (h : Lad K H v T ls ss) : Lad K H' v T ls ss := by
  obtain ⟨a, v1, v2, v3, rfl, s, f, g, q⟩ := h
  exact ⟨a, v1, v2, v3, rfl, sqT_kp' k S s, k.fr S f, g.kp k S, q.kp k S⟩
/-! ### ground facts -/
def zB (q : F) : Bool := decide (0 < q.2) && decide (Nat.gcd q.1.natAbs q.2.natAbs = 1) && decide (6 % q.2 = 0) && decide (q.1.natAbs ≤ 85)
theorem zB_zs {q : F} (h : zB q = true) : Zs 1 q := by
  simp only [zB, Bool.and_eq_true, decide_eq_true_eq] at h
  exact Zs.of ⟨h.1.1.1, h.1.1.2⟩ (Int.dvd_of_emod_eq_zero h.1.2) h.2
theorem zB_all {qs : List F} (h : qs.all zB = true) : Za 1 qs := fun q hq => zB_zs (List.all_eq_true.mp h q hq)
mutual
def tupB : PyData → Bool
  | .int _ => true
  | .tuple ds => tupAll ds
  | _ => false
def tupAll : List PyData → Bool
  | [] => true
  | d :: ds => tupB d && tupAll ds
end
mutual
theorem dp_off {K : PySem.W.Frag} {H : Hp} {L : Addr} {acc : List V} {o : HO} (hL : H L = some (.lst acc)) : ∀ (d : PyData) (v : V), tupB d = true → Dp K H v d → Dp K (upd H L o) v d
  | .none, _, z, _ => by cases z
  | .bool b, _, z, _ => by cases z
  | .int i, _, _, h => by
    cases h
    exact .int _
  | .str x, _, z, _ => by cases z
  | .list ds, _, z, _ => by cases z
  | .tuple ds, _, z, h => by
    cases h with
    | tup hs ha => exact .tup (sqT_off hL hs) (dpAll_off hL ds _ (by rw [tupB] at z; exact z) ha)
  | .dict _, _, z, _ => by cases z
theorem dpAll_off {K : PySem.W.Frag} {H : Hp} {L : Addr} {acc : List V} {o : HO} (hL : H L = some (.lst acc)) : ∀ (ds : List PyData) (vs : List V), tupAll ds = true → DpAll K H vs ds → DpAll K (upd H L o) vs ds
  | [], _, _, h => by
    cases h
    exact .nil
  | d :: ds, _, z, h => by
    cases h with
    | cons h1 h2 =>
      rw [tupAll, Bool.and_eq_true] at z
      exact .cons (dp_off hL d _ z.1 h1) (dpAll_off hL ds _ z.2 h2)
end
theorem dpAll_app {K : PySem.W.Frag} {H : Hp} : ∀ {vs us : List V} {ds es : List PyData}, DpAll K H vs ds → DpAll K H us es → DpAll K H (vs ++ us) (ds ++ es)
  | _, _, _, _, .nil, h => h
  | _, _, _, _, .cons a b, h => .cons a (dpAll_app b h)
theorem dpAll_s {K : PySem.W.Frag} {H H' : Hp} (e : Same H H') {ds : List PyData} {vs : List V} (h : DpAll K H vs ds) : DpAll K H' vs ds := dpAll_same' e ds vs h
theorem dpAll_ints {K : PySem.W.Frag} {H : Hp} : ∀ {vs : List V} {w : List Int}, DpAll K H vs (w.map PyData.int) → vs = w.map V.int
  | _, [], h => by
    cases h
    rfl
  | _, q :: qs, h => by
    cases h with
    | cons h1 h2 =>
      cases h1
      rw [dpAll_ints h2]
      rfl
theorem dp_it {K : PySem.W.Frag} {H : Hp} {v : V} {w : List Int} (h : Dp K H v (dI w)) : It K H v w := by
  cases h with
  | tup s f =>
    rw [dpAll_ints f] at s
    exact ⟨_, rfl, s⟩
def wayB (b : Int) (w : List Int) : Bool := decide (w.length ≤ 8) && w.all (fun s => decide (s = -1 ∨ s = 0 ∨ s = 1)) && (hts b w).all (fun h => decide (0 ≤ h))
theorem way_of {b : Int} {w : List Int} (h : wayB b w = true) : w.length ≤ 8 ∧ Way b w := by
  simp only [wayB, Bool.and_eq_true, decide_eq_true_eq, List.all_eq_true] at h
  exact ⟨h.1.1, h.1.2, h.2⟩
theorem args_of {K : PySem.W.Frag} {H : Hp} {vL v : V} {T : F} {ls ss : List F} {b : Int} {w : List Int} (d1 : Dp K H vL (dL T ls ss)) (d2 : Dp K H v (dI w)) (h1 : ls.all zB = true) (h2 : ss.all zB = true) (h3 : wayB b w = true) : Args K H vL v T ls ss b w :=
  ⟨lad_of d1, dp_it d2, (way_of h3).2, (way_of h3).1, zB_all h1, zB_all h2⟩
theorem ww_fin {K : PySem.W.Frag} {H : Hp} {Q : VK} {E : XK} {C : Addr} {v : V} {ls ss : List F} {b : Int} {w : List Int} {q : F} (e : wv (endB ss) ls ss b w = some q) (h : ∀ H' u, Same H H' → Fr K H' u q → Q u H') :
    (∀ q', wv (endB ss) ls ss b w = some q' → ∀ H' u, Same H H' → Fr K H' u q' → Q u H') ∧ (wv (endB ss) ls ss b w = none → ∀ H', Same H H' → OutW E C "given" v H') := by
  refine ⟨fun q' e' => ?_, fun e' => ?_⟩
  · rw [e] at e'
    cases e'
    exact h
  · rw [e] at e'
    cases e'
theorem sqL_upd {K : PySem.W.Frag} {H : Hp} {b L : Addr} {xs : List V} {o : HO} (gL : H L = some (.lst xs)) (n : xs ≠ []) (s : SqL K H b []) : SqL K (upd H L o) b [] := by
  rcases s with (s | ⟨o', s⟩) | s
  · refine .inl (.inl ((upd_ne fun z => ?_).trans s))
    rw [z, gL] at s
    cases s
    exact n rfl
  · exact .inl (.inr ⟨o', (upd_ne (ne_of s gL (by intro z; cases z))).trans s⟩)
  · exact .inr s
theorem dp_at {K : PySem.W.Frag} {H H' : Hp} {v : V} {d : PyData} (_ : Same H H') (h : Dp K H' v d) : Dp K H' v d := h
abbrev dTold : List PyData := [dW [[0, 0], [1, -1]], dI [1, 2, 2, 1], dF (6, 1), dF (6, 1), dF (0, 1), dF (0, 1), dF (1, 1), dW []]
abbrev dAll : PyData := .list (dTold ++ [.list []])
section
variable {P : Program} {w : World} {K : PySem.W.Frag} {mg : Str → Option Value} {base : Heap} {f CM : Addr} {fd : FuncData}
theorem ok_law (F : Fun K "law" "law" sLaw f fd) (T : Blt mg) (BG : Cal P w K mg base 2 "_law_begin" (spBegin K)) (DR : Cal P w K mg base 2 "_law_draw" spDraw) (DW : Cal P w K mg base 3 "_law_drawn_ladder" (spDrawn K)) (RI : CalG P w K mg base 8 "_law_right" (spRight K))
    (AW : Cal P w K mg base 5 "all_ways" (spWays K)) (HO : Cal P w K mg base 6 "heights_of" (spHtsOf K)) (WW : CalX P w K mg base 6 "way_worth" (spWayWorth K CM)) (HE : Cal P w K mg base 7 "_law_heard" (spOpt K)) :
    FnG P w K mg base 9 f fd ["script"] (spLaw K) := by
  refine FnG.ok F scLaw (fun vs H Q E h => ?_) (fun cdv A outer s H vs Q E hgd hr h => ?_)
  · obtain ⟨a, ns, rfl, _⟩ := h
    rfl
  · obtain ⟨a, ns, rfl, sq, ln, kk⟩ := h
    refine ⟨_, (C8.pss_cut (ps_set (i := 1) scLaw.nd rfl (Or.inl rfl) (pe_n BG hr (by decide) (by rfl) (pa_cons (pv 0) pa_nil)))
      (C8.pss_cut (ps_for PassesOwn.never rfl (pi_range1 rfl T.range (pa_cons (pe_op op_add pe_int (pe_callB (call_min2 rfl) (by rfl) T.min (by decide +kernel) (pa_cons (pe_callB call_len_seq (by rfl) T.len (by decide +kernel) (pa_cons (pv 0) pa_nil)) (pa_cons pe_int pa_nil)))) pa_nil)) (pg_name (i := 2) scLaw.nd rfl (Or.inl rfl)) (pss_cons (ps_par (i := 3) (j := 4) (by rfl) scLaw.nd rfl rfl (by decide) rfl rfl (pa_cons (pe_n DW hr (by decide) (by rfl) (pa_cons (pv 1) pa_nil)) (pa_cons (pe_n DR hr (by decide) (by rfl) (pa_cons (pv 1) (pa_cons pe_int pa_nil))) pa_nil)) (by rfl))
        (pss_cons (ps_par (i := 5) (j := 6) (by rfl) scLaw.nd rfl rfl (by decide) rfl rfl (pa_cons (pe_n DR hr (by decide) (by rfl) (pa_cons (pv 1) (pa_cons pe_int pa_nil))) (pa_cons (pe_n DR hr (by decide) (by rfl) (pa_cons (pv 1) (pa_cons pe_int pa_nil))) pa_nil)) (by rfl))
        (pss_one (ps_if (PW.pt (pw_or (pt_not (pt_val (pe_g RI hgd hr (by decide) (by rfl) (pa_cons (pv 3) (pa_cons (pv 4) (pa_cons (pv 5) (pa_cons (pv 6) pa_nil))))))) (pw_or1 (pt_not (pt_val (pe_g RI hgd hr (by decide) (by rfl) (pa_cons (pv 3) (pa_cons (pv 4) (pa_cons (pv 4) (pa_cons (pv 6) pa_nil)))))))))) (pss_one (ps_ret pe_bl)) pss_nil)))))
      (C8.pss_cut (ps_asg (pe_tup (pa_cons (pe_tup (pa_cons (pe_tup (pa_cons pe_int (pa_cons pe_int pa_nil))) (pa_cons (pe_tup (pa_cons (pe_tup (pa_cons pe_int (pa_cons pe_int pa_nil))) (pa_cons (pe_tup (pa_cons pe_int (pa_cons pe_int pa_nil))) pa_nil))) (pa_cons (pe_tup (pa_cons (pe_tup (pa_cons pe_int (pa_cons pe_int pa_nil))) pa_nil)) pa_nil)))) (pa_cons (pe_tup (pa_cons (pe_tup (pa_cons pe_int (pa_cons pe_int pa_nil))) (pa_cons (pe_tup (pa_cons (pe_tup (pa_cons pe_int (pa_cons pe_int pa_nil))) (pa_cons (pe_tup (pa_cons pe_int (pa_cons pe_int pa_nil))) pa_nil))) (pa_cons (pe_tup (pa_cons (pe_tup (pa_cons pe_int (pa_cons pe_int pa_nil))) (pa_cons (pe_tup (pa_cons pe_int (pa_cons pe_int pa_nil))) pa_nil))) pa_nil)))) pa_nil))) (pg_tup rfl (pgs_cons (pg_name (i := 7) scLaw.nd rfl (.inl rfl)) (pgs_cons (pg_name (i := 8) scLaw.nd rfl (.inl rfl)) pgs_nil))))
      (C8.pss_cut (ps_set (i := 9) scLaw.nd rfl (Or.inl rfl) (pe_lst (pa_cons (pe_n AW hr (by decide) (by rfl) (pa_cons pe_int (pa_cons pe_int (pa_cons pe_int pa_nil)))) (pa_cons (pe_n HO hr (by decide) (by rfl) (pa_cons pe_int (pa_cons (pe_tup (pa_cons pe_int (pa_cons pe_int (pa_cons (pe_un un_neg pe_int) pa_nil)))) pa_nil))) (pa_cons (pe_x WW hr (by decide) (by rfl) passL (pa_cons (pv 7) (pa_cons pe_int (pa_cons (pe_tup (pa_cons pe_int (pa_cons pe_int (pa_cons (pe_un un_neg pe_int) pa_nil)))) pa_nil)))) pa_nil)))))
      (C8.pss_cut (ps_expr (pe_bm PySem.F.plainAttrs_list PySem.F.slot_list_append PySem.F.type_list_append mt_append (pv 9) (pa_cons (pe_x WW hr (by decide) (by rfl) passL (pa_cons (pv 8) (pa_cons pe_int (pa_cons (pe_tup (pa_cons pe_int (pa_cons pe_int (pa_cons (pe_un un_neg pe_int) pa_nil)))) pa_nil)))) pa_nil)))
      (C8.pss_cut (ps_set (i := 9) scLaw.nd rfl (Or.inl rfl) (pe_op op_cat (pv 9) (pe_lst (pa_cons (pe_x WW hr (by decide) (by rfl) passL (pa_cons (pv 8) (pa_cons pe_int (pa_cons (pe_tup (pa_cons pe_int (pa_cons (pe_un un_neg pe_int) pa_nil))) pa_nil)))) (pa_cons (pe_x WW hr (by decide) (by rfl) passL (pa_cons (pv 8) (pa_cons pe_int (pa_cons (pe_tup pa_nil) pa_nil)))) (pa_cons (pe_x WW hr (by decide) (by rfl) passL (pa_cons (pv 7) (pa_cons pe_int (pa_cons (pe_tup pa_nil) pa_nil)))) (pa_cons (pe_n AW hr (by decide) (by rfl) (pa_cons pe_int (pa_cons pe_int (pa_cons pe_int pa_nil)))) pa_nil)))))))
      (C8.pss_cut (ps_expr (pe_bm PySem.F.plainAttrs_list PySem.F.slot_list_append PySem.F.type_list_append mt_append (pv 9) (pa_cons (pe_n HE hr (by decide) (by rfl) (pa_cons (pv 7) (pa_cons pe_int (pa_cons (pe_tup (pa_cons pe_int (pa_cons (pe_un un_neg pe_int) pa_nil))) pa_nil)))) pa_nil)))
      (C8.pss_cut (ps_set (i := 10) scLaw.nd rfl (Or.inl rfl) (pe_lst (pa_cons (pe_tup (pa_cons (pe_tup (pa_cons pe_int (pa_cons pe_int pa_nil))) (pa_cons (pe_tup (pa_cons pe_int (pa_cons (pe_un un_neg pe_int) pa_nil))) pa_nil))) (pa_cons (pe_tup (pa_cons pe_int (pa_cons pe_int (pa_cons pe_int (pa_cons pe_int pa_nil))))) (pa_cons (pe_tup (pa_cons pe_int (pa_cons pe_int pa_nil))) (pa_cons (pe_tup (pa_cons pe_int (pa_cons pe_int pa_nil))) (pa_cons (pe_tup (pa_cons pe_int (pa_cons pe_int pa_nil))) (pa_cons (pe_tup (pa_cons pe_int (pa_cons pe_int pa_nil))) (pa_cons (pe_tup (pa_cons pe_int (pa_cons pe_int pa_nil))) (pa_cons (pe_tup pa_nil) (pa_cons (pe_lst pa_nil) pa_nil)))))))))))
      (C8.pss_cut (ps_if (PW.pt (pw_or (pt_cmpR (op_neD hr.units) (pv 9) (pv 10) (nomark _)) (pw_or1 (pt_cmpR (op_neD hr.units) (pe_n AW hr (by decide) (by rfl) (pa_cons pe_int (pa_cons pe_int (pa_cons pe_int pa_nil)))) (pe_tup (pa_cons (pe_tup (pa_cons (pe_un un_neg pe_int) (pa_cons pe_int pa_nil))) (pa_cons (pe_tup (pa_cons pe_int (pa_cons pe_int pa_nil))) (pa_cons (pe_tup (pa_cons pe_int (pa_cons (pe_un un_neg pe_int) pa_nil))) pa_nil)))) (nomark _))))) (pss_one (ps_ret pe_bl)) pss_nil)
      (C8.pss_cut (ps_if (pt_cmpR (op_neD hr.units) (pe_x WW hr (by decide) (by rfl) passL (pa_cons (pe_tup (pa_cons (pe_tup (pa_cons pe_int (pa_cons pe_int pa_nil))) (pa_cons (pe_op op_repT (pe_tup (pa_cons (pe_tup (pa_cons pe_int (pa_cons pe_int pa_nil))) pa_nil)) pe_int) (pa_cons (pe_tup (pa_cons (pe_tup (pa_cons pe_int (pa_cons pe_int pa_nil))) (pa_cons (pe_tup (pa_cons pe_int (pa_cons pe_int pa_nil))) (pa_cons (pe_tup (pa_cons pe_int (pa_cons pe_int pa_nil))) (pa_cons (pe_tup (pa_cons pe_int (pa_cons pe_int pa_nil))) pa_nil))))) pa_nil)))) (pa_cons pe_int (pa_cons (pe_tup (pa_cons (pe_un un_neg pe_int) pa_nil)) pa_nil)))) (pe_tup (pa_cons pe_int (pa_cons pe_int pa_nil))) (nomark _)) (pss_one (ps_ret pe_bl)) pss_nil)
      (pss_one (ps_ret (pe_and (pe_cmpR (op_eqD hr.units) (pe_n AW hr (by decide) (by rfl) (pa_cons pe_int (pa_cons pe_int (pa_cons pe_int pa_nil)))) (pe_tup (pa_cons (pe_tup (pa_cons pe_int (pa_cons pe_int (pa_cons pe_int (pa_cons pe_int pa_nil))))) pa_nil)) (nomark _)) (pe_one (pe_cmpR op_eq (pe_callB call_len_seq (by rfl) T.len (by decide +kernel) (pa_cons (pe_n AW hr (by decide) (by rfl) (pa_cons pe_int (pa_cons pe_int (pa_cons pe_int pa_nil)))) pa_nil)) pe_int (nomark _)))))))))))))))), ?_⟩

    -- state
    refine ⟨fun σ H1 => ∃ (p c l : Addr) (n : Nat), Sta H1 p c l n 0 ∧ SqL K H1 a (ns.map V.int) ∧ σ = [some (.ref a), some (.ref p), none, none, none, none, none, none, none, none, none], ?_, ?_⟩
    · exact ⟨_, rfl, a, ns, rfl, sq, ln, fun H1 p c l n s1 _ _ S => ⟨p, c, l, n, S, sqL_same s1 sq, rfl⟩⟩
    rintro σ H1 ⟨p, c, l, n, S, sq1, rfl⟩
    -- the laps
    refine ⟨fun σ H2 => ∃ v2 v3 v4 v5 v6, σ = [some (.ref a), some (.ref p), v2, v3, v4, v5, v6, none, none, none, none], ?_, ?_⟩
    · have hm : ∀ m : Nat, 0 ≤ (2 : Int) + (if (2 : Int) < (m : Int) then 2 else (m : Int)) ∧ (2 : Int) + (if (2 : Int) < (m : Int) then 2 else (m : Int)) ≤ 4 := by
        intro m
        split <;> omega
      have hm2 := hm (ns.map V.int).length
      refine ⟨_, rfl, a, _, rfl, Or.inl sq1, _, _, rfl, _, _, rfl, rfl, _, rfl, ?_⟩
      generalize (2 : Int) + (if (2 : Int) < ((ns.map V.int).length : Int) then 2 else ((ns.map V.int).length : Int)) = m at hm2 ⊢
      refine ⟨by omega, by omega, for_range (n := m.toNat) (fun i σ H3 => ∃ (v2 v3 v4 v5 v6 : Option V) (t : Int), Sta H3 p c l n t ∧ t ≤ 30 * i ∧ σ = [some (.ref a), some (.ref p), v2, v3, v4, v5, v6, none, none, none, none]) ⟨none, none, none, none, none, 0, S, by omega, rfl⟩ ?_ ?_⟩
      · rintro i σ Hi hi ⟨v2, v3, v4, v5, v6, t, Si, ti, rfl⟩
        refine ⟨_, rfl, p, c, l, n, t, rfl, Si, by omega, fun H1 vL T0 ls ss t1 lad dl ta tb S1 k1 => ?_⟩
        refine ⟨_, rfl, p, c, l, n, t1, 3, rfl, S1, by omega, by decide, by decide, fun H2 x x0 x1 S2 k2 => ⟨_, _, rfl, ?_⟩⟩
        refine ⟨_, rfl, p, c, l, n, t1 + 1, 3, rfl, S2, by omega, by decide, by decide, fun H3 y y0 y1 S3 k3 => ?_⟩
        refine ⟨_, rfl, p, c, l, n, _, 6, rfl, S3, by omega, by decide, by decide, fun H4 z z0 z1 S4 k4 => ⟨_, _, rfl, ?_⟩⟩
        have lad4 := ((lad.kp k2 S1).kp k3 S2).kp k4 S3
        obtain ⟨zn, rfl⟩ : ∃ zn : Nat, z = (zn : Int) := ⟨z.toNat, by omega⟩
        refine ⟨_, rfl, _, rfl, _, rfl, _, rfl, vL, T0, ls, ss, x, y, zn, rfl, lad4, dl, x0, by omega, y0, by omega, by omega, fun H5 s5 => ⟨_, rfl, ?_⟩⟩
        refine ⟨_, rfl, _, rfl, _, rfl, _, rfl, vL, T0, ls, ss, x, x, zn, rfl, lad4.mono s5, dl, x0, by omega, x0, by omega, by omega, fun H6 s6 => ⟨_, rfl, ?_⟩⟩
        exact iteF ⟨_, _, _, _, _, _, S4.mono (s5.trans s6), by omega, rfl⟩
      · rintro σ H3 ⟨v2, v3, v4, v5, v6, t, _, _, rfl⟩
        exact ⟨v2, v3, v4, v5, v6, rfl⟩
    clear S sq1 sq
    rintro σ H2 ⟨v2, v3, v4, v5, v6, rfl⟩
    refine ⟨fun σ H3 => ∃ A B : Addr, Dp K H3 (.ref A) (dL (1, 1) [(1, 1), (2, 1)] [(3, 1)]) ∧ Dp K H3 (.ref B) (dL (1, 1) [(1, 1), (2, 1)] [(3, 1), (0, 1)]) ∧ σ = [some (.ref a), some (.ref p), v2, v3, v4, v5, v6, some (.ref A), some (.ref B), none, none], ?_, ?_⟩
    · skip
      refine ⟨(by show 2 ≤ sizeLine; decide), fun q0_0 hq0_0 => ⟨(by show 2 ≤ sizeLine; decide), fun q0_1 hq0_1 => ⟨(by show 2 ≤ sizeLine; decide), fun q0_2 hq0_2 => ⟨(by show 2 ≤ sizeLine; decide), fun q0_3 hq0_3 => ⟨(by show 2 ≤ sizeLine; decide), fun q0_4 hq0_4 => ⟨(by show 1 ≤ sizeLine; decide), fun q0_5 hq0_5 => ⟨(by show 3 ≤ sizeLine; decide), fun q0_6 hq0_6 => ⟨(by show 2 ≤ sizeLine; decide), fun q0_7 hq0_7 => ⟨(by show 2 ≤ sizeLine; decide), fun q0_8 hq0_8 => ⟨(by show 2 ≤ sizeLine; decide), fun q0_9 hq0_9 => ⟨(by show 2 ≤ sizeLine; decide), fun q0_10 hq0_10 => ⟨(by show 2 ≤ sizeLine; decide), fun q0_11 hq0_11 => ⟨(by show 2 ≤ sizeLine; decide), fun q0_12 hq0_12 => ⟨(by show 2 ≤ sizeLine; decide), fun q0_13 hq0_13 => ⟨(by show 3 ≤ sizeLine; decide), fun q0_14 hq0_14 => ⟨(by show 2 ≤ sizeLine; decide), fun q0_15 hq0_15 => ?_⟩⟩⟩⟩⟩⟩⟩⟩⟩⟩⟩⟩⟩⟩⟩⟩
      have uq0_0 := same_new (o := .tup [.int (1), .int (1)]) hq0_0
      have uq0_1 := same_new (o := .tup [.int (1), .int (1)]) hq0_1
      have uq0_2 := same_new (o := .tup [.int (2), .int (1)]) hq0_2
      have uq0_3 := same_new (o := .tup [.ref q0_1, .ref q0_2]) hq0_3
      have uq0_4 := same_new (o := .tup [.int (3), .int (1)]) hq0_4
      have uq0_5 := same_new (o := .tup [.ref q0_4]) hq0_5
      have uq0_6 := same_new (o := .tup [.ref q0_0, .ref q0_3, .ref q0_5]) hq0_6
      have uq0_7 := same_new (o := .tup [.int (1), .int (1)]) hq0_7
      have uq0_8 := same_new (o := .tup [.int (1), .int (1)]) hq0_8
      have uq0_9 := same_new (o := .tup [.int (2), .int (1)]) hq0_9
      have uq0_10 := same_new (o := .tup [.ref q0_8, .ref q0_9]) hq0_10
      have uq0_11 := same_new (o := .tup [.int (3), .int (1)]) hq0_11
      have uq0_12 := same_new (o := .tup [.int (0), .int (1)]) hq0_12
      have uq0_13 := same_new (o := .tup [.ref q0_11, .ref q0_12]) hq0_13
      have uq0_14 := same_new (o := .tup [.ref q0_7, .ref q0_10, .ref q0_13]) hq0_14
      have uq0_15 := same_new (o := .tup [.ref q0_6, .ref q0_14]) hq0_15
      refine ⟨q0_15, _, rfl, SqT.of upd_same, rfl, _, _, rfl, _, _, rfl, rfl, ?_⟩
      exact ⟨q0_6, q0_14, (dps (uq0_7.trans (uq0_8.trans (uq0_9.trans (uq0_10.trans (uq0_11.trans (uq0_12.trans (uq0_13.trans (uq0_14.trans uq0_15)))))))) (show Dp K _ (.ref q0_6) (.tuple [.tuple [.int (1), .int (1)], .tuple [.tuple [.int (1), .int (1)], .tuple [.int (2), .int (1)]], .tuple [.tuple [.int (3), .int (1)]]]) from (.tup (SqT.of upd_same) (.cons (dps (uq0_1.trans (uq0_2.trans (uq0_3.trans (uq0_4.trans (uq0_5.trans uq0_6))))) (show Dp K _ (.ref q0_0) (.tuple [.int (1), .int (1)]) from (.tup (SqT.of upd_same) (.cons (.int _) (.cons (.int _) .nil))))) (.cons (dps (uq0_4.trans (uq0_5.trans uq0_6)) (show Dp K _ (.ref q0_3) (.tuple [.tuple [.int (1), .int (1)], .tuple [.int (2), .int (1)]]) from (.tup (SqT.of upd_same) (.cons (dps (uq0_2.trans uq0_3) (show Dp K _ (.ref q0_1) (.tuple [.int (1), .int (1)]) from (.tup (SqT.of upd_same) (.cons (.int _) (.cons (.int _) .nil))))) (.cons (dps uq0_3 (show Dp K _ (.ref q0_2) (.tuple [.int (2), .int (1)]) from (.tup (SqT.of upd_same) (.cons (.int _) (.cons (.int _) .nil))))) .nil))))) (.cons (dps uq0_6 (show Dp K _ (.ref q0_5) (.tuple [.tuple [.int (3), .int (1)]]) from (.tup (SqT.of upd_same) (.cons (dps uq0_5 (show Dp K _ (.ref q0_4) (.tuple [.int (3), .int (1)]) from (.tup (SqT.of upd_same) (.cons (.int _) (.cons (.int _) .nil))))) .nil)))) .nil)))))), (dps uq0_15 (show Dp K _ (.ref q0_14) (.tuple [.tuple [.int (1), .int (1)], .tuple [.tuple [.int (1), .int (1)], .tuple [.int (2), .int (1)]], .tuple [.tuple [.int (3), .int (1)], .tuple [.int (0), .int (1)]]]) from (.tup (SqT.of upd_same) (.cons (dps (uq0_8.trans (uq0_9.trans (uq0_10.trans (uq0_11.trans (uq0_12.trans (uq0_13.trans uq0_14)))))) (show Dp K _ (.ref q0_7) (.tuple [.int (1), .int (1)]) from (.tup (SqT.of upd_same) (.cons (.int _) (.cons (.int _) .nil))))) (.cons (dps (uq0_11.trans (uq0_12.trans (uq0_13.trans uq0_14))) (show Dp K _ (.ref q0_10) (.tuple [.tuple [.int (1), .int (1)], .tuple [.int (2), .int (1)]]) from (.tup (SqT.of upd_same) (.cons (dps (uq0_9.trans uq0_10) (show Dp K _ (.ref q0_8) (.tuple [.int (1), .int (1)]) from (.tup (SqT.of upd_same) (.cons (.int _) (.cons (.int _) .nil))))) (.cons (dps uq0_10 (show Dp K _ (.ref q0_9) (.tuple [.int (2), .int (1)]) from (.tup (SqT.of upd_same) (.cons (.int _) (.cons (.int _) .nil))))) .nil))))) (.cons (dps uq0_14 (show Dp K _ (.ref q0_13) (.tuple [.tuple [.int (3), .int (1)], .tuple [.int (0), .int (1)]]) from (.tup (SqT.of upd_same) (.cons (dps (uq0_12.trans uq0_13) (show Dp K _ (.ref q0_11) (.tuple [.int (3), .int (1)]) from (.tup (SqT.of upd_same) (.cons (.int _) (.cons (.int _) .nil))))) (.cons (dps uq0_13 (show Dp K _ (.ref q0_12) (.tuple [.int (0), .int (1)]) from (.tup (SqT.of upd_same) (.cons (.int _) (.cons (.int _) .nil))))) .nil))))) .nil)))))), rfl⟩
    rintro σ H2 ⟨A, B, dA, dB, rfl⟩
    refine ⟨fun σ H3 => ∃ (L : Addr) (xs : List V), H3 L = some (.lst xs) ∧ DpAll K H3 xs (dTold.take 3) ∧ Dp K H3 (.ref A) (dL (1, 1) [(1, 1), (2, 1)] [(3, 1)]) ∧ Dp K H3 (.ref B) (dL (1, 1) [(1, 1), (2, 1)] [(3, 1), (0, 1)]) ∧ σ = [some (.ref a), some (.ref p), v2, v3, v4, v5, v6, some (.ref A), some (.ref B), some (.ref L), none], ?_, ?_⟩
    · refine ⟨0, 0, 2, rfl, by decide, by decide, by decide, by decide, by decide, fun Ha u1 sa w1 => ?_⟩
      rw [show ways 0 0 2 = [[0, 0], [1, -1]] from by decide +kernel] at w1
      refine ⟨_, rfl, (by show 3 ≤ sizeLine; decide), fun q1_0 hq1_0 => ?_⟩
      have uq1_0 := same_new (o := .tup [.int (1), .int (0), .int (-1)]) hq1_0
      have mx := uq1_0
      have dx : Dp K _ (.ref q1_0) (dI [1, 0, -1]) := dp_at mx (show Dp K _ (.ref q1_0) (.tuple [.int (1), .int (0), .int (-1)]) from (.tup (SqT.of upd_same) (.cons (.int _) (.cons (.int _) (.cons (.int _) .nil)))))
      refine ⟨1, .ref q1_0, [1, 0, -1], rfl, dp_it dx, (way_of (by decide +kernel)).2, by decide, by decide, by decide, fun Hb u2 sb w2 => ?_⟩
      rw [show hts 1 [1, 0, -1] = [1, 2, 2, 1] from by decide +kernel] at w2
      have s2 := sa.trans (mx.trans sb)
      refine ⟨_, rfl, ?_⟩
      refine ⟨_, rfl, (by show 3 ≤ sizeLine; decide), fun q2_0 hq2_0 => ?_⟩
      have uq2_0 := same_new (o := .tup [.int (1), .int (0), .int (-1)]) hq2_0
      have my := uq2_0
      have dy : Dp K _ (.ref q2_0) (dI [1, 0, -1]) := dp_at my (show Dp K _ (.ref q2_0) (.tuple [.int (1), .int (0), .int (-1)]) from (.tup (SqT.of upd_same) (.cons (.int _) (.cons (.int _) (.cons (.int _) .nil)))))
      have s3 := s2.trans my
      refine ⟨.ref A, .ref q2_0, (1, 1), [(1, 1), (2, 1)], [(3, 1)], 0, [1, 0, -1], rfl, args_of (dps s3 dA) dy (by decide +kernel) (by decide +kernel) (by decide +kernel), by decide +kernel, by decide, by decide, ww_fin (q := (6, 1)) (by decide +kernel) fun Hc u3 sc w4 => ?_⟩
      refine ⟨(by show 3 ≤ sizeLine; decide), fun L hL => ?_⟩
      have s9 := same_new (o := .lst [u1, u2, u3]) hL
      have s4 := s3.trans (sc.trans s9)
      exact ⟨L, [u1, u2, u3], upd_same, .cons (dps ((mx.trans sb).trans (my.trans (sc.trans s9))) w1.dp) (.cons (dps (my.trans (sc.trans s9)) w2.dp) (.cons (w4.mono s9).dp .nil)), dps s4 dA, dps s4 dB, rfl⟩
    clear dA dB
    rintro σ H2 ⟨L, xs, hL, dT, dA, dB, rfl⟩
    refine ⟨fun σ H3 => ∃ (L : Addr) (xs : List V), H3 L = some (.lst xs) ∧ DpAll K H3 xs (dTold.take 4) ∧ Dp K H3 (.ref A) (dL (1, 1) [(1, 1), (2, 1)] [(3, 1)]) ∧ Dp K H3 (.ref B) (dL (1, 1) [(1, 1), (2, 1)] [(3, 1), (0, 1)]) ∧ σ = [some (.ref a), some (.ref p), v2, v3, v4, v5, v6, some (.ref A), some (.ref B), some (.ref L), none], ?_, ?_⟩
    · refine ⟨_, rfl, .inl ⟨rfl, _, SqL.of hL⟩, _, rfl, ?_⟩
      refine ⟨_, rfl, (by show 3 ≤ sizeLine; decide), fun q3_0 hq3_0 => ?_⟩
      have uq3_0 := same_new (o := .tup [.int (1), .int (0), .int (-1)]) hq3_0
      have my := uq3_0
      have dy : Dp K _ (.ref q3_0) (dI [1, 0, -1]) := dp_at my (show Dp K _ (.ref q3_0) (.tuple [.int (1), .int (0), .int (-1)]) from (.tup (SqT.of upd_same) (.cons (.int _) (.cons (.int _) (.cons (.int _) .nil)))))
      refine ⟨.ref B, .ref q3_0, (1, 1), [(1, 1), (2, 1)], [(3, 1), (0, 1)], 0, [1, 0, -1], rfl, args_of (dps my dB) dy (by decide +kernel) (by decide +kernel) (by decide +kernel), by decide +kernel, by decide, by decide, ww_fin (q := (6, 1)) (by decide +kernel) fun Hc u3 sc w4 => ?_⟩
      have s3 := my.trans sc
      have gL := s3 _ _ hL
      have lx := dpAll_len dT
      refine ⟨L, xs, _, rfl, rfl, gL, small1000 (by rw [lx]; decide), ?_⟩
      exact ⟨L, xs ++ [u3], upd_same, dpAll_app (es := [dF (6, 1)]) (dpAll_off gL _ _ (by decide +kernel) (dpAll_s s3 dT)) (.cons (dp_off gL _ _ (by decide +kernel) w4.dp) .nil), dp_off gL _ _ (by decide +kernel) (dps s3 dA), dp_off gL _ _ (by decide +kernel) (dps s3 dB), rfl⟩
    clear dA dB dT
    rintro σ H2 ⟨L, xs, hL, dT, dA, dB, rfl⟩
    refine ⟨fun σ H3 => ∃ (L : Addr) (xs : List V), H3 L = some (.lst xs) ∧ DpAll K H3 xs (dTold.take 8) ∧ Dp K H3 (.ref A) (dL (1, 1) [(1, 1), (2, 1)] [(3, 1)]) ∧ Dp K H3 (.ref B) (dL (1, 1) [(1, 1), (2, 1)] [(3, 1), (0, 1)]) ∧ σ = [some (.ref a), some (.ref p), v2, v3, v4, v5, v6, some (.ref A), some (.ref B), some (.ref L), none], ?_, ?_⟩
    · refine ⟨_, rfl, _, rfl, ?_⟩
      refine ⟨_, rfl, (by show 2 ≤ sizeLine; decide), fun q4_0 hq4_0 => ?_⟩
      have uq4_0 := same_new (o := .tup [.int (1), .int (-1)]) hq4_0
      have mx := uq4_0
      have dx : Dp K _ (.ref q4_0) (dI [1, -1]) := dp_at mx (show Dp K _ (.ref q4_0) (.tuple [.int (1), .int (-1)]) from (.tup (SqT.of upd_same) (.cons (.int _) (.cons (.int _) .nil))))
      refine ⟨.ref B, .ref q4_0, (1, 1), [(1, 1), (2, 1)], [(3, 1), (0, 1)], 1, [1, -1], rfl, args_of (dps mx dB) dx (by decide +kernel) (by decide +kernel) (by decide +kernel), by decide +kernel, by decide, by decide, ww_fin (q := (0, 1)) (by decide +kernel) fun Ha u1 sa w1 => ?_⟩
      have s1 := mx.trans sa
      refine ⟨_, rfl, ?_⟩
      refine ⟨(by show 0 ≤ sizeLine; decide), fun q5_0 hq5_0 => ?_⟩
      have uq5_0 := same_new (o := .tup []) hq5_0
      have my := uq5_0
      have dy : Dp K _ (.ref q5_0) (dI []) := dp_at my (show Dp K _ (.ref q5_0) (.tuple []) from (.tup (SqT.of upd_same) .nil))
      refine ⟨.ref B, .ref q5_0, (1, 1), [(1, 1), (2, 1)], [(3, 1), (0, 1)], 2, [], rfl, args_of (dps (s1.trans my) dB) dy (by decide +kernel) (by decide +kernel) (by decide +kernel), by decide +kernel, by decide, by decide, ww_fin (q := (0, 1)) (by decide +kernel) fun Hb u2 sb w2 => ?_⟩
      have s2 := s1.trans (my.trans sb)
      refine ⟨_, rfl, ?_⟩
      refine ⟨(by show 0 ≤ sizeLine; decide), fun q6_0 hq6_0 => ?_⟩
      have uq6_0 := same_new (o := .tup []) hq6_0
      have mz := uq6_0
      have dz : Dp K _ (.ref q6_0) (dI []) := dp_at mz (show Dp K _ (.ref q6_0) (.tuple []) from (.tup (SqT.of upd_same) .nil))
      refine ⟨.ref A, .ref q6_0, (1, 1), [(1, 1), (2, 1)], [(3, 1)], 4, [], rfl, args_of (dps (s2.trans mz) dA) dz (by decide +kernel) (by decide +kernel) (by decide +kernel), by decide +kernel, by decide, by decide, ww_fin (q := (1, 1)) (by decide +kernel) fun Hc u3 sc w3 => ?_⟩
      have s3 := s2.trans (mz.trans sc)
      refine ⟨4, 0, 3, rfl, by decide, by decide, by decide, by decide, by decide, fun Hd u4 sd w4 => ?_⟩
      rw [show ways 4 0 3 = [] from by decide +kernel] at w4
      refine ⟨(by show 4 ≤ sizeLine; decide), fun L2 hL2 => ?_⟩
      have s9 := same_new (o := .lst [u1, u2, u3, u4]) hL2
      have s4 := s3.trans (sd.trans s9)
      have lx := dpAll_len dT
      refine ⟨L, L2, xs, _, rfl, rfl, s4 _ _ hL, upd_same, (by rw [lx]; show 8 ≤ sizeLine; decide), fun L3 hL3 => ?_⟩
      have s10 := same_new (o := .lst (xs ++ [u1, u2, u3, u4])) hL3
      have s5 := s4.trans s10
      have t3 := sd.trans (s9.trans s10)
      have t2 := (mz.trans sc).trans t3
      have t1 := (my.trans sb).trans t2
      exact ⟨L3, _, upd_same, dpAll_app (es := [dF (0, 1), dF (0, 1), dF (1, 1), dW []]) (dpAll_s s5 dT) (.cons (dps t1 w1.dp) (.cons (dps t2 w2.dp) (.cons (dps t3 w3.dp) (.cons (dps (s9.trans s10) w4.dp) .nil)))), dps s5 dA, dps s5 dB, rfl⟩
    clear dA dB dT
    rintro σ H2 ⟨L, xs, hL, dT, dA, dB, rfl⟩
    refine ⟨fun σ H3 => ∃ (L : Addr), Dp K H3 (.ref L) dAll ∧ σ = [some (.ref a), some (.ref p), v2, v3, v4, v5, v6, some (.ref A), some (.ref B), some (.ref L), none], ?_, ?_⟩
    · refine ⟨_, rfl, .inl ⟨rfl, _, SqL.of hL⟩, _, rfl, ?_⟩
      refine ⟨_, rfl, (by show 2 ≤ sizeLine; decide), fun q7_0 hq7_0 => ?_⟩
      have uq7_0 := same_new (o := .tup [.int (1), .int (-1)]) hq7_0
      have my := uq7_0
      have dy : Dp K _ (.ref q7_0) (dI [1, -1]) := dp_at my (show Dp K _ (.ref q7_0) (.tuple [.int (1), .int (-1)]) from (.tup (SqT.of upd_same) (.cons (.int _) (.cons (.int _) .nil))))
      refine ⟨.ref A, .ref q7_0, (1, 1), [(1, 1), (2, 1)], [(3, 1)], 1, [1, -1], rfl, args_of (dps my dA) dy (by decide +kernel) (by decide +kernel) (by decide +kernel), by decide +kernel, by decide, by decide, fun Hc u3 sc w4 => ?_⟩
      rw [show wv (endB [(3, 1)]) [(1, 1), (2, 1)] [(3, 1)] 1 [1, -1] = none from by decide +kernel] at w4
      have s3 := my.trans sc
      have gL := s3 _ _ hL
      have lx := dpAll_len dT
      obtain ⟨b, rfl, sb⟩ := w4
      have nL : xs ≠ [] := fun z => by
        rw [z] at lx
        cases lx
      refine ⟨L, xs, _, rfl, rfl, gL, small1000 (by rw [lx]; decide), ?_⟩
      refine ⟨L, .lst (SqL.of upd_same) (dpAll_app (es := [.list []]) (dpAll_off gL _ _ (by decide +kernel) (dpAll_s s3 dT)) (.cons (.lst (sqL_upd gL nL sb) .nil) .nil)), rfl⟩
    clear dA dB dT hL
    rintro σ H2 ⟨L, dT, rfl⟩
    refine ⟨fun σ H3 => ∃ (M : Addr), Dp K H3 (.ref L) dAll ∧ Dp K H3 (.ref M) dAll ∧ σ = [some (.ref a), some (.ref p), v2, v3, v4, v5, v6, some (.ref A), some (.ref B), some (.ref L), some (.ref M)], ?_, ?_⟩
    · skip
      refine ⟨(by show 2 ≤ sizeLine; decide), fun q8_0 hq8_0 => ⟨_, rfl, (by show 2 ≤ sizeLine; decide), fun q8_1 hq8_1 => ⟨(by show 2 ≤ sizeLine; decide), fun q8_2 hq8_2 => ⟨(by show 4 ≤ sizeLine; decide), fun q8_3 hq8_3 => ⟨(by show 2 ≤ sizeLine; decide), fun q8_4 hq8_4 => ⟨(by show 2 ≤ sizeLine; decide), fun q8_5 hq8_5 => ⟨(by show 2 ≤ sizeLine; decide), fun q8_6 hq8_6 => ⟨(by show 2 ≤ sizeLine; decide), fun q8_7 hq8_7 => ⟨(by show 2 ≤ sizeLine; decide), fun q8_8 hq8_8 => ⟨(by show 0 ≤ sizeLine; decide), fun q8_9 hq8_9 => ⟨(by show 0 ≤ sizeLine; decide), fun q8_10 hq8_10 => ⟨(by show 9 ≤ sizeLine; decide), fun q8_11 hq8_11 => ?_⟩⟩⟩⟩⟩⟩⟩⟩⟩⟩⟩⟩
      have uq8_0 := same_new (o := .tup [.int (0), .int (0)]) hq8_0
      have uq8_1 := same_new (o := .tup [.int (1), .int (-1)]) hq8_1
      have uq8_2 := same_new (o := .tup [.ref q8_0, .ref q8_1]) hq8_2
      have uq8_3 := same_new (o := .tup [.int (1), .int (2), .int (2), .int (1)]) hq8_3
      have uq8_4 := same_new (o := .tup [.int (6), .int (1)]) hq8_4
      have uq8_5 := same_new (o := .tup [.int (6), .int (1)]) hq8_5
      have uq8_6 := same_new (o := .tup [.int (0), .int (1)]) hq8_6
      have uq8_7 := same_new (o := .tup [.int (0), .int (1)]) hq8_7
      have uq8_8 := same_new (o := .tup [.int (1), .int (1)]) hq8_8
      have uq8_9 := same_new (o := .tup []) hq8_9
      have uq8_10 := same_new (o := .lst []) hq8_10
      have uq8_11 := same_new (o := .lst [.ref q8_2, .ref q8_3, .ref q8_4, .ref q8_5, .ref q8_6, .ref q8_7, .ref q8_8, .ref q8_9, .ref q8_10]) hq8_11
      have my := (uq8_0.trans (uq8_1.trans (uq8_2.trans (uq8_3.trans (uq8_4.trans (uq8_5.trans (uq8_6.trans (uq8_7.trans (uq8_8.trans (uq8_9.trans (uq8_10.trans uq8_11)))))))))))
      have dy : Dp K _ (.ref q8_11) (dAll) := dp_at my (show Dp K _ (.ref q8_11) (.list [.tuple [.tuple [.int (0), .int (0)], .tuple [.int (1), .int (-1)]], .tuple [.int (1), .int (2), .int (2), .int (1)], .tuple [.int (6), .int (1)], .tuple [.int (6), .int (1)], .tuple [.int (0), .int (1)], .tuple [.int (0), .int (1)], .tuple [.int (1), .int (1)], .tuple [], .list []]) from (.lst (SqL.of upd_same) (.cons (dps (uq8_3.trans (uq8_4.trans (uq8_5.trans (uq8_6.trans (uq8_7.trans (uq8_8.trans (uq8_9.trans (uq8_10.trans uq8_11)))))))) (show Dp K _ (.ref q8_2) (.tuple [.tuple [.int (0), .int (0)], .tuple [.int (1), .int (-1)]]) from (.tup (SqT.of upd_same) (.cons (dps (uq8_1.trans uq8_2) (show Dp K _ (.ref q8_0) (.tuple [.int (0), .int (0)]) from (.tup (SqT.of upd_same) (.cons (.int _) (.cons (.int _) .nil))))) (.cons (dps uq8_2 (show Dp K _ (.ref q8_1) (.tuple [.int (1), .int (-1)]) from (.tup (SqT.of upd_same) (.cons (.int _) (.cons (.int _) .nil))))) .nil))))) (.cons (dps (uq8_4.trans (uq8_5.trans (uq8_6.trans (uq8_7.trans (uq8_8.trans (uq8_9.trans (uq8_10.trans uq8_11))))))) (show Dp K _ (.ref q8_3) (.tuple [.int (1), .int (2), .int (2), .int (1)]) from (.tup (SqT.of upd_same) (.cons (.int _) (.cons (.int _) (.cons (.int _) (.cons (.int _) .nil))))))) (.cons (dps (uq8_5.trans (uq8_6.trans (uq8_7.trans (uq8_8.trans (uq8_9.trans (uq8_10.trans uq8_11)))))) (show Dp K _ (.ref q8_4) (.tuple [.int (6), .int (1)]) from (.tup (SqT.of upd_same) (.cons (.int _) (.cons (.int _) .nil))))) (.cons (dps (uq8_6.trans (uq8_7.trans (uq8_8.trans (uq8_9.trans (uq8_10.trans uq8_11))))) (show Dp K _ (.ref q8_5) (.tuple [.int (6), .int (1)]) from (.tup (SqT.of upd_same) (.cons (.int _) (.cons (.int _) .nil))))) (.cons (dps (uq8_7.trans (uq8_8.trans (uq8_9.trans (uq8_10.trans uq8_11)))) (show Dp K _ (.ref q8_6) (.tuple [.int (0), .int (1)]) from (.tup (SqT.of upd_same) (.cons (.int _) (.cons (.int _) .nil))))) (.cons (dps (uq8_8.trans (uq8_9.trans (uq8_10.trans uq8_11))) (show Dp K _ (.ref q8_7) (.tuple [.int (0), .int (1)]) from (.tup (SqT.of upd_same) (.cons (.int _) (.cons (.int _) .nil))))) (.cons (dps (uq8_9.trans (uq8_10.trans uq8_11)) (show Dp K _ (.ref q8_8) (.tuple [.int (1), .int (1)]) from (.tup (SqT.of upd_same) (.cons (.int _) (.cons (.int _) .nil))))) (.cons (dps (uq8_10.trans uq8_11) (show Dp K _ (.ref q8_9) (.tuple []) from (.tup (SqT.of upd_same) .nil))) (.cons (dps uq8_11 (show Dp K _ (.ref q8_10) (.list []) from (.lst (SqL.of upd_same) .nil))) .nil)))))))))))
      exact ⟨q8_11, dps my dT, dy, rfl⟩
    clear dT
    rintro σ H2 ⟨M, dT, dM, rfl⟩
    refine ⟨fun σ H3 => σ = [some (.ref a), some (.ref p), v2, v3, v4, v5, v6, some (.ref A), some (.ref B), some (.ref L), some (.ref M)], ?_, ?_⟩
    · refine ⟨_, rfl, _, rfl, dAll, dAll, dT, dM, by decide +kernel, by decide +kernel, _, rfl, ?_⟩
      rw [show PyData.eqv dAll dAll = true from by decide +kernel]
      refine iteF ?_
      refine ⟨4, 4, 2, rfl, by decide, by decide, by decide, by decide, by decide, fun Ha u1 sa w1 => ?_⟩
      rw [show ways 4 4 2 = [[-1, 1], [0, 0], [1, -1]] from by decide +kernel] at w1
      refine ⟨_, rfl, (by show 2 ≤ sizeLine; decide), fun q9_0 hq9_0 => ⟨(by show 2 ≤ sizeLine; decide), fun q9_1 hq9_1 => ⟨_, rfl, (by show 2 ≤ sizeLine; decide), fun q9_2 hq9_2 => ⟨(by show 3 ≤ sizeLine; decide), fun q9_3 hq9_3 => ?_⟩⟩⟩⟩
      have uq9_0 := same_new (o := .tup [.int (-1), .int (1)]) hq9_0
      have uq9_1 := same_new (o := .tup [.int (0), .int (0)]) hq9_1
      have uq9_2 := same_new (o := .tup [.int (1), .int (-1)]) hq9_2
      have uq9_3 := same_new (o := .tup [.ref q9_0, .ref q9_1, .ref q9_2]) hq9_3
      have my := (uq9_0.trans (uq9_1.trans (uq9_2.trans uq9_3)))
      have dy : Dp K _ (.ref q9_3) (dW [[-1, 1], [0, 0], [1, -1]]) := dp_at my (show Dp K _ (.ref q9_3) (.tuple [.tuple [.int (-1), .int (1)], .tuple [.int (0), .int (0)], .tuple [.int (1), .int (-1)]]) from (.tup (SqT.of upd_same) (.cons (dps (uq9_1.trans (uq9_2.trans uq9_3)) (show Dp K _ (.ref q9_0) (.tuple [.int (-1), .int (1)]) from (.tup (SqT.of upd_same) (.cons (.int _) (.cons (.int _) .nil))))) (.cons (dps (uq9_2.trans uq9_3) (show Dp K _ (.ref q9_1) (.tuple [.int (0), .int (0)]) from (.tup (SqT.of upd_same) (.cons (.int _) (.cons (.int _) .nil))))) (.cons (dps uq9_3 (show Dp K _ (.ref q9_2) (.tuple [.int (1), .int (-1)]) from (.tup (SqT.of upd_same) (.cons (.int _) (.cons (.int _) .nil))))) .nil)))))
      refine ⟨dW [[-1, 1], [0, 0], [1, -1]], dW [[-1, 1], [0, 0], [1, -1]], dps my w1.dp, dy, shaped_dW _, shaped_dW _, _, rfl, ?_⟩
      rw [eqv_dW]
      exact iteF rfl
    clear dT dM
    rintro σ H2 rfl
    refine ⟨fun σ H3 => σ = [some (.ref a), some (.ref p), v2, v3, v4, v5, v6, some (.ref A), some (.ref B), some (.ref L), some (.ref M)], ?_, ?_⟩
    · skip
      refine ⟨(by show 2 ≤ sizeLine; decide), fun q10_0 hq10_0 => ⟨(by show 2 ≤ sizeLine; decide), fun q10_1 hq10_1 => ⟨(by show 1 ≤ sizeLine; decide), fun q10_2 hq10_2 => ⟨q10_2, 4, _, rfl, rfl, SqT.of upd_same, by simp, by decide, by decide, (by show 1 ≤ 1000; decide), fun q10_3 hq10_3 => ⟨(by show 2 ≤ sizeLine; decide), fun q10_4 hq10_4 => ⟨(by show 2 ≤ sizeLine; decide), fun q10_5 hq10_5 => ⟨(by show 2 ≤ sizeLine; decide), fun q10_6 hq10_6 => ⟨(by show 2 ≤ sizeLine; decide), fun q10_7 hq10_7 => ⟨(by show 4 ≤ sizeLine; decide), fun q10_8 hq10_8 => ⟨(by show 3 ≤ sizeLine; decide), fun q10_9 hq10_9 => ?_⟩⟩⟩⟩⟩⟩⟩⟩⟩⟩
      have uq10_0 := same_new (o := .tup [.int (1), .int (1)]) hq10_0
      have uq10_1 := same_new (o := .tup [.int (1), .int (1)]) hq10_1
      have uq10_2 := same_new (o := .tup [.ref q10_1]) hq10_2
      have uq10_3 := same_new (o := .tup [.ref q10_1, .ref q10_1, .ref q10_1, .ref q10_1]) hq10_3
      have uq10_4 := same_new (o := .tup [.int (1), .int (1)]) hq10_4
      have uq10_5 := same_new (o := .tup [.int (2), .int (1)]) hq10_5
      have uq10_6 := same_new (o := .tup [.int (3), .int (1)]) hq10_6
      have uq10_7 := same_new (o := .tup [.int (5), .int (1)]) hq10_7
      have uq10_8 := same_new (o := .tup [.ref q10_4, .ref q10_5, .ref q10_6, .ref q10_7]) hq10_8
      have uq10_9 := same_new (o := .tup [.ref q10_0, .ref q10_3, .ref q10_8]) hq10_9
      have mx := (uq10_0.trans (uq10_1.trans (uq10_2.trans (uq10_3.trans (uq10_4.trans (uq10_5.trans (uq10_6.trans (uq10_7.trans (uq10_8.trans uq10_9)))))))))
      have dx : Dp K _ (.ref q10_9) (dL (1, 1) [(1, 1), (1, 1), (1, 1), (1, 1)] [(1, 1), (2, 1), (3, 1), (5, 1)]) := dp_at mx (show Dp K _ (.ref q10_9) (.tuple [.tuple [.int (1), .int (1)], .tuple [.tuple [.int (1), .int (1)], .tuple [.int (1), .int (1)], .tuple [.int (1), .int (1)], .tuple [.int (1), .int (1)]], .tuple [.tuple [.int (1), .int (1)], .tuple [.int (2), .int (1)], .tuple [.int (3), .int (1)], .tuple [.int (5), .int (1)]]]) from (.tup (SqT.of upd_same) (.cons (dps (uq10_1.trans (uq10_2.trans (uq10_3.trans (uq10_4.trans (uq10_5.trans (uq10_6.trans (uq10_7.trans (uq10_8.trans uq10_9)))))))) (show Dp K _ (.ref q10_0) (.tuple [.int (1), .int (1)]) from (.tup (SqT.of upd_same) (.cons (.int _) (.cons (.int _) .nil))))) (.cons (dps (uq10_4.trans (uq10_5.trans (uq10_6.trans (uq10_7.trans (uq10_8.trans uq10_9))))) (show Dp K _ (.ref q10_3) (.tuple [.tuple [.int (1), .int (1)], .tuple [.int (1), .int (1)], .tuple [.int (1), .int (1)], .tuple [.int (1), .int (1)]]) from (.tup (SqT.of upd_same) (.cons (dps (uq10_2.trans uq10_3) (show Dp K _ (.ref q10_1) (.tuple [.int (1), .int (1)]) from (.tup (SqT.of upd_same) (.cons (.int _) (.cons (.int _) .nil))))) (.cons (dps (uq10_2.trans uq10_3) (show Dp K _ (.ref q10_1) (.tuple [.int (1), .int (1)]) from (.tup (SqT.of upd_same) (.cons (.int _) (.cons (.int _) .nil))))) (.cons (dps (uq10_2.trans uq10_3) (show Dp K _ (.ref q10_1) (.tuple [.int (1), .int (1)]) from (.tup (SqT.of upd_same) (.cons (.int _) (.cons (.int _) .nil))))) (.cons (dps (uq10_2.trans uq10_3) (show Dp K _ (.ref q10_1) (.tuple [.int (1), .int (1)]) from (.tup (SqT.of upd_same) (.cons (.int _) (.cons (.int _) .nil))))) .nil))))))) (.cons (dps uq10_9 (show Dp K _ (.ref q10_8) (.tuple [.tuple [.int (1), .int (1)], .tuple [.int (2), .int (1)], .tuple [.int (3), .int (1)], .tuple [.int (5), .int (1)]]) from (.tup (SqT.of upd_same) (.cons (dps (uq10_5.trans (uq10_6.trans (uq10_7.trans uq10_8))) (show Dp K _ (.ref q10_4) (.tuple [.int (1), .int (1)]) from (.tup (SqT.of upd_same) (.cons (.int _) (.cons (.int _) .nil))))) (.cons (dps (uq10_6.trans (uq10_7.trans uq10_8)) (show Dp K _ (.ref q10_5) (.tuple [.int (2), .int (1)]) from (.tup (SqT.of upd_same) (.cons (.int _) (.cons (.int _) .nil))))) (.cons (dps (uq10_7.trans uq10_8) (show Dp K _ (.ref q10_6) (.tuple [.int (3), .int (1)]) from (.tup (SqT.of upd_same) (.cons (.int _) (.cons (.int _) .nil))))) (.cons (dps uq10_8 (show Dp K _ (.ref q10_7) (.tuple [.int (5), .int (1)]) from (.tup (SqT.of upd_same) (.cons (.int _) (.cons (.int _) .nil))))) .nil))))))) .nil)))))
      refine ⟨_, rfl, (by show 1 ≤ sizeLine; decide), fun q11_0 hq11_0 => ?_⟩
      have uq11_0 := same_new (o := .tup [.int (-1)]) hq11_0
      have my := uq11_0
      have dy : Dp K _ (.ref q11_0) (dI [-1]) := dp_at my (show Dp K _ (.ref q11_0) (.tuple [.int (-1)]) from (.tup (SqT.of upd_same) (.cons (.int _) .nil)))
      refine ⟨.ref q10_9, .ref q11_0, (1, 1), [(1, 1), (1, 1), (1, 1), (1, 1)], [(1, 1), (2, 1), (3, 1), (5, 1)], 4, [-1], rfl, args_of (dps my dx) dy (by decide +kernel) (by decide +kernel) (by decide +kernel), by decide +kernel, by decide, by decide, ww_fin (q := (5, 1)) (by decide +kernel) fun Hc u3 sc w4 => ?_⟩
      refine ⟨(by show 2 ≤ sizeLine; decide), fun q12_0 hq12_0 => ?_⟩
      have uq12_0 := same_new (o := .tup [.int (5), .int (1)]) hq12_0
      have mz := uq12_0
      have dz : Dp K _ (.ref q12_0) (dF (5, 1)) := dp_at mz (show Dp K _ (.ref q12_0) (.tuple [.int (5), .int (1)]) from (.tup (SqT.of upd_same) (.cons (.int _) (.cons (.int _) .nil))))
      refine ⟨dF (5, 1), dF (5, 1), dps mz w4.dp, dz, rfl, rfl, _, rfl, ?_⟩
      rw [show PyData.eqv (dF (5, 1)) (dF (5, 1)) = true from by decide +kernel]
      exact iteF rfl
    rintro σ H2 rfl
    refine ⟨0, 4, 4, rfl, by decide, by decide, by decide, by decide, by decide, fun Ha u1 sa w1 => ?_⟩
    rw [show ways 0 4 4 = [[1, 1, 1, 1]] from by decide +kernel] at w1
    refine ⟨(by show 4 ≤ sizeLine; decide), fun q13_0 hq13_0 => ⟨(by show 1 ≤ sizeLine; decide), fun q13_1 hq13_1 => ?_⟩⟩
    have uq13_0 := same_new (o := .tup [.int (1), .int (1), .int (1), .int (1)]) hq13_0
    have uq13_1 := same_new (o := .tup [.ref q13_0]) hq13_1
    have my := (uq13_0.trans uq13_1)
    have dy : Dp K _ (.ref q13_1) (dW [[1, 1, 1, 1]]) := dp_at my (show Dp K _ (.ref q13_1) (.tuple [.tuple [.int (1), .int (1), .int (1), .int (1)]]) from (.tup (SqT.of upd_same) (.cons (dps uq13_1 (show Dp K _ (.ref q13_0) (.tuple [.int (1), .int (1), .int (1), .int (1)]) from (.tup (SqT.of upd_same) (.cons (.int _) (.cons (.int _) (.cons (.int _) (.cons (.int _) .nil))))))) .nil)))
    refine ⟨dW [[1, 1, 1, 1]], dW [[1, 1, 1, 1]], dps my w1.dp, dy, shaped_dW _, shaped_dW _, _, rfl, ?_⟩
    rw [eqv_dW]
    refine iteT ?_
    refine ⟨0, 0, 8, rfl, by decide, by decide, by decide, by decide, by decide, fun Hb u2 sb w2 => ?_⟩
    obtain ⟨b, us, rfl, sq, al⟩ := w2
    refine ⟨b, us, rfl, .inr sq, rfl, ?_⟩
    rw [al.len, show (ways 0 0 8).length = 323 from by decide +kernel]
    exact kk _
end
end Rs


set_option Elab.async false
set_option linter.all false
set_option maxRecDepth 100000
set_option maxHeartbeats 1000000
/-! the end of a law with tables of lambdas, for a promise that wants no guards -/
namespace Rs
open PySem PySem.Spec PyProof.Rows L2 Bs LamX
/-- what is tracked at the law's call: the empty tables; the script, if t -/
def hof (ts : List Addr) (a : Addr) (t : Bool) (u : HO) : Hp := fun b => if b ∈ ts then some (.tbl #[]) else if b = a ∧ t = true then some u else none
section
variable {ts : List Addr} {a b : Addr} {t : Bool} {u x : HO}
theorem hof_some (h : hof ts a t u b = some x) : (b ∈ ts ∧ x = .tbl #[]) ∨ (b = a ∧ t = true ∧ x = u) := by
  unfold hof at h
  split at h
  · rename_i m
    cases h
    exact .inl ⟨m, rfl⟩
  · split at h
    · rename_i z
      cases h
      exact .inr ⟨z.1, z.2, rfl⟩
    · cases h
theorem hof_tab (m : b ∈ ts) : hof ts a t u b = some (.tbl #[]) := if_pos m
theorem hof_at (n : a ∉ ts) (e : t = true) : hof ts a t u a = some u := (if_neg n).trans (if_pos ⟨rfl, e⟩)
end
section
variable {P : Program} {w : World} {K : PySem.W.Frag} {mg mb : Str → Option Value} {k : Nat} {fa a : Addr} {cs : List (Addr × Addr)} {fd : FuncData} {x : Str} {sp : Sp} {s0 : Shared} {vs : List Value} {ns : List Int}
theorem callG (inK : K.In s0.heap) (gM : s0.heap.Ns mainGlobals mg) (gB : s0.heap.Ns builtinsNs mb) (gV : ∀ y : Str, y ≠ "__name__" → mb y = bootBuiltins y) (gL : s0.heap.NoLimit) (gG : s0.gens = #[])
    (tE : ∀ q ∈ cs, s0.heap.get? q.2 = some (PySem.W.tabObj #[])) (tK : ∀ q ∈ cs, K.lookup q.2 = none) (tH : ∀ q ∈ cs, PySem.W.codeHdIn K q.1 q.2 = true)
    (gb : ∃ (m : Addr) (o : Obj), mg "__builtins__" = some (.ref m) ∧ m ≠ builtinsNs ∧ s0.heap.get? m = some o ∧ o.cls = .type "module" ∧ o.dict = some builtinsNs ∧ o.data = .plain)
    (sc : s0.heap.get? a = some { cls := .type "list", data := .seq vs.toArray }) (si : IntsAre vs ns) (sl : ns.length ≤ sizeLine) (room : Room k callerA)
    (prom : ∀ base : Heap, K.In base → base.Ns mainGlobals mg → (∀ q ∈ cs, TabB base mg q.1 q.2) → FnG P w K mg base k fa fd [x] sp) (bnd : ∀ (s : Shared) (u : Value), BindsTo s fd ⟨[u], []⟩ [(x, u)])
    (wish : ∀ H : Hp, (∀ q ∈ cs, H q.2 = some (.tbl #[])) → SqL K H a (ns.map V.int) → sp [.ref a] H (fun v _ => v = .bl true) fun _ _ _ => False) :
    codeAny (model P w) callerA (.call (.ref fa) ⟨[.ref a], []⟩) (fun r s' => r = .ok (.ret (.bool true)) ∧ OldK s0.heap s'.heap ∧ s'.os = s0.os ∧ AllBare s'.gens) s0 := by
  have rv := vals_ints si
  have lv := si.length
  generalize hts : cs.map (·.2) = ts
  have inT : ∀ b ∈ ts, ∃ c, (c, b) ∈ cs := fun b hb => by
    rw [← hts] at hb
    obtain ⟨⟨c, b'⟩, h1, h2⟩ := List.mem_map.mp hb
    cases h2
    exact ⟨c, h1⟩
  have toT : ∀ q ∈ cs, q.2 ∈ ts := fun q hq => by
    rw [← hts]
    exact List.mem_map.mpr ⟨q, hq, rfl⟩
  have tab : ∀ b ∈ ts, s0.heap.get? b = some (PySem.W.tabObj #[]) := fun b hb => by
    obtain ⟨c, m⟩ := inT b hb
    exact tE _ m
  have aT : a ∉ ts := fun z => by
    have e := (tab a z).symm.trans sc
    cases e
  -- the script's own record
  generalize hso : ({ cls := .type "list", data := .seq vs.toArray } : Obj) = so at sc
  generalize hH : hof ts a (K.lookup a).isNone (.frz so (.lst (ns.map V.int))) = H
  have why : ∀ {b : Addr} {u : HO}, H b = some u → (b ∈ ts ∧ u = .tbl #[]) ∨ (b = a ∧ K.lookup a = none ∧ u = .frz so (.lst (ns.map V.int))) := fun {b u} e => by
    rw [← hH] at e
    rcases hof_some e with z | ⟨z1, z2, z3⟩
    · exact .inl z
    · exact .inr ⟨z1, Option.isNone_iff_eq_none.mp z2, z3⟩
  have hT : ∀ q ∈ cs, H q.2 = some (.tbl #[]) := fun q hq => by
    rw [← hH]
    exact hof_tab (toT q hq)
  have hS : SqL K H a (ns.map V.int) := by
    cases e : K.lookup a with
    | none =>
      refine .inl (.inr ⟨so, ?_⟩)
      rw [← hH]
      exact hof_at aT (by rw [e]; rfl)
    | some o =>
      have e2 := inK a o e
      rw [sc] at e2
      cases e2
      subst hso
      exact .inr ⟨_, vs.toArray, _, e, rfl, rfl, rfl, by rw [List.size_toArray, lv]; exact sl, by simpa using rv⟩
  have ok0 : HOk P w H s0.heap := fun b u e => by
    rcases why e with ⟨z, rfl⟩ | ⟨rfl, _, rfl⟩
    · exact tab b z
    · refine ⟨sc, ?_⟩
      subst hso
      exact ⟨by rw [List.length_map]; exact sl, vs, _, rv, sc⟩
  -- what is neither a list nor an empty table isn't tracked
  have off : ∀ {b : Addr} {o : Obj}, s0.heap.get? b = some o → (∀ (z : Array Value) (m : Nat), o.data ≠ .seq z m) → o.data ≠ .fields #[] → H b = none := fun {b o} e n1 n2 => by
    cases q : H b with
    | none => rfl
    | some u =>
      rcases why q with ⟨z, _⟩ | ⟨z, _, _⟩
      · rw [tab b z] at e
        cases e
        exact absurd rfl n2
      · rw [z, sc] at e
        cases e
        subst hso
        exact absurd rfl (n1 _ _)
  have low : ∀ {b : Addr} {o : Obj}, s0.heap.get? b = some o → H b = none → (hidT s0.heap H).get? b = some o := fun e n => hidT_get e n
  have offD : ∀ {b : Addr} {m : Str → Option Value}, s0.heap.Ns b m → (hidT s0.heap H).Ns b m := by
    rintro b m ⟨o, es, ep, e, d, r⟩
    exact ⟨o, es, ep, low e (off e (fun z m' q => by rw [d] at q; cases q) fun q => by rw [d] at q; cases q), d, r⟩
  have offK : K.In (hidT s0.heap H) := fun b o e => low (inK b o e) (by
    cases q : H b with
    | none => rfl
    | some u =>
      rcases why q with ⟨z, _⟩ | ⟨z, n, _⟩
      · obtain ⟨c, m⟩ := inT b z
        exact absurd (e.symm.trans (tK _ m)) (by simp)
      · rw [z, n] at e
        cases e)
  have M : L2.Mod K mg (hidT s0.heap H) := by
    obtain ⟨mc, c1, c2⟩ := gL
    exact ⟨offK, offD gM, ⟨mb, offD gB, gV⟩, mc, offD c1, c2⟩
  have TB : ∀ q ∈ cs, TabB (hidT s0.heap H) mg q.1 q.2 := fun q hq => by
    obtain ⟨m, o, m1, m2, m3, m4, m5, m6⟩ := gb
    have pl : ∀ {d : Data}, d = o.data → d = .plain := fun z => z.trans m6
    refine NdefX.tabB_of_K offK (tH q hq) ⟨m, o, m1, m2, fun z => ?_, fun z => ?_, low m3 (off m3 (fun z m' e => by rw [m6] at e; cases e) fun e => by rw [m6] at e; cases e), m4, m5, m6⟩ fun z => ?_
    · obtain ⟨o2, es, ep, e, d, _⟩ := gM
      rw [← z, m3] at e
      cases e
      rw [m6] at d
      cases d
    · have e := tE q hq
      rw [← z, m3] at e
      cases e
      cases m6
    · obtain ⟨o2, es, ep, e, d, _⟩ := gM
      rw [z, tE q hq] at e
      cases e
      cases d
  have E : Env0 P w K mg (hidT s0.heap H) callerA [] s0 H :=
    { frames := rfl, mod := M, bs := fun b o e => of_hidT e, bsz := Nat.le_of_eq (hidT_size _ _), funs := trivial, frf := (fun b hb => nomatch hb), hok := ok0, bare := .of_eq gG }
  refine codeAny_mono ((prom _ offK (offD gM) TB).run callerA [] s0 H ⟨[.ref a], []⟩ [.ref a] [.ref a] _ _ rfl room E (bnd s0 (.ref a)) (.cons rfl .nil) (wish H hT hS)) fun r s' h => ?_
  rcases r with e | fl
  · exact (show False from h).elim
  · cases fl with
    | next => exact (show False from h).elim
    | brk => exact (show False from h).elim
    | cont => exact (show False from h).elim
    | ret u =>
      obtain ⟨v, H2, os, bare, un, ok2, r2, rfl⟩ := h
      obtain rfl : u = Value.bool true := r2
      have more : ∀ b ∈ ts, ∃ m : Array Value, s'.heap.get? b = some (PySem.W.tabObj m) := fun b hb => by
        obtain ⟨c, hm⟩ := inT b hb
        obtain ⟨m, z⟩ := un.tbls b #[] (hT _ hm)
        exact ⟨_, ok2 b _ z⟩
      have same : ∀ b o, b ∉ ts → s0.heap.get? b = some o → s'.heap.get? b = some o := fun b o nb e => by
        cases q : H b with
        | none => exact un.keep b o e q (fun z => nomatch z) fun z => nomatch z
        | some u =>
          rcases why q with ⟨z, _⟩ | ⟨_, _, rfl⟩
          · exact absurd z nb
          · have g1 := (ok0 b _ q).1
            have g2 := (ok2 b _ (un.frzs b _ _ q)).1
            rw [e] at g1
            cases g1
            exact g2
      refine ⟨rfl, ⟨fun b o e => ?_, fun b o e => ?_⟩, os, bare⟩
      · by_cases hb : b ∈ ts
        · obtain ⟨c, hm⟩ := inT b hb
          obtain ⟨m, g⟩ := more b hb
          rw [tab b hb] at e
          cases e
          exact .inr (.inl ⟨((PySem.W.codeHd_of_K inK (tH _ hm)).tab (tab b hb)).isCodeTable, rfl, #[], m, rfl, by rw [Array.empty_append]; exact g⟩)
        · exact .inl (same b o hb e)
      · by_cases hb : b ∈ ts
        · obtain ⟨m, g⟩ := more b hb
          exact ⟨_, g⟩
        · exact ⟨o, same b o hb e⟩
end
end Rs


set_option Elab.async false
set_option linter.all false
set_option maxRecDepth 100000
set_option maxHeartbeats 1000000
namespace Rs
open PySem PySem.Spec PyProof.Rows L2 Bs LamX
section
variable {K : PySem.W.Frag} {h : Heap} {mg : Str → Option Value} {f C c P : Addr} {x q qual : Str} {st : Stmt} {ps : List Str} {oc kV doc pm cdv ct : Value} {od an : Option Addr} {sl : Array (Option Value)}
theorem defN_mk (X : K.In h) (G : h.Ns mainGlobals mg) (a : PySem.W.nsIn K mainGlobals x = some (some (.ref f)))
    (l : K.lookup f = some ⟨oc, od, .func (PySem.W.fnOf x x (defArgs st) (defBody st) (defScope st) .none kV doc pm an cdv ct), sl⟩) (c : PySem.W.codeIn K cdv x = true) (k : PySem.W.keepIn K (.ref f) = true)
    (b : ∀ (kV doc pm : Value) (an : Option Addr) (cdv ct : Value) (us : List Value), us.length = ps.length → bindArgs (PySem.W.fnOf x x (defArgs st) (defBody st) (defScope st) .none kV doc pm an cdv ct) ⟨us, []⟩ = pure (ps.zip us)) : DefN K mg x st ps :=
  ⟨f, _, fun_mk l c k, PySem.W.mg_of X G a, (fun_mk l c k).binds b⟩
end
section
variable {K : PySem.W.Frag} {mg : Str → Option Value} {CM : Addr}
structure Top0 (K : PySem.W.Frag) (mg : Str → Option Value) (CM : Addr) : Prop where
  red : DefN K mg "reduced" sReduced ["top", "bottom"]
  tim : DefN K mg "timed" sTimed ["one", "other"]
  who : DefN K mg "is_whole" sWhole ["thing"]
  bet : DefN K mg "is_between" sBetween ["thing", "low", "high"]
  fra : DefN K mg "is_fraction" sFraction ["thing"]
  pos : DefN K mg "is_positive" sPosi ["thing"]
  arf : DefN K mg "are_fractions" sAreF ["thing", "most"]
  neB : DefN K mg "need_between" sNeedB ["thing", "low", "high"]
  abv : DefN K mg "are_above" sAbove ["some"]
  isl : DefN K mg "is_ladder" sIsLad ["thing"]
  neL : DefN K mg "need_ladder" sNeedLad ["thing"]
  hae : DefN K mg "has_end" sHasEnd ["ladder"]
  hts : DefN K mg "heights_by" sHts ["start", "way"]
  neH : DefN K mg "need_height" sNeedHt ["thing"]
  isw : DefN K mg "is_way" sIsWay ["start", "thing"]
  neW : DefN K mg "need_way" sNeedWay ["start", "way"]
  btw : DefN K mg "ways_between" sBetw ["start", "stop", "many"]
  alw : DefN K mg "all_ways" sAllW ["start", "stop", "many"]
  hto : DefN K mg "heights_of" sHtsOf ["start", "way"]
  wby : DefN K mg "worth_by" sWorthBy ["ladder", "start", "way"]
  wwo : DefN K mg "way_worth" sWayWorth ["ladder", "start", "way"]
  mix : DefN K mg "_law_mixed" sMixed ["cell", "k"]
  beg : DefN K mg "_law_begin" sBegin ["script"]
  drw : DefN K mg "_law_draw" sDraw ["state", "many"]
  lra : DefN K mg "_law_ratio" sLRatio ["top", "bottom"]
  lti : DefN K mg "_law_times" sLTimes ["one", "other"]
  dwn : DefN K mg "_law_drawn_ladder" sDrawn ["state"]
  led : DefN K mg "_law_ended" sLEnded ["ladder_so"]
  lwa : DefN K mg "_law_ways" sLWays ["start", "stop", "many"]
  lht : DefN K mg "_law_heights" sLHts ["start", "way"]
  lww : DefN K mg "_law_way_worth" sLWorth ["ladder_so", "start", "way"]
  lhe : DefN K mg "_law_heard" sHeard' ["ladder_so", "start", "way"]
  rig : DefN K mg "_law_right" sRight ["ladder_so", "start", "stop", "many"]
  law : DefN K mg "law" sLaw ["script"]
  eM : ErrK K mg "Missing" "Missing.__init__" "given" sIMi CM
  z : Nou K mg
  t : Blt mg
  og : OneG K mg
  ms : Mosts mg
  bn : Bnds mg
  zp : mg "zip" = none
  al : mg "all" = none
  mx : mg "max" = none
  rv : mg "reversed" = none
theorem law_prom {P : Program} {w : World} (D : Top0 K mg CM) {fa : Addr} (hfa : mg "law" = some (.ref fa)) :
    ∃ fd : FuncData, (∀ (s : Shared) (u : Value), BindsTo s fd ⟨[u], []⟩ [("script", u)]) ∧
      ∀ base : Heap, FnG P w K mg base 9 fa fd ["script"] (spLaw K) := by
  obtain ⟨f, fd, F, m, bi⟩ := D.law.ex
  rw [hfa] at m
  cases m
  refine ⟨fd, ?_, fun base => ?_⟩
  · obtain ⟨oc, od, kV, doc, pm, an, cdv, ct, osl, rfl, _, _⟩ := F.ex
    exact fun s u => .of_eq rfl
  have T := D.t
  have eM : ErrOkK P w K mg base "Missing" "given" CM := D.eM.okM
  have red := D.red.cal (P := P) (w := w) (base := base) fun f fd F => ok_reduced F T
  have tim := D.tim.cal (P := P) (w := w) (base := base) fun f fd F => ok_timed F red
  have who := D.who.cal (P := P) (w := w) (base := base) fun f fd F => ok_whole F T
  have bet := D.bet.cal (P := P) (w := w) (base := base) fun f fd F => ok_between F who
  have fra := D.fra.cal (P := P) (w := w) (base := base) fun f fd F => ok_fraction F T who
  have pos := D.pos.cal (P := P) (w := w) (base := base) fun f fd F => ok_posi F fra
  have arf := D.arf.cal (P := P) (w := w) (base := base) fun f fd F => ok_areF F T D.al fra
  have neB := D.neB.cal (P := P) (w := w) (base := base) fun f fd F => ok_needB' F bet
  have abv := D.abv.cal (P := P) (w := w) (base := base) fun f fd F => ok_above F D.al
  have isl := D.isl.cal (P := P) (w := w) (base := base) fun f fd F => ok_isLad F T D.ms D.z pos arf abv
  have neL := D.neL.cal (P := P) (w := w) (base := base) fun f fd F => ok_needLad' F isl
  have hae := D.hae.cal (P := P) (w := w) (base := base) fun f fd F => ok_hasEnd F T D.z
  have hts := D.hts.cal (P := P) (w := w) (base := base) fun f fd F => ok_hts F T
  have neH := D.neH.cal (P := P) (w := w) (base := base) fun f fd F => ok_needHt F D.bn neB
  have isw := D.isw.cal (P := P) (w := w) (base := base) fun f fd F => ok_isWay F T D.bn D.al bet hts
  have neW := D.neW.cal (P := P) (w := w) (base := base) fun f fd F => ok_needWay F neH isw
  have btw := D.btw.cal (P := P) (w := w) (base := base) fun f fd F => ok_betw F T D.rv
  have alw := D.alw.cal (P := P) (w := w) (base := base) fun f fd F => ok_allW F D.bn neH neB btw
  have hto := D.hto.cal (P := P) (w := w) (base := base) fun f fd F => ok_htsOf F neW hts
  have wby := D.wby.cal (P := P) (w := w) (base := base) fun f fd F => ok_worthBy F T D.z D.og D.zp D.mx hts hae tim
  have wwo := D.wwo.calX (P := P) (w := w) (base := base) fun f fd F => ok_wayWorth F eM neL neW wby
  have mix := D.mix.cal (P := P) (w := w) (base := base) fun f fd F => ok_mixed F T
  have beg := D.beg.cal (P := P) (w := w) (base := base) fun f fd F => ok_begin F T
  have drw := D.drw.cal (P := P) (w := w) (base := base) fun f fd F => ok_draw F T mix
  have lra := D.lra.cal (P := P) (w := w) (base := base) fun f fd F => ok_lratio F T
  have lti := D.lti.cal (P := P) (w := w) (base := base) fun f fd F => ok_ltimes F lra
  have dwn := D.dwn.cal (P := P) (w := w) (base := base) fun f fd F => ok_drawn F T drw lra
  have led := D.led.cal (P := P) (w := w) (base := base) fun f fd F => ok_lend F
  have lwa := D.lwa.cal (P := P) (w := w) (base := base) fun f fd F => ok_lways F T
  have lht := D.lht.cal (P := P) (w := w) (base := base) fun f fd F => ok_lhts F T
  have lww := D.lww.cal (P := P) (w := w) (base := base) fun f fd F => ok_lworth F T D.zp D.mx lht led lti
  have lhe := D.lhe.cal (P := P) (w := w) (base := base) fun f fd F => ok_lheard F D.eM wwo
  have rig := D.rig.calG (P := P) (w := w) (base := base) fun f fd F => ok_right F T lwa alw hto lht lhe lww
  exact ok_law F T beg drw dwn rig alw hto wwo lhe
theorem walkG {l : PySem.W.OpenLaw} {q : Program} {loose : List Str} {XP : (Str → Option Value) → Heap → Prop} {YP : World → Heap → Prop} {d : DefRec} {KK : Params → PySem.W.Frag} (hn : l.most = some 63) (hd : d.params.defaults = [])
    (hY : ∀ (w : World) (h : Heap), YP w h → (KK w.params).In h)
    (F : ∀ (w : World) (mg : Str → Option Value) (fa : Addr) (h : Heap), (KK w.params).In h → h.Ns mainGlobals mg → mg d.name = some (.ref fa) → ∃ (CM : Addr), Top0 (KK w.params) mg CM ∧ mg "law" = some (.ref fa)) :
    PySem.W.WalkO q loose XP YP l.row.toRowW d [] (fun f vs => PySem.call f vs) := by
  refine Att.attach_callB hn hd fun w s9 s0 mg mb fa o pm cd doc a vs ns GG Y h1 h2 h3 hm hs hi hl hb hg => ?_
  have inK := hY w _ Y
  obtain ⟨CM, D, m⟩ := F w mg fa _ inK GG.T.g hm
  obtain ⟨fd, bnd, pr⟩ := law_prom (P := l.prog) (w := w) D m
  refine callG (cs := []) inK GG.T.g GG.T.b GG.T.builtins GG.T.nolimit hg (fun r hr => by cases hr) (fun r hr => by cases hr) (fun r hr => by cases hr) GG.T.bmain hs hi (Nat.le_trans hl (by decide)) ⟨rfl, by decide, by decide⟩ (fun base _ _ _ => pr base) bnd fun H ht hq => ?_
  exact ⟨a, ns, rfl, hq, hl, fun _ => rfl⟩
end
end Rs


set_option Elab.async false
set_option linter.all false
set_option maxRecDepth 100000
set_option maxHeartbeats 1000000
namespace Rs
open PySem PySem.Spec PyProof.Rows L2 Bs LamX
section
variable {K : PySem.W.Frag} {h : Heap} {mg : Str → Option Value}
theorem nou_mk {a : Addr} {t1 t2 : Tok} {n : Nat} {sl : Array (Option Value)} (X : K.In h) (G : h.Ns mainGlobals mg) (e : PySem.W.nsIn K mainGlobals "NOUGHT" = some (some (.ref a)))
    (l : K.lookup a = some ⟨.type "tuple", none, .seq #[.int 0 t1, .int 1 t2] n, sl⟩) : Nou K mg :=
  ⟨a, PySem.W.mg_of X G e, fun H => .inr ⟨_, _, _, l, rfl, rfl, (by show 2 ≤ sizeLine; decide), .cons ⟨_, rfl⟩ (.cons ⟨_, rfl⟩ .nil)⟩⟩
theorem blt_mk (X : K.In h) (G : h.Ns mainGlobals mg) (h1 : PySem.W.nsIn K mainGlobals "isinstance" = some none) (h2 : PySem.W.nsIn K mainGlobals "len" = some none) (h3 : PySem.W.nsIn K mainGlobals "int" = some none)
    (h4 : PySem.W.nsIn K mainGlobals "bool" = some none) (h5 : PySem.W.nsIn K mainGlobals "tuple" = some none) (h6 : PySem.W.nsIn K mainGlobals "range" = some none) (h7 : PySem.W.nsIn K mainGlobals "list" = some none)
    (h8 : PySem.W.nsIn K mainGlobals "abs" = some none) (h9 : PySem.W.nsIn K mainGlobals "min" = some none) (h10 : PySem.W.nsIn K mainGlobals "repr" = some none) (h11 : PySem.W.nsIn K mainGlobals "gcd" = some (some (.builtin "math.gcd"))) : Blt mg :=
  ⟨PySem.W.mg_none_of X G h1, PySem.W.mg_none_of X G h2, PySem.W.mg_none_of X G h3, PySem.W.mg_none_of X G h4, PySem.W.mg_none_of X G h5, PySem.W.mg_none_of X G h6, PySem.W.mg_none_of X G h7, PySem.W.mg_none_of X G h8, PySem.W.mg_none_of X G h9, PySem.W.mg_none_of X G h10, PySem.W.mg_of X G h11⟩
/-- a class of errors with its __init__ -/
structure ErrTxtK (K : PySem.W.Frag) (x qual fld : Str) (st : Stmt) (C : Addr) : Prop where
  a : PySem.W.nsIn K mainGlobals x = some (some (.ref C))
  oex : OexK K C
  xf : XfC K C
  no : PySem.W.findIn K (.ref C) fld = some none
  ini : ∃ (fI : Addr) (fd : FuncData), PySem.W.findIn K (.ref C) "__init__" = some (some (.ref fI)) ∧ PySem.W.typeIn K (.ref fI) = some (.type "function") ∧ Fun K "__init__" qual st fI fd ∧ Binds K fd ["self", fld] []
theorem err_mkK {x qual fld : Str} {st : Stmt} {C fI N : Addr} {nm q : Str} {bs : List Value} {sn : List Str} {sub : List Value} {ab : Bool} {col : Option Bool} {dd : Option Addr} {k0 k1 k2 k3 k5 : Option Value}
    {oc kV doc pm cdv ct : Value} {od an : Option Addr} {sl : Array (Option Value)}
    (a : PySem.W.nsIn K mainGlobals x = some (some (.ref C))) (c : K.lookup C = some (excClassObj nm q C N bs OxF.keT true sn sub ab col dd k0 k1 k2 k3 k5 OxF.keN))
    (sa : PySem.W.findIn K (.ref C) "__setattr__" = some (some (.builtin "object.__setattr__"))) (ga : PySem.W.findIn K (.ref C) "__getattribute__" = some (some (.builtin "BaseException.__getattribute__")))
    (gg : PySem.W.findIn K (.ref C) "__getattr__" = some none) (no : PySem.W.findIn K (.ref C) fld = some none) (ex : PySem.W.subIn K (.ref C) (.type "BaseException") = some true) (ty : PySem.W.typeIn K (.ref C) = some (.type "type"))
    (kC : PySem.W.keepIn K (.ref C) = true) (hd : PySem.W.hasDictIn K C = true) (i : PySem.W.findIn K (.ref C) "__init__" = some (some (.ref fI))) (t : PySem.W.typeIn K (.ref fI) = some (.type "function"))
    (l : K.lookup fI = some ⟨oc, od, .func (PySem.W.fnOf "__init__" qual (defArgs st) (defBody st) (defScope st) .none kV doc pm an cdv ct), sl⟩) (hc : PySem.W.codeIn K cdv qual = true) (k : PySem.W.keepIn K (.ref fI) = true)
    (b : ∀ (kV doc pm : Value) (an : Option Addr) (cdv ct : Value) (us : List Value), us.length = (["self", fld] : List Str).length → bindArgs (PySem.W.fnOf "__init__" qual (defArgs st) (defBody st) (defScope st) .none kV doc pm an cdv ct) ⟨us, []⟩ = pure ((["self", fld] : List Str).zip us)) :
    ErrTxtK K x qual fld st C :=
  ⟨a, ⟨⟨nm, q, N, bs, sn, sub, ab, col, dd, k0, k1, k2, k3, k5, c⟩, sa, ex, ty, kC⟩, ⟨ga, gg, ex, hd⟩, no, fI, _, i, t, fun_mk l hc k, (fun_mk l hc k).binds b⟩
theorem ErrTxtK.errK {x qual fld : Str} {st : Stmt} {C : Addr} (E : ErrTxtK K x qual fld st C) (e : PySem.W.exmOne K (.ref C) (.ref C) = some true) (X : K.In h) (G : h.Ns mainGlobals mg) : ErrK K mg x qual fld st C := ⟨PySem.W.mg_of X G E.a, E.oex, E.xf, E.no, e, E.ini⟩
theorem one_mk {a : Addr} {t1 t2 : Tok} {n : Nat} {sl : Array (Option Value)} (X : K.In h) (G : h.Ns mainGlobals mg) (e : PySem.W.nsIn K mainGlobals "ONE" = some (some (.ref a)))
    (l : K.lookup a = some ⟨.type "tuple", none, .seq #[.int 1 t1, .int 1 t2] n, sl⟩) : OneG K mg :=
  ⟨a, PySem.W.mg_of X G e, fun H => .inr ⟨_, _, _, l, rfl, rfl, (by show 2 ≤ sizeLine; decide), .cons ⟨_, rfl⟩ (.cons ⟨_, rfl⟩ .nil)⟩⟩
theorem mosts_mk {t1 t2 : Tok} (X : K.In h) (G : h.Ns mainGlobals mg) (e1 : PySem.W.nsIn K mainGlobals "MOST_OPEN" = some (some (.int 4 t1))) (e2 : PySem.W.nsIn K mainGlobals "MOST_ENDED" = some (some (.int 5 t2))) : Mosts mg := ⟨⟨t1, PySem.W.mg_of X G e1⟩, ⟨t2, PySem.W.mg_of X G e2⟩⟩
theorem bnds_mk {t1 t2 : Tok} (X : K.In h) (G : h.Ns mainGlobals mg) (e1 : PySem.W.nsIn K mainGlobals "MOST_STEPS" = some (some (.int 8 t1))) (e2 : PySem.W.nsIn K mainGlobals "HIGHEST" = some (some (.int 4 t2))) : Bnds mg := ⟨⟨t1, PySem.W.mg_of X G e1⟩, ⟨t2, PySem.W.mg_of X G e2⟩⟩
end
/-- all of it -/
theorem all_mk {K : PySem.W.Frag} {h : Heap} {mg : Str → Option Value} {fa : Addr} {CM : Addr}
    (X : K.In h) (G : h.Ns mainGlobals mg) (hfa : mg "law" = some (.ref fa))
    (red : DefN K mg "reduced" sReduced ["top", "bottom"])
    (tim : DefN K mg "timed" sTimed ["one", "other"])
    (who : DefN K mg "is_whole" sWhole ["thing"])
    (bet : DefN K mg "is_between" sBetween ["thing", "low", "high"])
    (fra : DefN K mg "is_fraction" sFraction ["thing"])
    (pos : DefN K mg "is_positive" sPosi ["thing"])
    (arf : DefN K mg "are_fractions" sAreF ["thing", "most"])
    (neB : DefN K mg "need_between" sNeedB ["thing", "low", "high"])
    (abv : DefN K mg "are_above" sAbove ["some"])
    (isl : DefN K mg "is_ladder" sIsLad ["thing"])
    (neL : DefN K mg "need_ladder" sNeedLad ["thing"])
    (hae : DefN K mg "has_end" sHasEnd ["ladder"])
    (hts : DefN K mg "heights_by" sHts ["start", "way"])
    (neH : DefN K mg "need_height" sNeedHt ["thing"])
    (isw : DefN K mg "is_way" sIsWay ["start", "thing"])
    (neW : DefN K mg "need_way" sNeedWay ["start", "way"])
    (btw : DefN K mg "ways_between" sBetw ["start", "stop", "many"])
    (alw : DefN K mg "all_ways" sAllW ["start", "stop", "many"])
    (hto : DefN K mg "heights_of" sHtsOf ["start", "way"])
    (wby : DefN K mg "worth_by" sWorthBy ["ladder", "start", "way"])
    (wwo : DefN K mg "way_worth" sWayWorth ["ladder", "start", "way"])
    (mix : DefN K mg "_law_mixed" sMixed ["cell", "k"])
    (beg : DefN K mg "_law_begin" sBegin ["script"])
    (drw : DefN K mg "_law_draw" sDraw ["state", "many"])
    (lra : DefN K mg "_law_ratio" sLRatio ["top", "bottom"])
    (lti : DefN K mg "_law_times" sLTimes ["one", "other"])
    (dwn : DefN K mg "_law_drawn_ladder" sDrawn ["state"])
    (led : DefN K mg "_law_ended" sLEnded ["ladder_so"])
    (lwa : DefN K mg "_law_ways" sLWays ["start", "stop", "many"])
    (lht : DefN K mg "_law_heights" sLHts ["start", "way"])
    (lww : DefN K mg "_law_way_worth" sLWorth ["ladder_so", "start", "way"])
    (lhe : DefN K mg "_law_heard" sHeard' ["ladder_so", "start", "way"])
    (rig : DefN K mg "_law_right" sRight ["ladder_so", "start", "stop", "many"])
    (law : DefN K mg "law" sLaw ["script"])
    (eM : ErrTxtK K "Missing" "Missing.__init__" "given" sIMi CM)
    (xM : PySem.W.exmOne K (.ref CM) (.ref CM) = some true)
    (z : Nou K mg) (t : Blt mg) (og : OneG K mg) (ms : Mosts mg) (bn : Bnds mg) (zp : mg "zip" = none) (al : mg "all" = none) (mx : mg "max" = none) (rv : mg "reversed" = none) :
    ∃ (CM : Addr), Top0 K mg CM ∧ mg "law" = some (.ref fa) :=
  ⟨CM, ⟨red, tim, who, bet, fra, pos, arf, neB, abv, isl, neL, hae, hts, neH, isw, neW, btw, alw, hto, wby, wwo, mix, beg, drw, lra, lti, dwn, led, lwa, lht, lww, lhe, rig, law, eM.errK xM X G, z, t, og, ms, bn, zp, al, mx, rv⟩, hfa⟩
end Rs


set_option Elab.async false
set_option linter.all false
open PySem PySem.W PyProof.Rows
set_option maxRecDepth 100000 in
set_option maxHeartbeats 0 in
theorem PySem.Challenge.cw_rungshare_k22_whole_ways_holds : PySem.Challenge.rw_rungshare_k22_whole_ways.Holds := by
  w_on; o_law; k_head; (case hw => w_witness2)
  k_fill
  refine Rs.walkG (l := PySem.Challenge.rw_rungshare_k22_whole_ways) rfl rfl (fun w h Y => PySem.W.kIn_of Y) ?F
  case F =>
    intro w mg fa h KX G hmg'
    refine' Rs.all_mk KX G hmg' ?red ?tim ?who ?bet ?fra ?pos ?arf ?neB ?abv ?isl ?neL ?hae ?hts ?neH ?isw ?neW ?btw ?alw ?hto ?wby ?wwo ?mix ?beg ?drw ?lra ?lti ?dwn ?led ?lwa ?lht ?lww ?lhe ?rig ?law ?eM ?gxM ?gz ?gt ?gog ?gms ?gbn ?gzp ?gal ?gmx ?grv
    (case red => refine' Rs.defN_mk KX G ?a ?l ?c ?k (fun _ _ _ _ _ _ us hl => match us, hl with | [_, _], _ => rfl); (case a => k_is); (case l => k_is); (case c => k_is); (case k => k_is))
    (case tim => refine' Rs.defN_mk KX G ?a ?l ?c ?k (fun _ _ _ _ _ _ us hl => match us, hl with | [_, _], _ => rfl); (case a => k_is); (case l => k_is); (case c => k_is); (case k => k_is))
    (case who => refine' Rs.defN_mk KX G ?a ?l ?c ?k (fun _ _ _ _ _ _ us hl => match us, hl with | [_], _ => rfl); (case a => k_is); (case l => k_is); (case c => k_is); (case k => k_is))
    (case bet => refine' Rs.defN_mk KX G ?a ?l ?c ?k (fun _ _ _ _ _ _ us hl => match us, hl with | [_, _, _], _ => rfl); (case a => k_is); (case l => k_is); (case c => k_is); (case k => k_is))
    (case fra => refine' Rs.defN_mk KX G ?a ?l ?c ?k (fun _ _ _ _ _ _ us hl => match us, hl with | [_], _ => rfl); (case a => k_is); (case l => k_is); (case c => k_is); (case k => k_is))
    (case pos => refine' Rs.defN_mk KX G ?a ?l ?c ?k (fun _ _ _ _ _ _ us hl => match us, hl with | [_], _ => rfl); (case a => k_is); (case l => k_is); (case c => k_is); (case k => k_is))
    (case arf => refine' Rs.defN_mk KX G ?a ?l ?c ?k (fun _ _ _ _ _ _ us hl => match us, hl with | [_, _], _ => rfl); (case a => k_is); (case l => k_is); (case c => k_is); (case k => k_is))
    (case neB => refine' Rs.defN_mk KX G ?a ?l ?c ?k (fun _ _ _ _ _ _ us hl => match us, hl with | [_, _, _], _ => rfl); (case a => k_is); (case l => k_is); (case c => k_is); (case k => k_is))
    (case abv => refine' Rs.defN_mk KX G ?a ?l ?c ?k (fun _ _ _ _ _ _ us hl => match us, hl with | [_], _ => rfl); (case a => k_is); (case l => k_is); (case c => k_is); (case k => k_is))
    (case isl => refine' Rs.defN_mk KX G ?a ?l ?c ?k (fun _ _ _ _ _ _ us hl => match us, hl with | [_], _ => rfl); (case a => k_is); (case l => k_is); (case c => k_is); (case k => k_is))
    (case neL => refine' Rs.defN_mk KX G ?a ?l ?c ?k (fun _ _ _ _ _ _ us hl => match us, hl with | [_], _ => rfl); (case a => k_is); (case l => k_is); (case c => k_is); (case k => k_is))
    (case hae => refine' Rs.defN_mk KX G ?a ?l ?c ?k (fun _ _ _ _ _ _ us hl => match us, hl with | [_], _ => rfl); (case a => k_is); (case l => k_is); (case c => k_is); (case k => k_is))
    (case hts => refine' Rs.defN_mk KX G ?a ?l ?c ?k (fun _ _ _ _ _ _ us hl => match us, hl with | [_, _], _ => rfl); (case a => k_is); (case l => k_is); (case c => k_is); (case k => k_is))
    (case neH => refine' Rs.defN_mk KX G ?a ?l ?c ?k (fun _ _ _ _ _ _ us hl => match us, hl with | [_], _ => rfl); (case a => k_is); (case l => k_is); (case c => k_is); (case k => k_is))
    (case isw => refine' Rs.defN_mk KX G ?a ?l ?c ?k (fun _ _ _ _ _ _ us hl => match us, hl with | [_, _], _ => rfl); (case a => k_is); (case l => k_is); (case c => k_is); (case k => k_is))
    (case neW => refine' Rs.defN_mk KX G ?a ?l ?c ?k (fun _ _ _ _ _ _ us hl => match us, hl with | [_, _], _ => rfl); (case a => k_is); (case l => k_is); (case c => k_is); (case k => k_is))
    (case btw => refine' Rs.defN_mk KX G ?a ?l ?c ?k (fun _ _ _ _ _ _ us hl => match us, hl with | [_, _, _], _ => rfl); (case a => k_is); (case l => k_is); (case c => k_is); (case k => k_is))
    (case alw => refine' Rs.defN_mk KX G ?a ?l ?c ?k (fun _ _ _ _ _ _ us hl => match us, hl with | [_, _, _], _ => rfl); (case a => k_is); (case l => k_is); (case c => k_is); (case k => k_is))
    (case hto => refine' Rs.defN_mk KX G ?a ?l ?c ?k (fun _ _ _ _ _ _ us hl => match us, hl with | [_, _], _ => rfl); (case a => k_is); (case l => k_is); (case c => k_is); (case k => k_is))
    (case wby => refine' Rs.defN_mk KX G ?a ?l ?c ?k (fun _ _ _ _ _ _ us hl => match us, hl with | [_, _, _], _ => rfl); (case a => k_is); (case l => k_is); (case c => k_is); (case k => k_is))
    (case wwo => refine' Rs.defN_mk KX G ?a ?l ?c ?k (fun _ _ _ _ _ _ us hl => match us, hl with | [_, _, _], _ => rfl); (case a => k_is); (case l => k_is); (case c => k_is); (case k => k_is))
    (case mix => refine' Rs.defN_mk KX G ?a ?l ?c ?k (fun _ _ _ _ _ _ us hl => match us, hl with | [_, _], _ => rfl); (case a => k_is); (case l => k_is); (case c => k_is); (case k => k_is))
    (case beg => refine' Rs.defN_mk KX G ?a ?l ?c ?k (fun _ _ _ _ _ _ us hl => match us, hl with | [_], _ => rfl); (case a => k_is); (case l => k_is); (case c => k_is); (case k => k_is))
    (case drw => refine' Rs.defN_mk KX G ?a ?l ?c ?k (fun _ _ _ _ _ _ us hl => match us, hl with | [_, _], _ => rfl); (case a => k_is); (case l => k_is); (case c => k_is); (case k => k_is))
    (case lra => refine' Rs.defN_mk KX G ?a ?l ?c ?k (fun _ _ _ _ _ _ us hl => match us, hl with | [_, _], _ => rfl); (case a => k_is); (case l => k_is); (case c => k_is); (case k => k_is))
    (case lti => refine' Rs.defN_mk KX G ?a ?l ?c ?k (fun _ _ _ _ _ _ us hl => match us, hl with | [_, _], _ => rfl); (case a => k_is); (case l => k_is); (case c => k_is); (case k => k_is))
    (case dwn => refine' Rs.defN_mk KX G ?a ?l ?c ?k (fun _ _ _ _ _ _ us hl => match us, hl with | [_], _ => rfl); (case a => k_is); (case l => k_is); (case c => k_is); (case k => k_is))
    (case led => refine' Rs.defN_mk KX G ?a ?l ?c ?k (fun _ _ _ _ _ _ us hl => match us, hl with | [_], _ => rfl); (case a => k_is); (case l => k_is); (case c => k_is); (case k => k_is))
    (case lwa => refine' Rs.defN_mk KX G ?a ?l ?c ?k (fun _ _ _ _ _ _ us hl => match us, hl with | [_, _, _], _ => rfl); (case a => k_is); (case l => k_is); (case c => k_is); (case k => k_is))
    (case lht => refine' Rs.defN_mk KX G ?a ?l ?c ?k (fun _ _ _ _ _ _ us hl => match us, hl with | [_, _], _ => rfl); (case a => k_is); (case l => k_is); (case c => k_is); (case k => k_is))
    (case lww => refine' Rs.defN_mk KX G ?a ?l ?c ?k (fun _ _ _ _ _ _ us hl => match us, hl with | [_, _, _], _ => rfl); (case a => k_is); (case l => k_is); (case c => k_is); (case k => k_is))
    (case lhe => refine' Rs.defN_mk KX G ?a ?l ?c ?k (fun _ _ _ _ _ _ us hl => match us, hl with | [_, _, _], _ => rfl); (case a => k_is); (case l => k_is); (case c => k_is); (case k => k_is))
    (case rig => refine' Rs.defN_mk KX G ?a ?l ?c ?k (fun _ _ _ _ _ _ us hl => match us, hl with | [_, _, _, _], _ => rfl); (case a => k_is); (case l => k_is); (case c => k_is); (case k => k_is))
    (case law => refine' Rs.defN_mk KX G ?a ?l ?c ?k (fun _ _ _ _ _ _ us hl => match us, hl with | [_], _ => rfl); (case a => k_is); (case l => k_is); (case c => k_is); (case k => k_is))
    (case eM => refine' Rs.err_mkK ?aeM ?ceM ?saeM ?gaeM ?ggeM ?noeM ?exeM ?tyeM ?kCeM ?hdeM ?ieM ?teM ?leM ?hceM ?keM (fun _ _ _ _ _ _ us hl => match us, hl with | [_, _], _ => rfl); (case aeM => k_is); (case ceM => k_is); (case saeM => k_is); (case gaeM => k_is); (case ggeM => k_is); (case noeM => k_is); (case exeM => k_is); (case tyeM => k_is); (case kCeM => k_is); (case hdeM => k_is); (case ieM => k_is); (case teM => k_is); (case leM => k_is); (case hceM => k_is); (case keM => k_is))
    (case gxM => first | k_is | kernel_rfl)
    (case gz => refine' Rs.nou_mk KX G ?a ?l; (case a => k_is); (case l => k_is))
    (case gt => refine' Rs.blt_mk KX G ?h1 ?h2 ?h3 ?h4 ?h5 ?h6 ?h7 ?h8 ?h9 ?h10 ?h11; (case h1 => k_is); (case h2 => k_is); (case h3 => k_is); (case h4 => k_is); (case h5 => k_is); (case h6 => k_is); (case h7 => k_is); (case h8 => k_is); (case h9 => k_is); (case h10 => k_is); (case h11 => k_is))
    (case gog => refine' Rs.one_mk KX G ?hoa ?hol; (case hoa => k_is); (case hol => k_is))
    (case gms => refine' Rs.mosts_mk KX G ?hm4 ?hm5; (case hm4 => k_is); (case hm5 => k_is))
    (case gbn => refine' Rs.bnds_mk KX G ?hms ?hmh; (case hms => k_is); (case hmh => k_is))
    (case gzp => refine' PySem.W.mg_none_of KX G ?hnzp; k_is)
    (case gal => refine' PySem.W.mg_none_of KX G ?hnal; k_is)
    (case gmx => refine' PySem.W.mg_none_of KX G ?hnmx; k_is)
    (case grv => refine' PySem.W.mg_none_of KX G ?hnrv; k_is)


