import PyProof.Rows.All
import Wide.All
import OpenK.AllK
import Wide.FinOn
import HandS.ForMost
import KE.GoesMore
import KE.GoesEnum
import PyProof.Draws
import HandS.DictComp
import HandS.ForExc
import HandS.IsInst
import HandS.Conv
import HandS.MakeKwOnly
import HandS.TupAny
import HandS.Flow
import HandS.Steps
import HandS.Defaults
import HandS.Evl
import HandS.Walk
import HandS.Zip
import HandS.Style
import HandS.ExcInit
import HandS.ExcField
import HandS.Head0
import HandS.Head1
import HandS.Head2
import HandS.HeadEnd
import HandS.HeadHook1
import HandS.HeadHook2
import HandS.HeadHook3
import HandS.HeadHook4
import HandS.ExcIs
import HandS.ExcValue
import HandS.MakeKw
import HandS.Lambda
import HandS.Nested
import HandS.Iter
import HandS.Dict
import HandS.HeadWalk
import PySem.Challenge.RW_blockshares_k57_errors_made
set_option Elab.async false
set_option linter.all false
set_option maxRecDepth 100000
set_option maxHeartbeats 2000000
/-! enumerate over a tuple, in a for or a comprehension: my own rule beside the layer's for lists -/
namespace Bk
open PySem PySem.Spec PyProof.Rows L2
theorem two_le {b n : Nat} (hb : b ∈ [n + 1, n]) : n ≤ b := by
  simp at hb
  omega
/-- a new enumerate object over the iterator at p -/
abbrev enumO (p : Addr) : Obj := { cls := .type "enumerate", data := .fields #[.none, .bool false, .ref p, rawInt 0, .none, .none] }
theorem meets_enum1 {v : Value} {o : Obj} {G : Heap → Prop} (B : Begins v o G) :
    Meets (Builtin.«enumerate.__new__» ⟨[.type "enumerate", v], []⟩) (fun _ R s => G s.heap ∧ R (.ok (.ret (.ref (s.heap.push o).objs.size))) { s with heap := (s.heap.push o).push (enumO s.heap.objs.size) }) := by
  refine .of_wp fun prog w A R s hh => ?_
  obtain ⟨hp, gs, dr, tk, os⟩ := s
  obtain ⟨hG, hR⟩ := hh
  have sb := sub_enumerate
  have it1 : ∀ {A1 : Around} {E1 Q1 : Value → Shared → Prop}, Q1 (.ref hp.objs.size) ⟨hp.push o, gs, dr, tk, os⟩ → wpAny (model prog w) A1 (pyIter v) Q1 E1 ⟨hp, gs, dr, tk, os⟩ := fun z => B.iter prog w _ _ ⟨hp, gs, dr, tk, os⟩ _ hG z
  wp_walk using it1
  refine wpAny_stack_any fun st => wpAny_pure ?_
  split
  · rename_i c _ _ _ _ _
    cases (c == Value.type "enumerate") <;> (wp_walk using it1; exact ⟨_, rfl, hR⟩)
  · wp_walk using it1
    exact ⟨_, rfl, hR⟩
theorem call_enum1 {prog : Program} {w : World} {A : Around} {E : Value → Shared → Prop} {s : Shared} {v : Value} {o : Obj} {G : Heap → Prop} {Q : Value → Shared → Prop} (B : Begins v o G) (hG : G s.heap)
    (h : Q (.ref (s.heap.objs.size + 1)) { s with heap := (s.heap.push o).push (enumO s.heap.objs.size) }) : wpAny (model prog w) A (call (.type "enumerate") [v]) Q E s := by
  refine callType_new F.called_enumerate (by decide) (F.typeCall_enumerate_1 _) (F.newCall_enumerate_1 _) (fun obj => F.args_object_init_2 obj _) F.entry_enumerate_new (meets_enum1 B) ⟨hG, ?_⟩
  have hz : (s.heap.push o).objs.size = s.heap.objs.size + 1 := Heap.size_push ..
  show _ ∧ _
  rw [hz]
  exact ⟨⟨_, by rw [← hz]; exact Heap.get?_push_size _ rfl, rfl⟩, h⟩
/-- the tuple at a as it stands at each turn, each item in a new pair -/
def IteT (K : PySem.W.Frag) (a : Addr) : It :=
  ⟨fun i H => ∃ (xs : List V) (x : V), SqT K H a xs ∧ xs[i]? = some x,
    fun i H v H' => ∃ T x, v = .ref T ∧ H T = none ∧ H' = upd H T (.tup [.int (i : Nat), x]) ∧ ∀ xs, SqT K H a xs → xs[i]? = some x,
    fun i H => ∃ xs : List V, SqT K H a xs ∧ xs.length = i⟩
theorem tup_iter_ne {h : Heap} {a it : Addr} {its : Array Value} {i : Nat} (t : h.IsTuple a its) (u : h.IsTupleIter it a i) : a ≠ it := by
  rintro rfl
  obtain ⟨o, e, c, _⟩ := t
  obtain ⟨o', e', c', _⟩ := u
  rw [e] at e'
  cases e'
  rw [c] at c'
  exact absurd c' (by decide)
theorem turn_enumT {P : Program} {w : World} {K : PySem.W.Frag} {elts : List Expr} {kk : Nat} {tpos : Pos} (a e it : Addr) :
    Turn P w K (.Tuple elts kk tpos) (IteT K a) [e, it] e (fun i h => (∃ old, IsEnum h e it ((i : Nat) : Int) old) ∧ h.IsTupleIter it a i ∧ e ≠ it) where
  mem := List.mem_cons_self
  obj := fun i h st b hb => by
    obtain ⟨⟨old, he⟩, ⟨o, ho, hc, hd⟩, _⟩ := st
    rcases List.mem_cons.mp hb with rfl | hb
    · exact ⟨_, he, fun v q => nomatch q⟩
    · obtain rfl := List.mem_singleton.mp hb
      exact ⟨o, ho, fun v q => by rw [hd] at q; cases q⟩
  keep := fun i h h' st k => ⟨st.1.imp fun old he => k e List.mem_cons_self _ he, st.2.1.at fun o q => k it (List.mem_cons_of_mem _ List.mem_cons_self) o q, st.2.2⟩
  item := by
    rintro X rfl rfl rfl hc i pins s σ H E I hf ⟨⟨old, he⟩, hit, hne⟩ ⟨xs, x, hq, hx⟩
    obtain ⟨its, rv, p, hz⟩ := I.tuple hq
    have p' : s.heap.IsTuple a its.toArray := p
    have hai := tup_iter_ne p' hit
    have hl : i < its.toArray.size := by
      have l1 := rv.length
      have l2 := (List.getElem?_eq_some_iff.mp hx).1
      simp only [List.size_toArray]
      omega
    have hea : e ≠ a := by
      rintro rfl
      obtain ⟨o, e1, c, _⟩ := p'
      rw [show s.heap.get? e = _ from he] at e1
      obtain rfl := Option.some.inj e1
      exact absurd c (show ¬ Value.type "enumerate" = Value.type "tuple" by decide)
    have D := Draws.tuple (prog := X.prog) (w := X.w) (A := X.A.in1) (I.ok.hd hc) it a hai its.toArray
    refine wpAny_pyNext_enum_itemD D he ⟨hit, p'⟩ hl hne (by simp [hne, hea]) fun u h' tk hu ho st' hT hsz hk => ?_
    have ru : RelV x u := by
      obtain ⟨u', hu', ru⟩ := rv.get hx
      have : its[i]? = some u := by simpa using hu
      rw [hu'] at this
      cases this
      exact ru
    have hel : e < s.heap.objs.size := Heap.lt_size he
    have hil : it < s.heap.objs.size := by
      obtain ⟨_, q, _⟩ := hit
      exact Heap.lt_size q
    refine ⟨_, rfl, wpAny_letOwnedTupleGo_enum (s := { s with heap := h', toks := tk + 1 }) ho fun h2 he2 sb => ?_⟩
    have hT2 : h2.get? s.heap.objs.size = some { cls := .type "tuple", data := .seq #[.int i tk, u] } := (sb.2 _ (Nat.ne_of_gt hel)).trans hT
    have new : ObjOk X.prog X.w (upd H s.heap.objs.size (.tup [.int (i : Nat), x])) h2 s.heap.objs.size (.tup [.int (i : Nat), x]) :=
      ⟨by show 2 ≤ sizeLine; decide, [.int i tk, u], .cons ⟨_, rfl⟩ (.cons ru .nil), ⟨_, hT2, rfl, _, rfl⟩⟩
    have I1 := I.turnedNew (t' := tk + 1) (ch := [e, it]) (fun b ob hb q => (sb.2 b (fun z => hb (by simp [z]))).trans (hk b ob (fun z => hb (by simp [z])) (fun z => hb (by simp [z])) q)) hf (Nat.le_refl _) new
    refine ⟨.ref s.heap.objs.size, _, I1, rfl, ⟨_, x, rfl, I.hok.fresh (Nat.le_refl _), rfl, fun ys hy => by rw [I.tuple_inj hy hq]; exact hx⟩, ⟨⟨u, ?_⟩, st'.1.at fun o q => (sb.2 it (Ne.symm hne)).trans q, hne⟩, fun b hb => ?_⟩
    · rw [show ((i + 1 : Nat) : Int) = (i : Int) + 1 by omega]
      exact he2
    · have hlt : b < s.heap.objs.size := by
        rcases List.mem_cons.mp hb with rfl | hb
        · exact hel
        · rw [List.mem_singleton.mp hb]
          exact hil
      rw [upd_ne (Nat.ne_of_lt hlt)]
      exact (hf b hb).1
  done := by
    rintro X rfl rfl rfl hc i pins s σ H E I hf ⟨⟨old, he⟩, hit, hne⟩ ⟨xs, hq, hx⟩
    obtain ⟨its, rv, p, hz⟩ := I.tuple hq
    have p' : s.heap.IsTuple a its.toArray := p
    obtain ⟨f0, f1, f2, f3, f4, f5⟩ := hf it (List.mem_cons_of_mem _ List.mem_cons_self)
    have l1 := rv.length
    have en : i = its.toArray.size := by
      simp only [List.size_toArray]
      omega
    have hit' : s.heap.IsTupleIter it a its.toArray.size := en ▸ hit
    have D := Draws.tuple (prog := X.prog) (w := X.w) (A := X.A.in1) (I.ok.hd hc) it a (tup_iter_ne p' hit) its.toArray
    exact wpAny_pyNext_enum_endD D he ⟨hit', p'⟩ fun h' eb => ⟨rfl, I.turned (t' := s.toks) (fun b o hb q => eb b o hb q) f0 f1 f3 f4 f5⟩
  self := fun A i s Q E st h => wpAny_pyIter_enum st.1.choose_spec h
/-- enumerate(xs), xs a list or a tuple -/
def iEnS (K : PySem.W.Frag) (ta : TA) : TI := fun σ H R => ta σ H fun vs H1 => ∃ a, vs = [.ref a] ∧ ((∃ xs, SqL K H1 a xs ∧ R (Ite K a) H1) ∨ (∃ xs, SqT K H1 a xs ∧ R (IteT K a) H1))
theorem pi_enS {X : Cx} {e : Expr} {ta : TA} {p pos tpos : Pos} {elts : List Expr} {kk : Nat} (hg : Gl X "enumerate") (hm : X.mg "enumerate" = none) (ha : PA X [e] ta) (hs : starEach [e] X.env = [(false, eval e X.env)] := by rfl) :
    PI X (.Tuple elts kk tpos) (.Call (.Name "enumerate" p) [e] [] pos) (iEnS X.K ta) := by
  refine ⟨fun pins s σ H R I h => Call_ (ld_blt I hg hm boot_enumerate (PyProof.Rows.callWith_type1 (thn (ha.run pos pins s σ H _ I h) fun us s1 ⟨vs, H1, I1, r1, a, ev, q⟩ => ?_) hs rfl))⟩
  subst ev
  obtain ⟨u, rfl, r⟩ : ∃ u, us = [u] ∧ RelV (.ref a) u := by
    cases r1 with
    | cons r rr => cases rr; exact ⟨_, rfl, r⟩
  cases (show u = Value.ref a from r)
  rcases q with ⟨xs, hq, q⟩ | ⟨xs, hq, q⟩
  · obtain ⟨its, rv, p', hz⟩ := I1.list hq
    refine call_enumerate_list p'.isList fun h' he hit hsz hk => wpAny_pyIter_enum he ?_
    have I2 : Inv X pins σ H1 { s1 with heap := h' } := I1.kept (t' := s1.toks) hk
    refine ⟨s1.heap.objs.size + 1, [s1.heap.objs.size + 1, s1.heap.objs.size], _, _, H1, rfl, I2, turn_enum a _ s1.heap.objs.size, ⟨⟨.none, he⟩, hit, Nat.succ_ne_self _⟩, fun b hb => ?_, q⟩
    have hle : s1.heap.objs.size ≤ b := two_le hb
    exact I1.fpOk hle (I1.hok.fresh hle)
  · obtain ⟨its, rv, p', hz⟩ := I1.tuple hq
    have pt : s1.heap.IsTuple a its.toArray := p'
    generalize ho : ({ cls := .type "tuple_iterator", data := .fields #[.ref a, .int 0 0] } : Obj) = oi
    have hz1 : (s1.heap.push oi).objs.size = s1.heap.objs.size + 1 := Heap.size_push ..
    have kk1 : ∀ b o, s1.heap.get? b = some o → ((s1.heap.push oi).push (enumO s1.heap.objs.size)).get? b = some o := fun b o x => Heap.get?_push_of_some _ (Heap.get?_push_of_some _ x)
    have he : IsEnum ((s1.heap.push oi).push (enumO s1.heap.objs.size)) (s1.heap.objs.size + 1) s1.heap.objs.size ((0 : Nat) : Int) .none := by
      rw [← hz1]
      exact Heap.get?_push_size _ rfl
    have hit : ((s1.heap.push oi).push (enumO s1.heap.objs.size)).IsTupleIter s1.heap.objs.size a 0 := by
      refine ⟨oi, Heap.get?_push_of_some _ (Heap.get?_push_size _ (by rw [← ho]; rfl)), ?_, ?_⟩ <;> rw [← ho] <;> rfl
    have I2 : Inv X pins σ H1 { s1 with heap := (s1.heap.push oi).push (enumO s1.heap.objs.size) } := I1.kept (t' := s1.toks) kk1
    refine call_enum1 (o := oi) (ho ▸ begins_tuple a its.toArray) pt (wpAny_pyIter_enum he ?_)
    refine ⟨s1.heap.objs.size + 1, [s1.heap.objs.size + 1, s1.heap.objs.size], _, _, H1, rfl, I2, turn_enumT a _ s1.heap.objs.size, ⟨⟨.none, he⟩, hit, Nat.succ_ne_self _⟩, fun b hb => ?_, q⟩
    have hle : s1.heap.objs.size ≤ b := two_le hb
    exact I1.fpOk hle (I1.hok.fresh hle)
end Bk

set_option maxHeartbeats 4000000
/-! a dict comprehension whose keys are tuples (of ints and texts): beside the layer's, whose keys are ints and texts -/
namespace Bk
open PySem PySem.Spec PyProof.Rows L2
/-- a comprehension's store, by a key that is a tuple -/
theorem put_tup {X : Cx} {pins : List (Addr × Obj)} {σ : L2.St} {H : Hp} {s : Shared} {E : Value → Shared → Prop} {D b : Addr} {kvs : List (List Key × V)} {k : List Key} {v : V} {u r : Value} {Q : Unit → Shared → Prop} (hu : X.A.units < cLine) (I : Inv X pins σ H s)
    (hD : H D = some (.dT kvs)) (hz : kvs.length < sizeLine) (hb : H b = some (.tup (k.map kV))) (ry : RelV (.ref b) u) (rv : RelV v r) (h : ∀ s', Inv X pins σ (upd H D (.dT (putK kvs k v))) s' → Q () s') : wpAny (model X.prog X.w) X.A (dictSet D u r) Q E s := by
  cases (show u = Value.ref b from ry)
  obtain ⟨z, hd, xs, rel, dd⟩ := dt_of I.hok hD
  have len1 : xs.length ≤ sizeLine := (Paired.length rel) ▸ z
  have len2 := length_putK kvs k v
  refine wpAny_dictSet_heap (hsz := len1) (knd := tupleKind (mixKind X.prog X.w)) hu (key_of I.hok hb) dd fun h' dd' same => h _ ?_
  obtain ⟨q, es, ep, hq, h2, h3, h4, _, h5⟩ := dd'
  refine d_write I (by rw [hD]; exact True.intro) same ⟨q, hq⟩ ⟨by omega, hd, _, (rel.put k hb rv).keeps fun c ys ec => ?_, q, es, ep, hq, h2, h3, h4, h5⟩
  rwa [upd_ne (ne_of ec hD (fun z => nomatch z))]
section
variable {X : Cx}
/-- {k: v for target in iter}, the keys tuples: D the new dict -/
def tDcT (wi : TI) (g : TG) (tk tv : TE) (vs : List Nat) : TE := fun σ H Q => wi σ H fun J H1 => ∀ D, H1 D = none → ∃ W : Nat → Nat → Hp → Prop, (∃ m, W 0 m (upd H1 D (.dT []))) ∧ ∀ i m H, W i m H →
  (J.stop i H ∧ Q (.ref D) H) ∨ (J.go i H ∧ ∃ Nx : Hp → Prop, (∀ H', Nx H' → ∃ m', m' < m ∧ W (i + 1) m' H') ∧ ∀ x H', J.yld i H x H' → g x (wipe σ vs) H' fun σ2 H2 => wipe σ2 vs = wipe σ vs ∧
    tk σ2 H2 fun y H4 => tv σ2 H4 fun z H5 => ∃ kvs k b, y = .ref b ∧ H5 b = some (.tup (k.map kV)) ∧ H5 D = some (.dT kvs) ∧ kvs.length < sizeLine ∧ Nx (upd H5 D (.dT (putK kvs k z))))
theorem pe_dcT {kx vx tg iter : Expr} {scope : Scope} {own : List (Str × Nat)} {pos : Pos} {wi : TI} {g : TG} {tk tv : TE} (hu : X.A.units < cLine) (hc : X.calm = true) (hN : X.N.Nodup) (hi : PI X tg iter wi) (ok : BlkOk X.N X.env.scope scope own)
    (hg : ∀ (s : Shared) (H : Hp) (C : Addr) (cl : List (Str × Addr)) (fp : List Addr), PG (X.blk s H scope (compEnvC scope cl C X.env) fp) tg g)
    (hk : ∀ (s : Shared) (H : Hp) (C : Addr) (cl : List (Str × Addr)) (fp : List Addr), PE (X.blk s H scope (compEnvC scope cl C X.env) fp) kx tk)
    (he : ∀ (s : Shared) (H : Hp) (C : Addr) (cl : List (Str × Addr)) (fp : List Addr), PE (X.blk s H scope (compEnvC scope cl C X.env) fp) vx tv) (hs : ∀ x, foldedSetIterable iter X.env x = pure x := by intro _; rfl) :
    PE X (.DictComp kx vx [⟨tg, iter, [], 0⟩] scope pos) (tDcT wi g tk tv (own.map (·.2))) := by
  refine ⟨fun pins s σ H Q I h => ?_⟩
  rw [arm_eval_DictComp]
  have fr : ∀ y ∈ scope.names, y.2 = .free → ∃ c, X.env.cells.lookup y.1 = some c := fun y hy e => (ok.free y hy e).elim (fun k => I.ok.has _ (.inl k)) fun k => I.ok.has _ (.inr k)
  refine wpAny_comprehension_free rfl hs (closure_ok fr) ok.kind (fun y hy e => by rw [ok.uniq y hy, e]) (thn (hi.run pins s σ H _ I h) fun xv s1 hx => thn hx fun itv s2 h2 => ?_)
  obtain ⟨it, fp, tn, J, H2, rfl, I2, T, st2, f2, q⟩ := h2
  refine wpAny_newObj_type (newEnv_comp ?_)
  -- the new dict stands at D
  obtain ⟨D, hD⟩ : ∃ D, D = s2.heap.objs.size := ⟨_, rfl⟩
  obtain ⟨W, ⟨m0, w0⟩, turn⟩ := q D (I2.hok.fresh (Nat.le_of_eq hD.symm))
  obtain ⟨s3, hs3⟩ : ∃ s3 : Shared, s3 = { s2 with heap := s2.heap.push { cls := .type "dict", data := .dict #[] } } := ⟨_, rfl⟩
  have hh3 : s3.heap = s2.heap.push { cls := .type "dict", data := .dict #[] } := by rw [hs3]
  have k3 : ∀ b o, s2.heap.get? b = some o → s3.heap.get? b = some o := fun b o e => by rw [hh3]; exact Heap.get?_push_of_some _ e
  have I3 : Inv X pins σ (upd H2 D (.dT [])) s3 := by
    subst hs3 hD
    exact I2.laid (t' := s2.toks) (fun b o e => Heap.get?_push_of_some _ e) (Nat.le_refl _) (dt_empty s2.heap I2.big)
  have young : ∀ b ∈ fp, b < s2.heap.objs.size := fun b hb => (T.obj _ _ st2 b hb).elim fun o e => Heap.lt_size e.1
  have f3 : ∀ b ∈ fp, FpOk X pins (upd H2 D (.dT [])) b ∧ b < s3.heap.objs.size := fun b hb => by
    refine ⟨⟨?_, (f2 b hb).2⟩, by rw [hh3, Heap.size_push]; exact Nat.lt_succ_of_lt (young b hb)⟩
    rw [upd_ne (by rw [hD]; exact Nat.ne_of_lt (young b hb))]
    exact (f2 b hb).1
  have st3 : tn 0 s3.heap := T.keep _ _ _ st2 fun b _ => k3 b
  rw [← hs3]
  obtain ⟨H3, hH3⟩ : ∃ H3, H3 = upd H2 D (.dT []) := ⟨_, rfl⟩
  rw [← hH3] at I3 f3 w0
  have I4 := block_start I3 ok hN f3
  let cl := cellsFrom (s3.heap.objs.size + 1) scope.names (cloFrom X.env.cells scope.names [])
  have pg := hg s3 H3 s3.heap.objs.size cl fp
  have pk := hk s3 H3 s3.heap.objs.size cl fp
  have pe := he s3 H3 s3.heap.objs.size cl fp
  show codeAny _ _ (.compStart (.DictComp kx vx [⟨tg, iter, [], 0⟩] scope pos) 0 (.ref it) (.ref s2.heap.objs.size) (compEnvC scope cl s3.heap.objs.size X.env)) (compPost (model X.prog X.w) X.A X.xe none _ (.ref s2.heap.objs.size) s3.heap.objs.size) { s3 with heap := pushCells (s3.heap.push { cls := .type "dict", data := .dict #[] }) scope.names }
  rw [← hD]
  obtain ⟨ce, hce⟩ : ∃ ce, ce = compEnvC scope cl s3.heap.objs.size X.env := ⟨_, rfl⟩
  have cL : ce.locals = s3.heap.objs.size := by rw [hce]; rfl
  have I4' : Inv (X.blk s3 H3 scope ce fp) [] (wipe σ (own.map (·.2))) H3 { s3 with heap := pushCells (s3.heap.push { cls := .type "dict", data := .dict #[] }) scope.names } := by rw [hce]; exact I4
  rw [← hce] at pg pk pe ⊢
  clear I4
  obtain ⟨s4, hs4⟩ : ∃ s4 : Shared, s4 = { s3 with heap := pushCells (s3.heap.push { cls := .type "dict", data := .dict #[] }) scope.names } := ⟨_, rfl⟩
  rw [← hs4] at I4' ⊢
  have st4 : tn 0 s4.heap := T.keep _ _ _ st3 fun b _ o e => by rw [hs4]; exact pushCells_keeps _ _ _ _ (Heap.get?_push_of_some _ e)
  have stat : ∀ {σ' : L2.St} {H' : Hp} {s' : Shared}, Inv (X.blk s3 H3 scope ce fp) [] σ' H' s' → (∀ b ∈ fp, H' b = none) → ∀ b ∈ fp, FpOk (X.blk s3 H3 scope ce fp) [] H' b := fun I' hn b hb =>
    ⟨hn b hb, (I'.ok.exf b hb).1, I'.ok.exfs b hb, .inl hb, fun x c e => (I'.ok.exf b hb).2 x c e, fun p hp => by simp at hp⟩
  suffices loop : codeAny (model X.prog X.w) X.A (.compLoop (.DictComp kx vx [⟨tg, iter, [], 0⟩] scope pos) 0 (.ref it) (.ref D) ce) (compPost (model X.prog X.w) X.A X.xe none (EP X pins σ Q) (.ref D) s3.heap.objs.size) s4 from
    codeAny_compStart_dict loop (T.self X.A 0 _ _ _ st4 loop)
  refine compLoop_anyD (fun n s' => ∃ i H', Inv (X.blk s3 H3 scope ce fp) [] (wipe σ (own.map (·.2))) H' s' ∧ tn i s'.heap ∧ (∀ b ∈ fp, H' b = none) ∧ W i n H') ?_ m0 ⟨0, H3, I4', st4, fun b hb => (f3 b hb).1.1, w0⟩
  rintro n s5 ⟨i, H5, I5, st5, n5, w5⟩
  rcases turn i n H5 w5 with ⟨stop, qq⟩ | ⟨go, Nx, hNx, step⟩
  · refine thnF (T.done (X.blk s3 H3 scope ce fp) rfl rfl rfl hc i [] s5 _ H5 (fun _ _ => False) I5 (stat I5 n5) st5 stop) fun r s6 ⟨hr, I6⟩ => ?_
    subst hr
    have I7 : Inv X pins σ H5 s6 := I3.call' (ch := fp) I6.os I6.base I6.hok I6.bare fun b hb => ⟨(f3 b hb).1.2.2.2.1, (f3 b hb).1.2.1, (f3 b hb).1.2.2.2.2.1, (f3 b hb).1.2.2.2.2.2⟩
    obtain ⟨m, hn, _⟩ := I6.loc
    refine ⟨m, by rw [← cL]; exact hn, fun h'' sb => ?_⟩
    obtain ⟨g0, g1, g2, g3, g4, g5⟩ := I3.fpOk (H' := H5) (Nat.le_refl _) (by rw [← cL]; exact I6.free)
    exact ⟨.ref D, H5, I7.turned (t' := s6.toks) (fun b o hb e => (sb.2 b hb).trans e) g0 g1 g3 g4 g5, rfl, qq⟩
  · refine thnF (T.item (X.blk s3 H3 scope ce fp) rfl rfl rfl hc i [] s5 _ H5 (fun _ _ => False) I5 (stat I5 n5) st5 go) fun r s6 ⟨u, hr, h6⟩ => ?_
    subst hr
    refine thnF h6 fun _ s7 ⟨x, H7, I7, r7, y7, st7, n7⟩ => ?_
    have I7' := I7.pinned (stat I7 n7) (T.obj _ _ st7)
    refine thnF (pg.run _ s7 _ H7 x u _ I7' r7 (step x H7 y7)) fun _ s8 ⟨σ8, H8, I8, hw8, q8⟩ => ?_
    refine wpAny_tests_nil ?_
    simp only [if_true]
    refine thnF (pk.run _ s8 σ8 H8 _ I8 q8) fun z s10 ⟨yk, H10, I10, r10, q10⟩ => ?_
    refine thnF (pe.run _ s10 σ8 H10 _ I10 q10) fun z2 s11 ⟨yv, H11, I11, r11, kvs, k, b, ek, hb11, hD11, hz11, nx⟩ => ?_
    subst ek
    refine put_tup (X := X.blk s3 H3 scope ce fp) hu I11 hD11 hz11 hb11 r10 r11 fun s12 I12 => ?_
    obtain ⟨m', hm, w'⟩ := hNx _ nx
    have pin' : ∀ b ∈ fp, ∀ o, s7.heap.get? b = some o → s12.heap.get? b = some o ∧ (upd H11 D (.dT (putK kvs k yv))) b = none := fun b hb o e =>
      have z := I12.pin (b, o) (List.mem_append_right _ (List.mem_append_right _ (mem_pinsAt hb e)))
      ⟨z.1, z.2.1⟩
    refine ⟨m', hm, i + 1, _, (I12.unpinned (pins := [])).weak (by rw [← hw8, wipe_length]) (fun j v e => ?_), T.keep _ _ _ st7 fun b hb o e => (pin' b hb o e).1, fun b hb => ?_, w'⟩
    · rw [← hw8] at e
      exact (wipe_some e).1
    · obtain ⟨o, e, _⟩ := T.obj _ _ st7 b hb
      exact (pin' b hb o e).2
end
end Bk

namespace Bk
open PySem PySem.Spec PyProof.Rows L2
/-! ### heaps -/
theorem same_upd {H : Hp} {p : Addr} {o : HO} (h : H p = none) : Same H (upd H p o) := fun b x e => by
  rw [upd_ne (ne_of_none e h)]
  exact e
theorem Same.sqt {K : PySem.W.Frag} {H H' : Hp} {a : Addr} {xs : List V} (e : Same H H') (h : SqT K H a xs) : SqT K H' a xs := by
  rcases h with (h | ⟨o, h⟩) | h
  · exact .inl (.inl (e _ _ h))
  · exact .inl (.inr ⟨o, e _ _ h⟩)
  · exact .inr h
/-- a new object grows while all else stays -/
theorem Same.grow {H H' : Hp} {p : Addr} {o : HO} (e : Same H H') (h : H p = none) : Same H (upd H' p o) := fun b x q => by
  rw [upd_ne (ne_of_none q h)]
  exact e b x q
/-- all but the stream is as it was -/
def Kept (st c : Addr) (H H' : Hp) : Prop := ∀ b o, b ≠ st → b ≠ c → H b = some o → H' b = some o
theorem Kept.refl (st c : Addr) (H : Hp) : Kept st c H H := fun _ _ _ _ e => e
theorem Kept.trans {st c : Addr} {H H1 H2 : Hp} (a : Kept st c H H1) (b : Kept st c H1 H2) : Kept st c H H2 := fun x o n m e => b x o n m (a x o n m e)
theorem Same.kept {st c : Addr} {H H' : Hp} (a : Same H H') : Kept st c H H' := fun x o _ _ e => a x o e
/-! ### the stream of drawn numbers: at st, its cells at c; n bounds the draws so far -/
structure Strm (H : Hp) (st c : Addr) (n : Nat) : Prop where
  ne : c ≠ st
  ex : ∃ (cells : List Int) (a k m : Int), H c = some (.lst (cells.map V.int)) ∧ H st = some (.lst [.ref c, .int a, .int k, .int m]) ∧ 0 ≤ a ∧ 0 ≤ k ∧ k ≤ (n : Int) ∧ 0 ≤ m ∧ m < 2147483647
theorem Strm.more {H : Hp} {st c : Addr} {n n' : Nat} (S : Strm H st c n) (h : n ≤ n') : Strm H st c n' := by
  obtain ⟨ne, cells, a, k, m, h1, h2, h3, h4, h5, h6, h7⟩ := S
  exact ⟨ne, cells, a, k, m, h1, h2, h3, h4, by omega, h6, h7⟩
theorem Strm.same {H H' : Hp} {st c : Addr} {n : Nat} (S : Strm H st c n) (h : Same H H') : Strm H' st c n := by
  obtain ⟨ne, cells, a, k, m, h1, h2, h3⟩ := S
  exact ⟨ne, cells, a, k, m, h _ _ h1, h _ _ h2, h3⟩
theorem Strm.notfree {H : Hp} {st c : Addr} {n : Nat} (S : Strm H st c n) {p : Addr} (h : H p = none) : p ≠ st ∧ p ≠ c := by
  obtain ⟨ne, cells, a, k, m, h1, h2, h3⟩ := S
  exact ⟨fun e => (ne_of_none h2 h) e.symm, fun e => (ne_of_none h1 h) e.symm⟩
/-- what was free and is tracked behind is no part of the stream -/
theorem Kept.upd {H H' : Hp} {st c : Addr} {n : Nat} {p : Addr} {o : HO} (S : Strm H st c n) (k : Kept st c H H') (h : H p = none) : Kept st c H (L2.upd H' p o) := fun b x n1 n2 e => by
  rw [upd_ne (ne_of_none e h)]
  exact k b x n1 n2 e
theorem Strm.upd {H : Hp} {st c : Addr} {n : Nat} {p : Addr} {o : HO} (S : Strm H st c n) (h1 : p ≠ st) (h2 : p ≠ c) : Strm (L2.upd H p o) st c n := by
  obtain ⟨ne, cells, a, k, m, e1, e2, e3⟩ := S
  exact ⟨ne, cells, a, k, m, by rw [upd_ne h2.symm]; exact e1, by rw [upd_ne h1.symm]; exact e2, e3⟩
theorem Kept.free {H H' : Hp} {st c p : Addr} (k : Kept st c H H') (h : H' p = none) (n1 : p ≠ st) (n2 : p ≠ c) : H p = none := by
  cases e : H p with
  | none => rfl
  | some o =>
    rw [k p o n1 n2 e] at h
    cases h
theorem Kept.grow {H H' : Hp} {st c p : Addr} {o : HO} (k : Kept st c H H') (h : H p = none) : Kept st c H (L2.upd H' p o) := fun b x n1 n2 e => by
  rw [upd_ne (ne_of_none e h)]
  exact k b x n1 n2 e
/-! ### names that the program's top leaves -/
structure Bi (mg : Str → Option Value) : Prop where
  len : mg "len" = none
  list : mg "list" = none
  tuple : mg "tuple" = none
  isinstance : mg "isinstance" = none
  all : mg "all" = none
  any : mg "any" = none
  zip : mg "zip" = none
  enumerate : mg "enumerate" = none
  range : mg "range" = none
  int : mg "int" = none
  str : mg "str" = none
  bool : mg "bool" = none
  dict : mg "dict" = none
  abs : mg "abs" = none
/-- a def that can be called by its name -/
structure Cal (P : Program) (w : World) (K : PySem.W.Frag) (mg : Str → Option Value) (base : Heap) (CX : CXT) (k : Nat) (x : Str) (f : Addr) (fd : FuncData) (ps : List Str) (sp : Sp) : Prop where
  ok : FnOk P w K mg base CX k f fd ps sp
  g : mg x = some (.ref f)
  kp : PySem.W.keepIn K (.ref f) = true
  b : Binds K fd ps []
/-! ### what is a name -/
def lettersL : List Nat := (Str.ofString "abcdefghijklmnopqrstuvwxyz").cps.toList
theorem letters_mem (c : Nat) : c ∈ lettersL ↔ 97 ≤ c ∧ c ≤ 122 := by
  rw [show lettersL = List.range' 97 26 by decide +kernel, List.mem_range'_1]
  omega
def isNameS (z : Str) : Bool := decide (1 ≤ z.length) && decide (z.length ≤ 8) && z.cps.toList.all fun c => decide (c ∈ lettersL)
def isNameB : V → Bool
  | .str z => isNameS z
  | _ => false
def isStr : V → Bool
  | .str _ => true
  | _ => false
/-- any object, as far as isinstance with str asks -/
def Itm (K : PySem.W.Frag) (H : Hp) (x : V) : Prop := ∃ t, TyX K H x t ∧ PySem.W.kitOne K t (.type "str") = some (isStr x) ∧ ∀ z, x = .str z → z.length ≤ 100000
/-- any object, as far as isinstance with (list, tuple) asks: b tells whether it is one of them -/
def Sqs (K : PySem.W.Frag) (H : Hp) (x : V) (b : Bool) : Prop := ∃ t, TyX K H x t ∧ PySem.W.kitAny K t [.type "list", .type "tuple"] = some b
theorem Itm.str {K : PySem.W.Frag} {H : Hp} {z : Str} (h : z.length ≤ 100000) : Itm K H (.str z) := ⟨.type "str", .base (.str z), kit_ty (show kitB "str" "str" = some true by decide +kernel), fun _ e => by cases e; exact h⟩
theorem TyX.same {K : PySem.W.Frag} {H H' : Hp} {x : V} {t : Value} (h : TyX K H x t) (e : Same H H') : TyX K H' x t := by
  cases h with
  | base b =>
    cases b with
    | non => exact .base .non
    | bl y => exact .base (.bl y)
    | int i => exact .base (.int i)
    | str y => exact .base (.str y)
    | flt y => exact .base (.flt y)
    | lst q => exact .base (.lst (e _ _ q))
    | frz q => exact .base (.frz (e _ _ q))
    | tup q => exact .base (.tup (e _ _ q))
    | dK q => exact .base (.dK (e _ _ q))
    | dT q => exact .base (.dT (e _ _ q))
    | ins q c1 c2 c3 c4 c5 => exact .base (.ins (e _ _ q) c1 c2 c3 c4 c5)
  | byt b => exact .byt b
  | set q => exact .set (e _ _ q)
  | kList q c => exact .kList q c
  | kTuple q c => exact .kTuple q c
  | kDict q c => exact .kDict q c
  | fTuple q => exact .fTuple (e _ _ q)
  | fDict q => exact .fDict (e _ _ q)
/-! ### promises -/
def spStart (K : PySem.W.Frag) : Sp := fun vs H Q _ => ∃ (a : Addr) (ns : List Int), vs = [.ref a] ∧ SqL K H a (ns.map V.int) ∧
  ∀ (st c : Addr) (H' : Hp), Same H H' → H st = none → H c = none → Strm H' st c 0 → Q (.ref st) H'
def spDraw : Sp := fun vs H Q _ => ∃ (st c : Addr) (n : Nat) (k : Int), vs = [.ref st, .int k] ∧ Strm H st c n ∧ n ≤ 1000000 ∧ 0 < k ∧ k < 1000000 ∧
  ∀ (d : Int) (H' : Hp), 0 ≤ d → d < k → Strm H' st c (n + 1) → Kept st c H H' → Q (.int d) H'
/-- what one may pick from: a list, a tuple, a text -/
inductive Pk (K : PySem.W.Frag) (H : Hp) (st c : Addr) : V → Nat → (Nat → V) → Prop where
  | lst {a : Addr} {xs : List V} {f : Nat → V} (h : SqL K H a xs) (n1 : a ≠ st) (n2 : a ≠ c) (e : ∀ j, j < xs.length → xs[j]? = some (f j)) : Pk K H st c (.ref a) xs.length f
  | tup {a : Addr} {xs : List V} {f : Nat → V} (h : SqT K H a xs) (n1 : a ≠ st) (n2 : a ≠ c) (e : ∀ j, j < xs.length → xs[j]? = some (f j)) : Pk K H st c (.ref a) xs.length f
  | str {z : Str} {f : Nat → V} (hz : z.length ≤ sizeLine) (e : ∀ j, j < z.length → ∃ ch, z.cps.toList[j]? = some ch ∧ f j = .str ⟨#[ch]⟩) : Pk K H st c (.str z) z.length f
def spPick (K : PySem.W.Frag) : Sp := fun vs H Q _ => ∃ (st c : Addr) (n len : Nat) (x : V) (f : Nat → V), vs = [.ref st, x] ∧ Strm H st c n ∧ n ≤ 1000000 ∧ 0 < len ∧ len < 1000000 ∧ Pk K H st c x len f ∧
  ∀ (j : Nat) (H' : Hp), j < len → Strm H' st c (n + 1) → Kept st c H H' → Q (f j) H'
def spIsList (K : PySem.W.Frag) : Sp := fun vs H Q _ => ∃ (x : V) (b : Bool), vs = [x] ∧ Sqs K H x b ∧ ∀ H', Same H H' → Q (.bl b) H'
def spIsName (K : PySem.W.Frag) : Sp := fun vs H Q _ => ∃ x : V, vs = [x] ∧ Itm K H x ∧ ∀ H', Same H H' → Q (.bl (isNameB x)) H'
def spName : Sp := fun vs H Q _ => ∃ (st c : Addr) (n : Nat), vs = [.ref st] ∧ Strm H st c n ∧ n ≤ 900000 ∧
  ∀ (z : Str) (H' : Hp), isNameS z = true → Strm H' st c (n + 9) → Kept st c H H' → Q (.str z) H'
def spNames (K : PySem.W.Frag) : Sp := fun vs H Q _ => ∃ (st c : Addr) (n many : Nat), vs = [.ref st, .int (many : Int)] ∧ Strm H st c n ∧ n ≤ 800000 ∧ many ≤ 16 ∧
  ∀ (l : Addr) (zs : List Str) (H' : Hp), H l = none → zs.length = many → zs.Nodup → (∀ z ∈ zs, isNameS z = true) → Strm H' st c (n + 200) → Kept st c H H' → H' l = some (.lst (zs.map V.str)) → Q (.ref l) H'
theorem dp_ints {K : PySem.W.Frag} {H : Hp} : ∀ l : List Int, DpAll K H (l.map V.int) (l.map PyData.int)
  | [] => .nil
  | x :: r => .cons (.int x) (dp_ints r)
theorem lay_ints : ∀ l : List Int, PyData.canLayAll0 (l.map PyData.int) = true
  | [] => by simp [PyData.canLayAll0]
  | x :: r => by
    have := lay_ints r
    simp [PyData.canLayAll0, PyData.canLay0, this]
theorem depth_ints : ∀ l : List Int, PyData.depthAll (l.map PyData.int) = 0
  | [] => by simp [PyData.depthAll]
  | x :: r => by
    have := depth_ints r
    simp [PyData.depthAll, PyData.depth, this]
theorem shaped_ints (l : List Int) : SeqAt.shaped (.list (l.map PyData.int)) = true := by
  have h1 := lay_ints l
  have h2 := depth_ints l
  simp [SeqAt.shaped, PyData.canLay0, PyData.depth, h1, h2]
theorem eqv_nil (l : List Int) : PyData.eqv (.list (l.map PyData.int)) (.list []) = l.isEmpty := by
  cases l <;> simp [PyData.eqv, PyData.eqvAll]
theorem yes2 {σ : L2.St} {H : Hp} {A B : Hp → Prop} (h : A H) : tYes σ H (fun b H3 => if b = true then A H3 else B H3) := by
  show (if true = true then A H else B H)
  rw [if_pos rfl]
  exact h
theorem take_succ_map {α β : Type} {l : List α} {f : α → β} {i : Nat} {x : α} (h : l[i]? = some x) : (l.take (i + 1)).map f = (l.take i).map f ++ [f x] := by
  obtain ⟨h1, rfl⟩ := List.getElem?_eq_some_iff.mp h
  rw [List.take_add_one, h, List.map_append]
  rfl
/-- the first turns of a comprehension that keeps each item -/
structure Upto {α : Type} (H : Hp) (D : Addr) (l : List α) (f : α → V) (i : Nat) (H' : Hp) : Prop where
  sm : Same H H'
  at_ : H' D = some (.lst ((l.take i).map f))
theorem Upto.zero {α : Type} {H : Hp} {D : Addr} {l : List α} {f : α → V} (h : H D = none) : Upto H D l f 0 (upd H D (.lst [])) := ⟨same_upd h, upd_same⟩
theorem Upto.next {α : Type} {H H' H2 : Hp} {D : Addr} {l : List α} {f : α → V} {i : Nat} {x : α} (u : Upto H D l f i H') (nD : H D = none) (hx : l[i]? = some x) (s2 : Same H' H2) (hl : l.length ≤ 100000) :
    ∃ acc, H2 D = some (.lst acc) ∧ acc.length < sizeLine ∧ Upto H D l f (i + 1) (upd H2 D (.lst (acc ++ [f x]))) := by
  have hi := (List.getElem?_eq_some_iff.mp hx).1
  refine ⟨_, s2 _ _ u.at_, Evl.sz_lt ?_, Same.grow (u.sm.trans s2) nD, ?_⟩
  · rw [List.length_map, List.length_take]
    omega
  · rw [upd_same, take_succ_map hx]
theorem Upto.all {α : Type} {H H' : Hp} {D : Addr} {l : List α} {f : α → V} {n : Nat} (u : Upto H D l f n H') (e : n = l.length) : H' D = some (.lst (l.map f)) := by
  rw [u.at_, e, List.take_length]
theorem inV_strs (z : Str) : ∀ zs : List Str, inV (.str z) (zs.map V.str) = decide (z ∈ zs)
  | [] => rfl
  | x :: r => by
    have ih := inV_strs z r
    unfold inV at ih ⊢
    rw [List.map_cons, List.any_cons, ih]
    show ((x == z) || decide (z ∈ r)) = decide (z ∈ x :: r)
    by_cases e : x = z
    · subst e
      simp
    · have e2 : ¬ z = x := fun q => e q.symm
      rw [beq_eq_false_iff_ne.mpr e, Bool.false_or]
      simp [e2]
theorem flat_strs : ∀ zs : List Str, (zs.map V.str).all flatV = true
  | [] => rfl
  | x :: r => by
    rw [List.map_cons, List.all_cons, flat_strs r]
    rfl
theorem pigeon {α : Type} [DecidableEq α] : ∀ (a b : List α), a.Nodup → (∀ x ∈ a, x ∈ b) → a.length ≤ b.length
  | [], _, _, _ => Nat.zero_le _
  | x :: r, b, hn, hs => by
    have hx := hs x List.mem_cons_self
    obtain ⟨n1, n2⟩ := List.nodup_cons.mp hn
    have ih := pigeon r (b.erase x) n2 fun y hy => (List.mem_erase_of_ne (fun (e : y = x) => n1 (e ▸ hy))).mpr (hs y (List.mem_cons_of_mem _ hy))
    rw [List.length_erase_of_mem hx] at ih
    have : 0 < b.length := List.length_pos_of_mem hx
    rw [List.length_cons]
    omega
/-- the first turns of a comprehension that keeps some items -/
structure UptoF {α : Type} (H : Hp) (D : Addr) (l : List α) (f : α → V) (p : α → Bool) (i : Nat) (H' : Hp) : Prop where
  sm : Same H H'
  at_ : H' D = some (.lst (((l.take i).filter p).map f))
theorem UptoF.zero {α : Type} {H : Hp} {D : Addr} {l : List α} {f : α → V} {p : α → Bool} (h : H D = none) : UptoF H D l f p 0 (upd H D (.lst [])) := ⟨same_upd h, upd_same⟩
theorem take_succ {α : Type} {l : List α} {i : Nat} {x : α} (h : l[i]? = some x) : l.take (i + 1) = l.take i ++ [x] := by
  rw [List.take_add_one, h]
  rfl
theorem UptoF.yes {α : Type} {H H' H2 : Hp} {D : Addr} {l : List α} {f : α → V} {p : α → Bool} {i : Nat} {x : α} (u : UptoF H D l f p i H') (nD : H D = none) (hx : l[i]? = some x) (hp : p x = true) (s2 : Same H' H2) (hl : l.length ≤ 100000) :
    ∃ acc, H2 D = some (.lst acc) ∧ acc.length < sizeLine ∧ UptoF H D l f p (i + 1) (upd H2 D (.lst (acc ++ [f x]))) := by
  have hi := (List.getElem?_eq_some_iff.mp hx).1
  refine ⟨_, s2 _ _ u.at_, Evl.sz_lt ?_, Same.grow (Same.trans u.sm s2) nD, ?_⟩
  · have := List.length_filter_le p (l.take i)
    rw [List.length_map]
    rw [List.length_take] at this
    omega
  · rw [upd_same, take_succ hx, List.filter_append, List.map_append, List.filter_cons_of_pos hp]
    rfl
theorem UptoF.no {α : Type} {H H' H2 : Hp} {D : Addr} {l : List α} {f : α → V} {p : α → Bool} {i : Nat} {x : α} (u : UptoF H D l f p i H') (hx : l[i]? = some x) (hp : p x = false) (s2 : Same H' H2) : UptoF H D l f p (i + 1) H2 :=
  ⟨Same.trans u.sm s2, by rw [take_succ hx, List.filter_append, List.filter_cons_of_neg (by rw [hp]; exact Bool.false_ne_true), List.filter_nil, List.append_nil]; exact s2 _ _ u.at_⟩
theorem UptoF.all {α : Type} {H H' : Hp} {D : Addr} {l : List α} {f : α → V} {p : α → Bool} {n : Nat} (u : UptoF H D l f p n H') (e : n = l.length) : H' D = some (.lst ((l.filter p).map f)) := by
  rw [u.at_, e, List.take_length]
/-! ### the layer's rules with K told (within a comprehension's block the reading may not speak of the block) -/
section
variable {X : Cx} (K : PySem.W.Frag)
theorem kIn (e : X.K = K := by rfl) : OpR X (compareOp .In) (rIn K false) := e ▸ op_in_seq
theorem kNotIn (e : X.K = K := by rfl) : OpR X (compareOp .NotIn) (rIn K true) := e ▸ op_notIn_seq
theorem kEqD (hu : X.A.units + 64 < cLine) (e : X.K = K := by rfl) : OpR X (compareOp .Eq) (rEqD K) := e ▸ op_eqD hu
theorem kNeD (hu : X.A.units + 64 < cLine) (e : X.K = K := by rfl) : OpR X (compareOp .NotEq) (rNeD K) := e ▸ op_neD hu
theorem kCatA (e : X.K = K := by rfl) : OpR X (binaryOp .Add) (rCatA K) := e ▸ op_catA
theorem kIxL (e : X.K = K := by rfl) : IxR X (rIxL K) := e ▸ ix_list
theorem kIxT (e : X.K = K := by rfl) : IxR X (rIxT K) := e ▸ ix_tup
theorem kIx (e : X.K = K := by rfl) : IxR X (rIx K) := e ▸ ix_seq
theorem kSlL (e : X.K = K := by rfl) : SlR X (rSlL K) := e ▸ sl_list
theorem kSlT (e : X.K = K := by rfl) : SlR X (rSlA K) := e ▸ sl_tupA
/-- len of a text, a list, a tuple -/
def rLn (K : PySem.W.Frag) : List V → Hp → VK → Prop := fun xs H Q => ∃ x n, xs = [x] ∧ LenV K x H n ∧ Q (.int n) H
theorem kLen (e : X.K = K := by rfl) : CallR X (.builtin "len") (rLn K) := e ▸ call_len
def rLs (K : PySem.W.Frag) : List V → Hp → VK → Prop := fun xs H Q => ∃ p ys, xs = [.ref p] ∧ (SqL K H p ys ∨ SqT K H p ys) ∧ ∀ l, H l = none → Q (.ref l) (upd H l (.lst ys))
theorem kList (e : X.K = K := by rfl) : CallR X (.type "list") (rLs K) := e ▸ call_list_of
theorem kAll (hc : X.calm = true) (e : X.K = K := by rfl) : CallR X (.builtin "all") (rAll K) := e ▸ cr_all hc
theorem kAny (hc : X.calm = true) (e : X.K = K := by rfl) : CallR X (.builtin "any") (rAny K) := e ▸ cr_any hc
theorem kIsi (e : X.K = K := by rfl) : CallR X (.builtin "isinstance") (rIsi K) := e ▸ call_isi
theorem kIsiT (e : X.K = K := by rfl) : CallR X (.builtin "isinstance") (rIsiT K) := e ▸ call_isiT
theorem kTupleOf {a : Expr} {ta : TE} {p pos : Pos} (hg : Gl X "tuple") (hm : X.mg "tuple" = none) (ha : PE X a ta) (e : X.K = K := by rfl) (na : starEach [a] X.env = (false, eval a X.env) :: starEach [] X.env := by rfl) : PE X (.Call (.Name "tuple" p) [a] [] pos) (tThen ta (kTup K)) := e ▸ pe_tupleOf hg hm ha na
theorem kTg (n : Nat) {es : List Expr} {k : Nat} {t : TGs} {pos : Pos} (hc : X.calm = true) (h : PGs X es t) (e : X.K = K := by rfl) (hn : (assignEach es X.env).length = n := by rfl) (hst : (assignEach es X.env).findIdx? (·.1) = none := by rfl) :
    PG X (.Tuple es k pos) (gTup K n t) := e ▸ pg_tup hc h hn hst
theorem kPiL {tg l : Expr} {tl : TE} (hl : PE X l tl) (e : X.K = K := by rfl) : PI X tg l (iList K tl) := e ▸ pi_list hl
theorem kPiT {tg l : Expr} {tl : TE} (hl : PE X l tl) (e : X.K = K := by rfl) : PI X tg l (iTup K tl) := e ▸ pi_tup hl
theorem kPiE {e1 : Expr} {ta : TA} {p pos tpos : Pos} {elts : List Expr} {kk : Nat} (hg : Gl X "enumerate") (hm : X.mg "enumerate" = none) (ha : PA X [e1] ta) (e : X.K = K := by rfl) (hs : starEach [e1] X.env = [(false, eval e1 X.env)] := by rfl) :
    PI X (.Tuple elts kk tpos) (.Call (.Name "enumerate" p) [e1] [] pos) (iEnS K ta) := e ▸ pi_enS hg hm ha hs
theorem kPiZ {e1 e2 : Expr} {ta : TA} {p pos tpos : Pos} {elts : List Expr} {kk : Nat} (hg : Gl X "zip") (hm : X.mg "zip" = none) (ha : PA X [e1, e2] ta) (e : X.K = K := by rfl)
    (hs : starEach [e1, e2] X.env = (false, eval e1 X.env) :: starEach [e2] X.env := by rfl) (hpl : (backTo pos (starEach [e2] X.env)).any (·.1) = false := by rfl) :
    PI X (.Tuple elts kk tpos) (.Call (.Name "zip" p) [e1, e2] [] pos) (RZ.iZipA K ta) := e ▸ RZ.pi_zipA hg hm ha hs hpl
end
end Bk

namespace Bk
open PySem PySem.Spec PyProof.Rows L2
section
variable {K : PySem.W.Frag}
/-! ### walks -/
theorem walk_enumT {a : Addr} {xs : List V} : Walk (IteT K a) xs.length (fun H => SqT K H a xs) (YPair (fun i => some (.int (i : Nat))) (fun i => xs[i]?)) := by
  refine ⟨fun i _ hi q => ⟨xs, xs[i], q, by simp [hi]⟩, fun _ q => ⟨xs, q, rfl⟩, fun i H v H' _ q y => ?_⟩
  obtain ⟨T, x, h1, h2, h3, h4⟩ := y
  exact ⟨T, .int (i : Nat), x, h1, h2, h3, rfl, h4 xs q⟩
/-- enumerate of a list or a tuple: whichever it is -/
theorem enS_of {a : Addr} {xs : List V} {H : Hp} {R : It → Hp → Prop} (hS : SqL K H a xs ∨ SqT K H a xs)
    (h : ∀ (J : It) (G : Hp → Prop), Walk J xs.length G (YPair (fun i => some (.int (i : Nat))) (fun i => xs[i]?)) → (∀ H', Same H H' → G H') → R J H) :
    (∃ ys, SqL K H a ys ∧ R (Ite K a) H) ∨ (∃ ys, SqT K H a ys ∧ R (IteT K a) H) := by
  rcases hS with hS | hS
  · exact .inl ⟨xs, hS, h _ _ walk_enum fun H' e => e.seq hS⟩
  · exact .inr ⟨xs, hS, h _ _ walk_enumT fun H' e => Same.sqt e hS⟩
/-- for at, x in enumerate(xs), xs in the slot i: a list or a tuple -/
theorem for_enS {i : Nat} {a : Addr} {xs : List V} {g : TG} {tb : TS} {D : Ends} {σ : L2.St} {H : Hp} (hv : σ[i]? = some (some (.ref a))) (hS : SqL K H a xs ∨ SqT K H a xs) (Pv : Nat → L2.St → Hp → Prop) (h0 : Pv 0 σ H) (hG : ∀ k σ' H', Pv k σ' H' → Same H H')
    (hs : ∀ k x σ' H' H2, k < xs.length → Pv k σ' H' → YPair (fun j => some (.int (j : Nat))) (fun j => xs[j]?) k H' x H2 → g x σ' H2 fun σ2 H3 => tb { D with nx := Pv (k + 1), ct := Pv (k + 1), bk := D.nx } σ2 H3) (hd : ∀ σ' H', Pv xs.length σ' H' → D.nx σ' H') :
    tFor (iEnS K (tCons (tVar i) tNil)) g tb D σ H :=
  ⟨_, hv, a, rfl, enS_of (R := fun J H1 => ∃ W : Nat → Nat → L2.St → Hp → Prop, (∃ m, W 0 m σ H1) ∧ ∀ i m σ H, W i m σ H →
      (J.stop i H ∧ D.nx σ H) ∨ (J.go i H ∧ ∃ N : L2.St → Hp → Prop, (∀ σ' H', N σ' H' → ∃ m', m' < m ∧ W (i + 1) m' σ' H') ∧ ∀ x H', J.yld i H x H' → g x σ H' fun σ2 H2 => tb { D with nx := N, ct := N, bk := D.nx } σ2 H2))
    hS fun J G wk kG => for_it wk Pv h0 (fun k σ' H' _ p => kG H' (hG k σ' H' p)) hs hd⟩
section
variable {J : It} {n : Nat} {G : Hp → Prop} {Y : Nat → Hp → V → Hp → Prop}
/-- the inner walk of a comprehension with two fors -/
theorem inner_it (w : Walk J n G Y) {g1 : TG} {tt1 : TT} {te : TE} {σ2 : L2.St} {vs1 : List Nat} {D : Addr} {Nx : Hp → Prop} {H0 : Hp} (Pw : Nat → Hp → Prop) (h0 : Pw 0 H0) (hG : ∀ j H, j ≤ n → Pw j H → G H)
    (hs : ∀ j x H H', j < n → Pw j H → Y j H x H' → g1 x (wipe σ2 vs1) H' fun σ3 H5 => wipe σ3 vs1 = wipe σ2 vs1 ∧ tt1 σ3 H5 fun b H6 =>
      if b = true then te σ3 H6 fun y H7 => ∃ acc, H7 D = some (.lst acc) ∧ acc.length < sizeLine ∧ Pw (j + 1) (upd H7 D (.lst (acc ++ [y]))) else Pw (j + 1) H6) (hd : ∀ H, Pw n H → Nx H) :
    ∃ W1 : Nat → Nat → Hp → Prop, (∃ m, W1 0 m H0) ∧ ∀ j k H, W1 j k H →
      (J.stop j H ∧ Nx H) ∨ (J.go j H ∧ ∃ Nx1 : Hp → Prop, (∀ H', Nx1 H' → ∃ k', k' < k ∧ W1 (j + 1) k' H') ∧ ∀ x H', J.yld j H x H' → g1 x (wipe σ2 vs1) H' fun σ3 H5 => wipe σ3 vs1 = wipe σ2 vs1 ∧ tt1 σ3 H5 fun b H6 =>
        if b = true then te σ3 H6 fun y H7 => ∃ acc, H7 D = some (.lst acc) ∧ acc.length < sizeLine ∧ Nx1 (upd H7 D (.lst (acc ++ [y]))) else Nx1 H6) := by
  refine ⟨fun j k H => k = n - j ∧ j ≤ n ∧ Pw j H, ⟨n, rfl, Nat.zero_le _, h0⟩, ?_⟩
  rintro j k H ⟨rfl, hj, p⟩
  rcases Nat.lt_or_ge j n with hlt | hge
  · exact .inr ⟨w.goes j H hlt (hG j H hj p), Pw (j + 1), fun H' p' => ⟨n - (j + 1), by omega, rfl, hlt, p'⟩, fun x H' y => hs j x H H' hlt p (w.yields j H x H' hlt (hG j H hj p) y)⟩
  · obtain rfl : j = n := by omega
    exact .inl ⟨w.stops H (hG j H hj p), hd H p⟩
/-- the outer walk -/
theorem outer_it (w : Walk J n G Y) {g : TG} {tt : TT} {σ : L2.St} {vs : List Nat} {H1 : Hp} {D : Addr} {Qd : Hp → Prop} {In : L2.St → Hp → (Hp → Prop) → Prop} (Pv : Nat → Hp → Prop) (h0 : Pv 0 (upd H1 D (.lst []))) (hG : ∀ i H, i ≤ n → Pv i H → G H)
    (hs : ∀ i x H H', i < n → Pv i H → Y i H x H' → g x (wipe σ vs) H' fun σ2 H2 => wipe σ2 vs = wipe σ vs ∧ tt σ2 H2 fun b H3 => if b = true then In σ2 H3 (Pv (i + 1)) else Pv (i + 1) H3) (hd : ∀ H, Pv n H → Qd H) :
    ∃ W : Nat → Nat → Hp → Prop, (∃ m, W 0 m (upd H1 D (.lst []))) ∧ ∀ i m H, W i m H →
      (J.stop i H ∧ Qd H) ∨ (J.go i H ∧ ∃ Nx : Hp → Prop, (∀ H', Nx H' → ∃ m', m' < m ∧ W (i + 1) m' H') ∧ ∀ x H', J.yld i H x H' → g x (wipe σ vs) H' fun σ2 H2 => wipe σ2 vs = wipe σ vs ∧ tt σ2 H2 fun b H3 =>
        if b = true then In σ2 H3 Nx else Nx H3) := by
  refine ⟨fun i m H => m = n - i ∧ i ≤ n ∧ Pv i H, ⟨n, rfl, Nat.zero_le _, h0⟩, ?_⟩
  rintro i m H ⟨rfl, hi, p⟩
  rcases Nat.lt_or_ge i n with hlt | hge
  · exact .inr ⟨w.goes i H hlt (hG i H hi p), Pv (i + 1), fun H' p' => ⟨n - (i + 1), by omega, rfl, hlt, p'⟩, fun x H' y => hs i x H H' hlt p (w.yields i H x H' hlt (hG i H hi p) y)⟩
  · obtain rfl : i = n := by omega
    exact .inl ⟨w.stops H (hG i H hi p), hd H p⟩
/-- a dict comprehension by tuples -/
theorem dcT_it (w : Walk J n G Y) {g : TG} {tk tv : TE} {vs : List Nat} {σ : L2.St} {H1 : Hp} {D : Addr} {Qd : Hp → Prop} (Pv : Nat → Hp → Prop) (h0 : Pv 0 (upd H1 D (.dT []))) (hG : ∀ i H, i ≤ n → Pv i H → G H)
    (hs : ∀ i x H H', i < n → Pv i H → Y i H x H' → g x (wipe σ vs) H' fun σ2 H2 => wipe σ2 vs = wipe σ vs ∧
      tk σ2 H2 fun y H4 => tv σ2 H4 fun z H5 => ∃ kvs k b, y = .ref b ∧ H5 b = some (.tup (k.map kV)) ∧ H5 D = some (.dT kvs) ∧ kvs.length < sizeLine ∧ Pv (i + 1) (upd H5 D (.dT (putK kvs k z)))) (hd : ∀ H, Pv n H → Qd H) :
    ∃ W : Nat → Nat → Hp → Prop, (∃ m, W 0 m (upd H1 D (.dT []))) ∧ ∀ i m H, W i m H →
      (J.stop i H ∧ Qd H) ∨ (J.go i H ∧ ∃ Nx : Hp → Prop, (∀ H', Nx H' → ∃ m', m' < m ∧ W (i + 1) m' H') ∧ ∀ x H', J.yld i H x H' → g x (wipe σ vs) H' fun σ2 H2 => wipe σ2 vs = wipe σ vs ∧
        tk σ2 H2 fun y H4 => tv σ2 H4 fun z H5 => ∃ kvs k b, y = .ref b ∧ H5 b = some (.tup (k.map kV)) ∧ H5 D = some (.dT kvs) ∧ kvs.length < sizeLine ∧ Nx (upd H5 D (.dT (putK kvs k z)))) := by
  refine ⟨fun i m H => m = n - i ∧ i ≤ n ∧ Pv i H, ⟨n, rfl, Nat.zero_le _, h0⟩, ?_⟩
  rintro i m H ⟨rfl, hi, p⟩
  rcases Nat.lt_or_ge i n with hlt | hge
  · exact .inr ⟨w.goes i H hlt (hG i H hi p), Pv (i + 1), fun H' p' => ⟨n - (i + 1), by omega, rfl, hlt, p'⟩, fun x H' y => hs i x H H' hlt p (w.yields i H x H' hlt (hG i H hi p) y)⟩
  · obtain rfl : i = n := by omega
    exact .inl ⟨w.stops H (hG i H hi p), hd H p⟩
end
/-! ### slices -/
theorem sIx_nat' (n d k : Nat) (h : k ≤ n) : HT.sIx n d (some (k : Int)) = k := by
  rw [HT.sIx_nat]
  omega
theorem cut_to (xs : List V) (k : Nat) (h : k ≤ xs.length) : cutV xs none (some (k : Int)) = xs.take k := by
  unfold cutV
  rw [HT.sIx_none, sIx_nat' _ _ _ h]
  simp
theorem cut_mid (xs : List V) (i k : Nat) (h1 : i ≤ k) (h2 : k ≤ xs.length) : cutV xs (some (i : Int)) (some (k : Int)) = (xs.drop i).take (k - i) := by
  unfold cutV
  rw [sIx_nat' _ _ _ h2, sIx_nat' _ _ _ (by omega)]
/-! ### what first_wrong tells -/
def badAt (xs : List V) (most i : Nat) (x : V) : Bool := decide (i = most) || !isNameB x || inV x (xs.take i)
/-- the first place from i on that is wrong -/
def wrongFrom (xs : List V) (most : Nat) : Nat → List V → Option Nat
  | _, [] => none
  | i, x :: r => if badAt xs most i x = true then some i else wrongFrom xs most (i + 1) r
def firstWrong (xs : List V) (most : Nat) : Option Nat := if xs = [] then some 0 else wrongFrom xs most 0 xs
def optV : Option Nat → V
  | none => .non
  | some i => .int (i : Int)
theorem wrong_step {xs : List V} {most i : Nat} {x : V} (h : xs[i]? = some x) : wrongFrom xs most i (xs.drop i) = if badAt xs most i x = true then some i else wrongFrom xs most (i + 1) (xs.drop (i + 1)) := by
  obtain ⟨h1, rfl⟩ := List.getElem?_eq_some_iff.mp h
  rw [List.drop_eq_getElem_cons h1]
  rfl
theorem wrong_end {xs : List V} {most i : Nat} (h : xs.length ≤ i) : wrongFrom xs most i (xs.drop i) = none := by
  rw [List.drop_eq_nil_of_le h]
  rfl
theorem name_flat {x : V} (h : isNameB x = true) : flatV x = true := by
  cases x <;> first | rfl | cases h
theorem all_flat {xs : List V} {k : Nat} (h : ∀ j x, j < k → xs[j]? = some x → isNameB x = true) : (xs.take k).all flatV = true := by
  rw [List.all_eq_true]
  intro x hx
  obtain ⟨j, hj, e⟩ := List.mem_iff_getElem.mp hx
  rw [List.length_take] at hj
  refine name_flat (h j x (by omega) ?_)
  rw [List.getElem_take] at e
  rw [← e]
  exact List.getElem?_eq_getElem (by omega)
/-- a thing that is a list or a tuple of any objects, or neither -/
inductive Thing (K : PySem.W.Frag) (H : Hp) : V → Option (List V) → Prop where
  | seq {a : Addr} {xs : List V} (hS : SqL K H a xs ∨ H a = some (.tup xs)) (b : Sqs K H (.ref a) true) (hi : ∀ x ∈ xs, Itm K H x) (hl : xs.length ≤ 100000) : Thing K H (.ref a) (some xs)
  | no {x : V} (b : Sqs K H x false) : Thing K H x none
/-- what is wrong with a thing as the names of folders -/
def wrongOf (o : Option (List V)) (most : Nat) : Option Nat := match o with
  | none => some 0
  | some xs => firstWrong xs most
def spFirstWrong (K : PySem.W.Frag) : Sp := fun vs H Q _ => ∃ (x : V) (o : Option (List V)) (most : Nat), vs = [x, .int (most : Int)] ∧ Thing K H x o ∧ ∀ H', Same H H' → Q (optV (wrongOf o most)) H'
theorem Itm.same {H H' : Hp} {x : V} (h : Itm K H x) (e : Same H H') : Itm K H' x := let ⟨t, a, b⟩ := h; ⟨t, TyX.same a e, b⟩
theorem Sqs.same {H H' : Hp} {x : V} {b : Bool} (h : Sqs K H x b) (e : Same H H') : Sqs K H' x b := let ⟨t, a, c⟩ := h; ⟨t, TyX.same a e, c⟩
theorem Thing.same {H H' : Hp} {x : V} {o : Option (List V)} (h : Thing K H x o) (e : Same H H') : Thing K H' x o := by
  cases h with
  | seq hS b hi hl => exact .seq (hS.imp (fun z => e.seq z) fun z => e _ _ z) (b.same e) (fun x hx => (hi x hx).same e) hl
  | no b => exact .no (b.same e)
end
section
variable {K : PySem.W.Frag}
/-- a dict comprehension over enumerate(xs), xs a list in the slot i -/
theorem dcT_enL {i : Nat} {a : Addr} {xs : List V} {g : TG} {tk tv : TE} {vs : List Nat} {σ : L2.St} {H : Hp} {Q : VK} (hv : σ[i]? = some (some (.ref a))) (hS : SqL K H a xs)
    (h : ∀ D, H D = none → ∃ Pv : Nat → Hp → Prop, Pv 0 (upd H D (.dT [])) ∧ (∀ k H', Pv k H' → SqL K H' a xs) ∧
      (∀ k x H' H2, k < xs.length → Pv k H' → YPair (fun j => some (.int (j : Nat))) (fun j => xs[j]?) k H' x H2 → g x (wipe σ vs) H2 fun σ2 H3 => wipe σ2 vs = wipe σ vs ∧
        tk σ2 H3 fun y H4 => tv σ2 H4 fun z H5 => ∃ kvs k' b, y = .ref b ∧ H5 b = some (.tup (k'.map kV)) ∧ H5 D = some (.dT kvs) ∧ kvs.length < sizeLine ∧ Pv (k + 1) (upd H5 D (.dT (putK kvs k' z)))) ∧
      ∀ H', Pv xs.length H' → Q (.ref D) H') : tDcT (iEnS K (tCons (tVar i) tNil)) g tk tv vs σ H Q :=
  ⟨_, hv, a, rfl, .inl ⟨xs, hS, fun D nD => by
    obtain ⟨Pv, h0, hG, hs, hd⟩ := h D nD
    exact dcT_it walk_enum Pv h0 (fun k H' _ p => hG k H' p) hs hd⟩⟩
end
/-! ### what is none wrong -/
theorem wrongFrom_none {xs : List V} {most : Nat} : ∀ (l : List V) (i : Nat), wrongFrom xs most i l = none → ∀ j x, l[j]? = some x → badAt xs most (i + j) x = false
  | [], i, _, j, x, h => by simp at h
  | y :: r, i, hw, j, x, h => by
    have e : (if badAt xs most i y = true then some i else wrongFrom xs most (i + 1) r) = none := hw
    by_cases hb : badAt xs most i y = true
    · rw [if_pos hb] at e
      cases e
    · rw [if_neg hb] at e
      cases j with
      | zero =>
        cases h
        simpa using hb
      | succ j =>
        have := wrongFrom_none r (i + 1) e j x (by simpa using h)
        rw [show i + (j + 1) = i + 1 + j by omega]
        exact this
theorem names_of {xs : List V} (h : ∀ (j : Nat) (x : V), xs[j]? = some x → isNameB x = true) : ∃ zs : List Str, xs = zs.map V.str ∧ ∀ z ∈ zs, isNameS z = true := by
  induction xs with
  | nil => exact ⟨[], rfl, fun _ z => nomatch z⟩
  | cons x r ih =>
    obtain ⟨zs, e, hz⟩ := ih fun j y hy => h (j + 1) y (by simpa using hy)
    have hx := h 0 x rfl
    cases x with
    | str z =>
      refine ⟨z :: zs, by rw [e]; rfl, fun y hy => ?_⟩
      rcases List.mem_cons.mp hy with rfl | hy
      · exact hx
      · exact hz y hy
    | _ => cases hx
/-- what is right: unlike names, not too many -/
theorem right_names {o : Option (List V)} {most : Nat} (h : wrongOf o most = none) : ∃ zs : List Str, o = some (zs.map V.str) ∧ zs ≠ [] ∧ (∀ z ∈ zs, isNameS z = true) ∧ zs.length ≤ most ∧ zs.Nodup := by
  cases o with
  | none => cases h
  | some xs =>
    have h : firstWrong xs most = none := h
    unfold firstWrong at h
    by_cases hn : xs = []
    · rw [if_pos hn] at h
      cases h
    · rw [if_neg hn] at h
      have hb := wrongFrom_none xs 0 h
      have hb : ∀ j x, xs[j]? = some x → badAt xs most j x = false := fun j x hx => by
        have := hb j x hx
        rwa [Nat.zero_add] at this
      obtain ⟨zs, e, hz⟩ := names_of fun j x hx => by
        have := hb j x hx
        simp [badAt] at this
        exact this.1.2
      refine ⟨zs, by rw [e], fun z => hn (by rw [e, z]; rfl), hz, ?_, ?_⟩
      · rcases Nat.lt_or_ge most zs.length with hlt | hge
        · have hx : xs[most]? = some (V.str zs[most]) := by rw [e, List.getElem?_map, List.getElem?_eq_getElem hlt]; rfl
          have := hb most _ hx
          simp [badAt] at this
        · exact hge
      · rw [List.nodup_iff_pairwise_ne, List.pairwise_iff_getElem]
        intro i j hi hj hij heq
        have hx : xs[j]? = some (V.str zs[j]) := by rw [e, List.getElem?_map, List.getElem?_eq_getElem hj]; rfl
        have := hb j _ hx
        simp [badAt] at this
        have h2 := this.2
        rw [e, ← List.map_take, inV_strs] at h2
        have h2 := of_decide_eq_false h2
        exact h2 (List.mem_iff_getElem.mpr ⟨i, by rw [List.length_take]; omega, by rw [List.getElem_take]; exact heq⟩)
end Bk

namespace Bk
open PySem PySem.Spec PyProof.Rows L2
/-! ### values that are tuples, one for each of some things -/
def Ats {α : Type} (H : Hp) (g : α → List V) (vs : List V) (xs : List α) : Prop := vs.length = xs.length ∧ ∀ (i : Nat) (v : V) (x : α), vs[i]? = some v → xs[i]? = some x → ∃ b, v = .ref b ∧ H b = some (.tup (g x))
section
variable {α : Type} {g : α → List V} {H H' : Hp} {vs ws : List V} {xs ys : List α}
theorem Ats.nil : Ats H g [] [] := ⟨rfl, fun i v x h => by simp at h⟩
theorem Ats.same (a : Ats H g vs xs) (e : Same H H') : Ats H' g vs xs := ⟨a.1, fun i v x h1 h2 => let ⟨b, e1, e2⟩ := a.2 i v x h1 h2; ⟨b, e1, e _ _ e2⟩⟩
theorem Ats.updL {D : Addr} {l : List V} {o : HO} (a : Ats H g vs xs) (hD : H D = some (.lst l)) : Ats (upd H D o) g vs xs := ⟨a.1, fun i v x h1 h2 => by
  obtain ⟨b, e1, e2⟩ := a.2 i v x h1 h2
  exact ⟨b, e1, by rw [upd_ne (ne_of e2 hD (fun z => nomatch z))]; exact e2⟩⟩
theorem Ats.append (a : Ats H g vs xs) (b : Ats H g ws ys) : Ats H g (vs ++ ws) (xs ++ ys) := by
  refine ⟨by rw [List.length_append, List.length_append, a.1, b.1], fun i v x h1 h2 => ?_⟩
  by_cases hi : i < vs.length
  · rw [List.getElem?_append_left hi] at h1
    rw [List.getElem?_append_left (by rw [← a.1]; exact hi)] at h2
    exact a.2 i v x h1 h2
  · rw [List.getElem?_append_right (by omega)] at h1
    rw [List.getElem?_append_right (by rw [← a.1]; omega), ← a.1] at h2
    exact b.2 _ v x h1 h2
theorem Ats.one {b : Addr} {x : α} (e : H b = some (.tup (g x))) : Ats H g [.ref b] [x] := ⟨rfl, fun i v y h1 h2 => by
  cases i with
  | zero =>
    cases h1
    cases h2
    exact ⟨b, rfl, e⟩
  | succ i => simp at h1⟩
theorem Ats.at (a : Ats H g vs xs) {i : Nat} {x : α} (h : xs[i]? = some x) : ∃ b, vs[i]? = some (.ref b) ∧ H b = some (.tup (g x)) := by
  have hi := (List.getElem?_eq_some_iff.mp h).1
  rw [← a.1] at hi
  obtain ⟨b, e1, e2⟩ := a.2 i _ x (List.getElem?_eq_getElem hi) h
  exact ⟨b, by rw [List.getElem?_eq_getElem hi, e1], e2⟩
end
/-! ### the rows of places, as choices makes them -/
def rowV (r : List Nat) : List V := r.map fun (k : Nat) => V.int (k : Int)
def lastOf (r : List Nat) : Nat := r.getLastD 0
def growRow (n : Nat) (r : List Nat) : List (List Nat) := (List.range' (lastOf r + 1) (n - (lastOf r + 1))).map fun k => r ++ [k]
def nextRows (n : Nat) (rows : List (List Nat)) : List (List Nat) := rows.flatMap (growRow n)
def rowsFrom (n : Nat) : Nat → List (List Nat) → List (List Nat)
  | 0, _ => []
  | f + 1, rows => rows ++ rowsFrom n f (nextRows n rows)
def firstRows (n : Nat) : List (List Nat) := (List.range n).map fun k => [k]
/-- all rows of places below n, shorter ones first -/
def lotRows (n : Nat) : List (List Nat) := rowsFrom n n (firstRows n)
/-- the lots of unlike names -/
def lotsOf (zs : List Str) : List (List Str) := (lotRows zs.length).map fun r => r.map fun k => zs.getD k Str.empty
structure RowOk (n k : Nat) (r : List Nat) : Prop where
  len : r.length = k + 1
  lt : ∀ x ∈ r, x < n
  last : k ≤ lastOf r
theorem RowOk.ne {n k : Nat} {r : List Nat} (h : RowOk n k r) : r ≠ [] := fun e => by
  have := h.len
  rw [e] at this
  simp at this
theorem lastOf_mem {r : List Nat} (h : r ≠ []) : lastOf r ∈ r := by
  unfold lastOf
  rw [List.getLastD_eq_getLast?, List.getLast?_eq_some_getLast h]
  exact List.getLast_mem h
theorem RowOk.lt_last {n k : Nat} {r : List Nat} (h : RowOk n k r) : lastOf r < n := h.lt _ (lastOf_mem h.ne)
theorem lastOf_snoc (r : List Nat) (k : Nat) : lastOf (r ++ [k]) = k := by
  unfold lastOf
  rw [List.getLastD_eq_getLast?, List.getLast?_append]
  rfl
theorem firstRows_ok {n : Nat} : ∀ r ∈ firstRows n, RowOk n 0 r := by
  intro r hr
  obtain ⟨k, hk, rfl⟩ := List.mem_map.mp hr
  have := List.mem_range.mp hk
  exact ⟨rfl, fun x hx => by rw [List.mem_singleton.mp hx]; exact this, Nat.zero_le _⟩
theorem nextRows_ok {n k : Nat} {rows : List (List Nat)} (h : ∀ r ∈ rows, RowOk n k r) : ∀ r ∈ nextRows n rows, RowOk n (k + 1) r := by
  intro r hr
  obtain ⟨r0, h0, hr⟩ := List.mem_flatMap.mp hr
  obtain ⟨j, hj, rfl⟩ := List.mem_map.mp hr
  obtain ⟨j1, j2⟩ := List.mem_range'_1.mp hj
  have o := h r0 h0
  have := o.last
  refine ⟨by rw [List.length_append, o.len]; rfl, fun x hx => ?_, by rw [lastOf_snoc]; omega⟩
  rcases List.mem_append.mp hx with hx | hx
  · exact o.lt x hx
  · rw [List.mem_singleton.mp hx]
    omega
theorem flatMap_len {α β : Type} {f : α → List β} {m : Nat} : ∀ {l : List α}, (∀ x ∈ l, (f x).length ≤ m) → (l.flatMap f).length ≤ l.length * m
  | [], _ => Nat.zero_le _
  | x :: r, h => by
    have ih := flatMap_len (l := r) fun y hy => h y (List.mem_cons_of_mem _ hy)
    have h1 := h x List.mem_cons_self
    rw [List.flatMap_cons, List.length_append, List.length_cons, Nat.add_mul]
    omega
theorem growRow_len {n : Nat} {r : List Nat} : (growRow n r).length ≤ n := by
  unfold growRow
  rw [List.length_map, List.length_range']
  omega
theorem nextRows_len {n : Nat} (rows : List (List Nat)) : (nextRows n rows).length ≤ rows.length * n := flatMap_len fun _ _ => growRow_len
theorem nextRows_snoc {n : Nat} {rows : List (List Nat)} {i : Nat} {r : List Nat} (h : rows[i]? = some r) : nextRows n (rows.take (i + 1)) = nextRows n (rows.take i) ++ growRow n r := by
  unfold nextRows
  rw [take_succ h, List.flatMap_append, List.flatMap_cons, List.flatMap_nil, List.append_nil]
theorem rowsFrom_nil (n : Nat) : ∀ f, rowsFrom n f [] = []
  | 0 => rfl
  | f + 1 => by
    show [] ++ rowsFrom n f (nextRows n []) = []
    exact rowsFrom_nil n f
theorem rowsFrom_ok {n : Nat} : ∀ (f k : Nat) (rows : List (List Nat)), (∀ r ∈ rows, RowOk n k r) → ∀ r ∈ rowsFrom n f rows, ∃ k', RowOk n k' r
  | 0, _, _, _, r, hr => by cases hr
  | f + 1, k, rows, h, r, hr => by
    rcases List.mem_append.mp (show r ∈ rows ++ rowsFrom n f (nextRows n rows) from hr) with hr | hr
    · exact ⟨k, h r hr⟩
    · exact rowsFrom_ok f (k + 1) _ (nextRows_ok h) r hr
theorem lotRows_ok {n : Nat} : ∀ r ∈ lotRows n, ∃ k, RowOk n k r := rowsFrom_ok n 0 _ firstRows_ok
theorem rowV_len (r : List Nat) : (rowV r).length = r.length := List.length_map ..
theorem at_last {r : List Nat} (h : r ≠ []) : atI (rowV r) (-1) = some (V.int (lastOf r : Int)) := by
  have hl : 0 < r.length := List.length_pos_iff.mpr h
  have e1 : ixN (rowV r).length (-1) = some (r.length - 1) := by
    unfold ixN
    rw [rowV_len, if_neg (by omega), if_pos (by omega)]
    congr 1
    omega
  unfold atI
  rw [e1]
  show (rowV r)[r.length - 1]? = _
  unfold rowV lastOf
  rw [List.getElem?_map, List.getLastD_eq_getLast?, List.getLast?_eq_getElem?, List.getElem?_eq_getElem (by omega)]
  rfl
theorem growRow_at {n : Nat} {r : List Nat} {j : Nat} (hj : j < n - (lastOf r + 1)) : (growRow n r)[j]? = some (r ++ [lastOf r + 1 + j]) := by
  unfold growRow
  rw [List.getElem?_map, List.getElem?_range' hj]
  simp
theorem growRow_length (n : Nat) (r : List Nat) : (growRow n r).length = n - (lastOf r + 1) := by
  unfold growRow
  rw [List.length_map, List.length_range']
/-! ### the rows of places of so many, as choices_of makes them -/
def sttK (k : Nat) (r : List Nat) : Nat := if 0 < k then lastOf r + 1 else 0
def growK (n k : Nat) (r : List Nat) : List (List Nat) := (List.range' (sttK k r) (n - sttK k r)).map fun j => r ++ [j]
def nextK (n k : Nat) (rows : List (List Nat)) : List (List Nat) := rows.flatMap (growK n k)
def rowsK (n : Nat) : Nat → List (List Nat)
  | 0 => [[]]
  | k + 1 => nextK n k (rowsK n k)
/-- a row of k places, ascending as far as it matters -/
def RowK (n k : Nat) (r : List Nat) : Prop := (k = 0 ∧ r = []) ∨ ∃ k', k = k' + 1 ∧ RowOk n k' r
theorem RowK.len {n k : Nat} {r : List Nat} (h : RowK n k r) : r.length = k := by
  rcases h with ⟨rfl, rfl⟩ | ⟨k', rfl, o⟩
  · rfl
  · exact o.len
theorem RowK.lt {n k : Nat} {r : List Nat} (h : RowK n k r) : ∀ x ∈ r, x < n := by
  rcases h with ⟨rfl, rfl⟩ | ⟨k', rfl, o⟩
  · intro x hx
    cases hx
  · exact o.lt
theorem sttK_le {n k : Nat} {r : List Nat} (h : RowK n k r) : sttK k r ≤ n := by
  unfold sttK
  rcases h with ⟨rfl, rfl⟩ | ⟨k', rfl, o⟩
  · rw [if_neg (by omega)]
    exact Nat.zero_le _
  · rw [if_pos (by omega)]
    exact o.lt_last
theorem nextK_ok {n k : Nat} {rows : List (List Nat)} (h : ∀ r ∈ rows, RowK n k r) : ∀ r ∈ nextK n k rows, RowK n (k + 1) r := by
  intro r hr
  obtain ⟨r0, h0, hr⟩ := List.mem_flatMap.mp hr
  obtain ⟨j, hj, rfl⟩ := List.mem_map.mp hr
  obtain ⟨j1, j2⟩ := List.mem_range'_1.mp hj
  have o := h r0 h0
  have hs := sttK_le o
  refine .inr ⟨k, rfl, by rw [List.length_append, o.len]; rfl, fun x hx => ?_, ?_⟩
  · rcases List.mem_append.mp hx with hx | hx
    · exact o.lt x hx
    · rw [List.mem_singleton.mp hx]
      omega
  · rw [lastOf_snoc]
    rcases o with ⟨rfl, rfl⟩ | ⟨k', rfl, o⟩
    · exact Nat.zero_le _
    · have := o.last
      unfold sttK at j1
      rw [if_pos (by omega)] at j1
      omega
theorem rowsK_ok (n : Nat) : ∀ k, ∀ r ∈ rowsK n k, RowK n k r
  | 0 => fun r hr => .inl ⟨rfl, List.mem_singleton.mp hr⟩
  | k + 1 => nextK_ok (rowsK_ok n k)
theorem nextK_snoc {n k : Nat} {rows : List (List Nat)} {i : Nat} {r : List Nat} (h : rows[i]? = some r) : nextK n k (rows.take (i + 1)) = nextK n k (rows.take i) ++ growK n k r := by
  unfold nextK
  rw [take_succ h, List.flatMap_append, List.flatMap_cons, List.flatMap_nil, List.append_nil]
theorem growK_at {n k : Nat} {r : List Nat} {j : Nat} (hj : j < n - sttK k r) : (growK n k r)[j]? = some (r ++ [sttK k r + j]) := by
  unfold growK
  rw [List.getElem?_map, List.getElem?_range' hj]
  simp
theorem growK_length (n k : Nat) (r : List Nat) : (growK n k r).length = n - sttK k r := by
  unfold growK
  rw [List.length_map, List.length_range']
/-! how many there are -/
def potOf (n k : Nat) (rows : List (List Nat)) : Nat := (rows.map fun r => 2 ^ (n - sttK k r)).sum
theorem pot_range (n : Nat) : ∀ (m s : Nat), m + s = n → ((List.range' s m).map fun j => 2 ^ (n - (j + 1))).sum + 1 = 2 ^ m
  | 0, _, _ => rfl
  | m + 1, s, h => by
    have ih := pot_range n m (s + 1) (by omega)
    rw [List.range'_succ, List.map_cons, List.sum_cons, Nat.add_assoc, ih, show n - (s + 1) = m by omega, Nat.pow_succ]
    omega
theorem pot_grow {n k : Nat} {r : List Nat} (h : sttK k r ≤ n) : potOf n (k + 1) (growK n k r) + 1 = 2 ^ (n - sttK k r) := by
  unfold potOf growK
  rw [List.map_map]
  have e : (List.map ((fun r => 2 ^ (n - sttK (k + 1) r)) ∘ fun j => r ++ [j]) (List.range' (sttK k r) (n - sttK k r))) = ((List.range' (sttK k r) (n - sttK k r)).map fun j => 2 ^ (n - (j + 1))) := by
    apply List.map_congr_left
    intro j _
    show 2 ^ (n - sttK (k + 1) (r ++ [j])) = _
    unfold sttK
    rw [if_pos (by omega), lastOf_snoc]
  rw [e]
  exact pot_range n _ _ (by omega)
theorem pot_append (n k : Nat) (a b : List (List Nat)) : potOf n k (a ++ b) = potOf n k a + potOf n k b := by
  unfold potOf
  rw [List.map_append, List.sum_append]
theorem pot_next {n k : Nat} : ∀ {rows : List (List Nat)}, (∀ r ∈ rows, RowK n k r) → potOf n (k + 1) (nextK n k rows) ≤ potOf n k rows
  | [], _ => Nat.le_refl _
  | r :: t, h => by
    have ih := pot_next (rows := t) fun x hx => h x (List.mem_cons_of_mem _ hx)
    have g := pot_grow (sttK_le (h r List.mem_cons_self))
    have e : nextK n k (r :: t) = growK n k r ++ nextK n k t := List.flatMap_cons ..
    have e2 : potOf n k (r :: t) = 2 ^ (n - sttK k r) + potOf n k t := List.sum_cons ..
    rw [e, pot_append, e2]
    omega
theorem pot_rows (n : Nat) : ∀ k, potOf n k (rowsK n k) ≤ 2 ^ n
  | 0 => by
    show (2 ^ (n - sttK 0 []) + 0) ≤ _
    unfold sttK
    rw [if_neg (by omega)]
    exact Nat.le_refl _
  | k + 1 => Nat.le_trans (pot_next (rowsK_ok n k)) (pot_rows n k)
theorem len_pot (n k : Nat) : ∀ rows : List (List Nat), rows.length ≤ potOf n k rows
  | [] => Nat.zero_le _
  | r :: t => by
    have ih := len_pot n k t
    have e2 : potOf n k (r :: t) = 2 ^ (n - sttK k r) + potOf n k t := List.sum_cons ..
    have : 0 < 2 ^ (n - sttK k r) := Nat.pow_pos (by omega)
    rw [e2, List.length_cons]
    omega
theorem rowsK_len (n k : Nat) : (rowsK n k).length ≤ 2 ^ n := Nat.le_trans (len_pot n k _) (pot_rows n k)
theorem take_pot {n k : Nat} (rows : List (List Nat)) (i : Nat) : potOf n k (rows.take i) ≤ potOf n k rows := by
  have h := pot_append n k (rows.take i) (rows.drop i)
  rw [List.take_append_drop] at h
  omega
theorem nextK_take_len {n k : Nat} (i : Nat) : (nextK n k ((rowsK n k).take i)).length ≤ 2 ^ n :=
  Nat.le_trans (len_pot n (k + 1) _) (Nat.le_trans (pot_next fun r hr => rowsK_ok n k r (List.mem_of_mem_take hr)) (Nat.le_trans (take_pot _ i) (pot_rows n k)))
/-! all of them are the rows of all lots -/
theorem rowsK_one (n : Nat) : rowsK n 1 = firstRows n := by
  show nextK n 0 [[]] = _
  unfold nextK growK firstRows sttK
  rw [List.flatMap_cons, List.flatMap_nil, List.append_nil, if_neg (by omega), Nat.sub_zero, List.range_eq_range']
  rfl
theorem rowsK_two (n k : Nat) : rowsK n (k + 2) = nextRows n (rowsK n (k + 1)) := by
  show nextK n (k + 1) _ = _
  have e : growK n (k + 1) = growRow n := by
    funext r
    unfold growK growRow sttK
    rw [if_pos (by omega)]
  unfold nextK nextRows
  rw [e]
theorem rowsFrom_K (n : Nat) : ∀ f k, rowsFrom n f (rowsK n (k + 1)) = (List.range' (k + 1) f).flatMap (rowsK n)
  | 0, _ => rfl
  | f + 1, k => by
    show rowsK n (k + 1) ++ rowsFrom n f (nextRows n (rowsK n (k + 1))) = _
    rw [← rowsK_two, rowsFrom_K n f (k + 1), List.range'_succ, List.flatMap_cons]
theorem lotRows_K (n : Nat) : lotRows n = (List.range' 1 n).flatMap (rowsK n) := by
  unfold lotRows
  rw [← rowsK_one, rowsFrom_K]
theorem lotRows_few (n : Nat) : (lotRows n).length ≤ n * 2 ^ n := by
  rw [lotRows_K]
  have h := flatMap_len (f := rowsK n) (m := 2 ^ n) (l := List.range' 1 n) fun x _ => rowsK_len n x
  rw [List.length_range'] at h
  exact h
/-- rows that lie in range tell the choices of so many of the things, which lie in the heap -/
def subsOf (xs : List V) (rows : List (List Nat)) : List (List V) := rows.map fun r => r.map fun k => xs.getD k V.non
def spChoicesOf (K : PySem.W.Frag) : Sp := fun vs H Q _ => ∃ (a : Addr) (xs : List V) (m : Nat), vs = [.ref a, .int (m : Int)] ∧ (SqL K H a xs ∨ SqT K H a xs) ∧ xs.length ≤ 12 ∧ m ≤ 12 ∧
  ∀ (D : Addr) (ws : List V) (H' : Hp), H D = none → Same H H' → H' D = some (.lst ws) → Ats H' (fun l => l) ws (subsOf xs (rowsK xs.length m)) → Q (.ref D) H'
def spChoices (K : PySem.W.Frag) : Sp := fun vs H Q _ => ∃ (a : Addr) (xs : List V), vs = [.ref a] ∧ (SqL K H a xs ∨ SqT K H a xs) ∧ xs.length ≤ 12 ∧
  ∀ (D : Addr) (ws : List V) (H' : Hp), H D = none → Same H H' → H' D = some (.lst ws) → Ats H' (fun l => l) ws (subsOf xs (lotRows xs.length)) → Q (.ref D) H'
theorem subsOf_map {rows : List (List Nat)} (zs : List Str) (h : ∀ r ∈ rows, ∀ x ∈ r, x < zs.length) : subsOf (zs.map V.str) rows = (rows.map fun r => r.map fun k => zs.getD k Str.empty).map fun l => l.map V.str := by
  unfold subsOf
  rw [List.map_map]
  apply List.map_congr_left
  intro r hr
  show _ = (r.map fun k => zs.getD k Str.empty).map V.str
  rw [List.map_map]
  apply List.map_congr_left
  intro k hk
  have hkn := h r hr k hk
  show (zs.map V.str).getD k V.non = V.str (zs.getD k Str.empty)
  rw [List.getD_eq_getElem?_getD, List.getD_eq_getElem?_getD, List.getElem?_map, List.getElem?_eq_getElem hkn]
  rfl
theorem Ats.ofMap {α β : Type} {H : Hp} {g : β → List V} {f : α → β} {vs : List V} {xs : List α} (a : Ats H g vs (xs.map f)) : Ats H (fun x => g (f x)) vs xs := ⟨by rw [a.1, List.length_map], fun i v x h1 h2 => a.2 i v (f x) h1 (by rw [List.getElem?_map, h2]; rfl)⟩
/-- what choices tells of names are the lots -/
theorem lots_of_choices {H : Hp} {ws : List V} {zs : List Str} (a : Ats H (fun l => l) ws (subsOf (zs.map V.str) (lotRows (zs.map V.str).length))) : Ats H (fun l => l.map V.str) ws (lotsOf zs) := by
  rw [List.length_map, subsOf_map zs (fun r hr => (lotRows_ok r hr).choose_spec.lt)] at a
  exact a.ofMap
/-! ### the lots of a chain -/
def longRows (zs : List Str) (l : Nat) : List (List Str) := (List.range (zs.length - l)).map fun i => (zs.drop i).take (l + 1)
def chainLots (zs : List Str) : List (List Str) := (List.range zs.length).flatMap (longRows zs)
theorem longRows_len (zs : List Str) (l : Nat) : (longRows zs l).length = zs.length - l := by
  unfold longRows
  rw [List.length_map, List.length_range]
theorem longRows_at {zs : List Str} {l j : Nat} (h : j < zs.length - l) : (longRows zs l)[j]? = some ((zs.drop j).take (l + 1)) := by
  unfold longRows
  rw [List.getElem?_map, List.getElem?_range h]
  rfl
def spNeigh : Sp := fun vs H Q _ => ∃ (a : Addr) (zs : List Str), vs = [.ref a] ∧ H a = some (.tup (zs.map V.str)) ∧ zs.length ≤ 100 ∧
  ∀ (D : Addr) (ws : List V) (H' : Hp), H D = none → Same H H' → H' D = some (.lst ws) → Ats H' (fun l => l.map V.str) ws (chainLots zs) → Q (.ref D) H'
end Bk

namespace Bk
open PySem PySem.Spec PyProof.Rows L2
/-! ### an own error with one field -/
def spExcInit (C : Addr) (f : Str) : Sp := fun vs H Q _ => ∃ (a : Addr) (v : V), vs = [.ref a, v] ∧ H a = some (exo a C none) ∧ ∀ dx, H dx = none → dx ≠ a → Q .non (upd (upd H dx (exd dx [(f, v)])) a (exo a C (some dx)))
/-- what the top has written of the error's class C, whose __init__ stands at fI and stores f -/
structure ExT (K : PySem.W.Frag) (mg : Str → Option Value) (x : Str) (C fI : Addr) (f : Str) : Prop where
  g : mg x = some (.ref C)
  o : OexC K C
  xf : XfC K C
  noF : PySem.W.findIn K (.ref C) f = some none
  iC : PySem.W.findIn K (.ref C) "__init__" = some (some (.ref fI))
  tI : PySem.W.typeIn K (.ref fI) = some (.type "function")
  te : PySem.W.exmOne K (.ref C) (.ref C) = some true
/-- the heap behind the making of an error that carries v under f in its dict d -/
def ExcAt (H : Hp) (d : Addr) (f : Str) (v : V) (H' : Hp) : Prop := H d = none ∧ Same H H' ∧ H' d = some (.xd [(f, v)])
/-- raise C(e): the reading, made easy -/
theorem mkO_of {C : Addr} {f : Str} {ta : TA} {σ : L2.St} {H : Hp} {Q : XK} {v : V} {H1 : Hp} (ha : ∀ R : List V → Hp → Prop, R [v] H1 → ta σ H R) (h : ∀ d H', ExcAt H1 d f v H' → Q (.ref C) (some d) H') : tMkO C (spExcInit C f) [] ta σ H Q := by
  refine ha _ ⟨show 1 ≤ 1000 by decide, fun a na => ⟨a, v, rfl, upd_same, fun dx ndx hne => ⟨rfl, dx, [(f, v)], upd_same, ?_, ?_, ?_⟩⟩⟩
  · rw [upd_ne hne, upd_same]
  · rw [upd_ne hne] at ndx
    exact ndx
  · rw [upd_ne hne] at ndx
    refine h dx _ ⟨ndx, fun b o e => ?_, upd_same⟩
    have nb : b ≠ dx := ne_of_none e ndx
    have na' : b ≠ a := ne_of_none e na
    rw [upd_ne nb, del_ne na', upd_ne na', upd_ne nb, upd_ne na']
    exact e
/-! ### Folders as an object -/
def placesOf (ls : List (List Str)) : List (List Key × V) := ls.zipIdx.foldl (fun acc (p : List Str × Nat) => putK acc (p.1.map Sum.inr) (V.int (p.2 : Int))) []
theorem places_snoc {ls : List (List Str)} {i : Nat} {l : List Str} (h : ls[i]? = some l) : placesOf (ls.take (i + 1)) = putK (placesOf (ls.take i)) (l.map Sum.inr) (V.int (i : Int)) := by
  have hi := (List.getElem?_eq_some_iff.mp h).1
  unfold placesOf
  rw [take_succ h, List.zipIdx_append, List.foldl_append]
  have e : (ls.take i).length = i := by rw [List.length_take]; omega
  rw [e, Nat.zero_add]
  rfl
theorem places_len : ∀ ls : List (List Str), (placesOf ls).length ≤ ls.length := by
  intro ls
  have h : ∀ (l : List (List Str × Nat)) (acc : List (List Key × V)), (l.foldl (fun acc (p : List Str × Nat) => putK acc (p.1.map Sum.inr) (V.int (p.2 : Int))) acc).length ≤ acc.length + l.length := by
    intro l
    induction l with
    | nil => intro acc; exact Nat.le_refl _
    | cons x r ih =>
      intro acc
      have h1 := ih (putK acc (x.1.map Sum.inr) (V.int (x.2 : Int)))
      have h2 := length_putK acc (x.1.map Sum.inr) (V.int (x.2 : Int))
      show (r.foldl _ (putK acc (x.1.map Sum.inr) (V.int (x.2 : Int)))).length ≤ acc.length + (r.length + 1)
      omega
  have := h ls.zipIdx []
  rw [List.length_zipIdx] at this
  simpa [placesOf] using this
def foldersF (t pd : Addr) (ch : Bool) : List (Str × V) := [("names", .ref t), ("chain", .bl ch), ("places", .ref pd)]
def lotsFor (ch : Bool) (zs : List Str) : List (List Str) := if ch then chainLots zs else lotsOf zs
def mostFor (ch : Bool) : Nat := if ch then 12 else 5
/-- Folders of the names zs stand at x -/
def FoldersAt (C : Addr) (H : Hp) (x : Addr) (zs : List Str) (ch : Bool) : Prop := ∃ dx t pd, H x = some (.ins C dx (foldersF t pd ch)) ∧ H t = some (.tup (zs.map V.str)) ∧ H pd = some (.dT (placesOf (lotsFor ch zs)))
def spFolders (K : PySem.W.Frag) (C CB : Addr) : Sp := fun vs H Q E => ∃ (x dx : Addr) (nm : V) (o : Option (List V)) (ch : Bool), vs = [.ref x, nm, .bl ch] ∧ H x = some (.ins C dx []) ∧ Thing K H nm o ∧
  (∀ i d H', wrongOf o (mostFor ch) = some i → ExcAt H d "index" (.int (i : Int)) H' → E (.ref CB) (some d) H') ∧
  (∀ zs H', wrongOf o (mostFor ch) = none → o = some (zs.map V.str) → zs.Nodup → FoldersAt C H' x zs ch → (∀ b u, b ≠ x → H b = some u → H' b = some u) → Q .non H')
structure FolT (K : PySem.W.Frag) (mg : Str → Option Value) (C fI : Addr) : Prop where
  g : mg "Folders" = some (.ref C)
  cl : Cls K C
  nN : NoAttr K C "names"
  nC : NoAttr K C "chain"
  nP : NoAttr K C "places"
  make : Mk K C fI
theorem put1 (v : V) : putF "names" v [] = ([("names", v)] : List (Str × V)) := rfl
theorem put2 (v c : V) : putF "chain" c ([("names", v)] : List (Str × V)) = ([("names", v), ("chain", c)] : List (Str × V)) := by
  have h : ¬ (("names" : Str) = "chain") := by decide +kernel
  simp [putF, h]
theorem put3 (v c p : V) : putF "places" p ([("names", v), ("chain", c)] : List (Str × V)) = ([("names", v), ("chain", c), ("places", p)] : List (Str × V)) := by
  have h : ¬ (("names" : Str) = "places") := by decide +kernel
  have h2 : ¬ (("chain" : Str) = "places") := by decide +kernel
  simp [putF, h, h2]
theorem look_n2 (t : Addr) (c : V) : List.lookup ("names" : Str) ([("names", .ref t), ("chain", c)] : List (Str × V)) = some (.ref t) := by
  simp [List.lookup]
theorem look_names (t pd : Addr) (ch : Bool) : (foldersF t pd ch).lookup ("names" : Str) = some (.ref t) := by
  show List.lookup ("names" : Str) [(("names" : Str), V.ref t), ("chain", .bl ch), ("places", .ref pd)] = _
  simp [List.lookup]
/-- all but the object at x stays -/
def But (x : Addr) (H H' : Hp) : Prop := ∀ b u, b ≠ x → H b = some u → H' b = some u
theorem But.trans {x : Addr} {H H1 H2 : Hp} (a : But x H H1) (b : But x H1 H2) : But x H H2 := fun c u n e => b c u n (a c u n e)
theorem But.same {x : Addr} {H H' : Hp} (a : Same H H') : But x H H' := fun c u _ e => a c u e
theorem But.upd {x : Addr} {H : Hp} {o : HO} : But x H (L2.upd H x o) := fun c u n e => by rw [upd_ne n]; exact e
theorem rows_few : ∀ n, n < 6 → (lotRows n).length ≤ 31 := by decide +kernel
theorem lots_few {ch : Bool} {zs : List Str} (h : zs.length ≤ mostFor ch) : (lotsFor ch zs).length ≤ 2000 := by
  cases ch with
  | true =>
    have h : zs.length ≤ 12 := h
    have := flatMap_len (f := longRows zs) (m := 100) (l := List.range zs.length) fun x _ => by rw [longRows_len]; omega
    rw [List.length_range] at this
    show (chainLots zs).length ≤ 2000
    unfold chainLots
    omega
  | false =>
    have h : zs.length ≤ 5 := h
    have := rows_few zs.length (by omega)
    show (lotsOf zs).length ≤ 2000
    unfold lotsOf
    rw [List.length_map]
    omega
end Bk

namespace Bk
open PySem PySem.Spec PyProof.Rows L2
section
variable {K : PySem.W.Frag} {H H' : Hp}
/-! ### data: None, truth values, ints, texts, lists and tuples of these -/
mutual
theorem Dp.sm (e : Same H H') : ∀ (d : PyData) (v : V), Dp K H v d → Dp K H' v d
  | _, _, .non => .non
  | _, _, .bl b => .bl b
  | _, _, .int i => .int i
  | _, _, .str x => .str x
  | .list ds, _, .lst h a => .lst (e.seq h) (DpAll.sm e ds _ a)
  | .tuple ds, _, .tup h a => .tup (Same.sqt e h) (DpAll.sm e ds _ a)
theorem DpAll.sm (e : Same H H') : ∀ (ds : List PyData) (vs : List V), DpAll K H vs ds → DpAll K H' vs ds
  | [], _, .nil => .nil
  | d :: ds, _, .cons a r => .cons (Dp.sm e d _ a) (DpAll.sm e ds _ r)
end
theorem DpAll.len : ∀ {vs : List V} {ds : List PyData}, DpAll K H vs ds → vs.length = ds.length
  | _, _, .nil => rfl
  | _, _, .cons _ r => congrArg (· + 1) (DpAll.len r)
theorem DpAll.get : ∀ {vs : List V} {ds : List PyData}, DpAll K H vs ds → ∀ {i : Nat} {v : V}, vs[i]? = some v → ∃ d, ds[i]? = some d ∧ Dp K H v d
  | _, _, .nil, i, v, h => by simp at h
  | _, _, .cons a r, 0, v, h => by
    cases h
    exact ⟨_, rfl, a⟩
  | _, _, .cons a r, i + 1, v, h => DpAll.get r (by simpa using h)
theorem tyx_l {a : Addr} {xs : List V} (h : SqL K H a xs) : TyX K H (.ref a) (.type "list") := by
  rcases h with (h | ⟨o, h⟩) | ⟨o, its, n, h, c, _⟩
  · exact .base (.lst h)
  · exact .base (.frz h)
  · exact .kList h c
theorem tyx_t {a : Addr} {xs : List V} (h : SqT K H a xs) : TyX K H (.ref a) (.type "tuple") := by
  rcases h with (h | ⟨o, h⟩) | ⟨o, its, n, h, c, _⟩
  · exact .base (.tup h)
  · exact .fTuple h
  · exact .kTuple h c
/-- the kind of a piece of data -/
def kindD : PyData → String
  | .none => "NoneType"
  | .bool _ => "bool"
  | .int _ => "int"
  | .str _ => "str"
  | .list _ => "list"
  | .tuple _ => "tuple"
  | .dict _ => "dict"
theorem tyx_d {v : V} {d : PyData} (h : Dp K H v d) : TyX K H v (.type (kindD d)) := by
  cases h with
  | non => exact .base .non
  | bl b => exact .base (.bl b)
  | int i => exact .base (.int i)
  | str x => exact .base (.str x)
  | lst h _ => exact tyx_l h
  | tup h _ => exact tyx_t h
theorem depth_mem : ∀ {ds : List PyData} {d : PyData}, d ∈ ds → d.depth ≤ PyData.depthAll ds
  | x :: r, d, h => by
    have e : PyData.depthAll (x :: r) = max (PyData.depth x) (PyData.depthAll r) := by simp [PyData.depthAll]
    rw [e]
    rcases List.mem_cons.mp h with rfl | h
    · exact Nat.le_max_left _ _
    · exact Nat.le_trans (depth_mem h) (Nat.le_max_right _ _)
mutual
/-- the greatest length of a list or tuple within -/
def wide : PyData → Nat
  | .list xs => max xs.length (wideAll xs)
  | .tuple xs => max xs.length (wideAll xs)
  | _ => 0
def wideAll : List PyData → Nat
  | [] => 0
  | x :: r => max (wide x) (wideAll r)
end
theorem wide_mem : ∀ {ds : List PyData} {d : PyData}, d ∈ ds → wide d ≤ wideAll ds
  | x :: r, d, h => by
    have e : wideAll (x :: r) = max (wide x) (wideAll r) := by simp [wideAll]
    rw [e]
    rcases List.mem_cons.mp h with rfl | h
    · exact Nat.le_max_left _ _
    · exact Nat.le_trans (wide_mem h) (Nat.le_max_right _ _)
/-- both read as one piece of data: they are the same -/
def spSame (K : PySem.W.Frag) : Nat → Sp
  | 0 => fun _ _ _ _ => False
  | n + 1 => fun vs H Q _ => ∃ (x y : V) (d : PyData), vs = [x, y] ∧ Dp K H x d ∧ Dp K H y d ∧ d.depth ≤ n ∧ wide d ≤ 90000 ∧ ∀ H', Same H H' → Q (.bl true) H'
end
section
variable {P : Program} {w : World} {K : PySem.W.Frag} {mg : Str → Option Value} {base : Heap}
theorem ok_never {CX : CXT} {k : Nat} {f : Addr} {fd : FuncData} {ps : List Str} : FnOk P w K mg base CX k f fd ps (fun _ _ _ _ => False) := ⟨fun _ _ _ _ z => z.elim, fun _ _ _ _ _ _ _ _ _ _ _ _ _ z => z.elim⟩
end
section
variable {K : PySem.W.Frag}
theorem walk_zipT {a b : Addr} {xs ys : List V} {n : Nat} (hn : n = min xs.length ys.length) : Walk (RZ.ItzT K a b) n (fun H => SqT K H a xs ∧ SqT K H b ys) (YPair (fun i => xs[i]?) (fun i => ys[i]?)) := by
  subst hn
  refine ⟨fun i _ hi q => ?_, fun _ q => ⟨xs, ys, q.1, q.2, by omega⟩, fun i H v H' _ q y => ?_⟩
  · have h1 : i < xs.length := by omega
    have h2 : i < ys.length := by omega
    exact ⟨xs, ys, xs[i], ys[i], q.1, q.2, by simp [h1], by simp [h2]⟩
  · obtain ⟨T, x, z, h1, h2, h3, h4, h5⟩ := y
    exact ⟨T, x, z, h1, h2, h3, h4 xs q.1, h5 ys q.2⟩
/-- a comprehension over zip(x, y), x and y both lists or both tuples of one length -/
theorem lcZ {i j : Nat} {a b : Addr} {xs ys : List V} {g : TG} {tt : TT} {te : TE} {vs : List Nat} {σ : L2.St} {H : Hp} {Q : VK} (hv1 : σ[i]? = some (some (.ref a))) (hv2 : σ[j]? = some (some (.ref b)))
    (hS : (SqL K H a xs ∧ SqL K H b ys) ∨ (SqT K H a xs ∧ SqT K H b ys)) (hl : xs.length = ys.length)
    (h : ∀ D, H D = none → ∃ Pv : Nat → Hp → Prop, Pv 0 (upd H D (.lst [])) ∧ (∀ k H', Pv k H' → Same H H') ∧
      (∀ k v H' H2, k < xs.length → Pv k H' → YPair (fun i => xs[i]?) (fun i => ys[i]?) k H' v H2 → g v (wipe σ vs) H2 fun σ2 H3 => wipe σ2 vs = wipe σ vs ∧ tt σ2 H3 fun b H4 =>
        if b = true then te σ2 H4 fun y H5 => ∃ acc, H5 D = some (.lst acc) ∧ acc.length < sizeLine ∧ Pv (k + 1) (upd H5 D (.lst (acc ++ [y]))) else Pv (k + 1) H4) ∧
      ∀ H', Pv xs.length H' → Q (.ref D) H') : tLc (RZ.iZipA K (tCons (tVar i) (tCons (tVar j) tNil))) g tt te vs σ H Q := by
  have hm : xs.length = min xs.length ys.length := by omega
  refine ⟨_, hv1, _, hv2, a, b, xs, ys, rfl, ?_⟩
  rcases hS with ⟨h1, h2⟩ | ⟨h1, h2⟩
  · refine .inl ⟨h1, h2, fun D nD => ?_⟩
    obtain ⟨Pv, p0, ps, pt, pd⟩ := h D nD
    exact lc_it (walk_zip hm) Pv p0 (fun k H' _ p => ⟨(ps k H' p).seq h1, (ps k H' p).seq h2⟩) pt pd
  · refine .inr ⟨h1, h2, fun D nD => ?_⟩
    obtain ⟨Pv, p0, ps, pt, pd⟩ := h D nD
    exact lc_it (walk_zipT hm) Pv p0 (fun k H' _ p => ⟨Same.sqt (ps k H' p) h1, Same.sqt (ps k H' p) h2⟩) pt pd
end
section
variable {K : PySem.W.Frag} {H : Hp} {σ : L2.St} {i : Nat} {v : V} {R : VK}
theorem isi1 {c : String} {t : Value} {k : Bool} (hv : σ[i]? = some (some v)) (tv : TyX K H v t) (hk : PySem.W.kitOne K t (.type c) = some k) (r : R (.bl k) H) : tCB (rIsi K) (tCons (tVar i) (tCons (tC (.ty c)) tNil)) σ H R :=
  ⟨_, hv, v, _, t, _, k, rfl, .ty c, tv, hk, r⟩
theorem isi2 {c1 c2 : String} {t : Value} {k : Bool} (hv : σ[i]? = some (some v)) (tv : TyX K H v t) (hk : PySem.W.kitAny K t [.type c1, .type c2] = some k) (r : ∀ H1, Same H H1 → R (.bl k) H1) :
    tCB (rIsiT K) (tCons (tVar i) (tCons (tTup (tCons (tC (.ty c1)) (tCons (tC (.ty c2)) tNil))) tNil)) σ H R :=
  ⟨_, hv, by show 2 ≤ sizeLine; decide, fun p np => ⟨v, p, _, t, _, k, rfl, upd_same, .cons (.ty c1) (.cons (.ty c2) .nil), TyX.same tv (same_upd np), hk, r _ (same_upd np)⟩⟩
theorem isi3 {c1 c2 c3 : String} {t : Value} {k : Bool} (hv : σ[i]? = some (some v)) (tv : TyX K H v t) (hk : PySem.W.kitAny K t [.type c1, .type c2, .type c3] = some k) (r : ∀ H1, Same H H1 → R (.bl k) H1) :
    tCB (rIsiT K) (tCons (tVar i) (tCons (tTup (tCons (tC (.ty c1)) (tCons (tC (.ty c2)) (tCons (tC (.ty c3)) tNil)))) tNil)) σ H R :=
  ⟨_, hv, by show 3 ≤ sizeLine; decide, fun p np => ⟨v, p, _, t, _, k, rfl, upd_same, .cons (.ty c1) (.cons (.ty c2) (.cons (.ty c3) .nil)), TyX.same tv (same_upd np), hk, r _ (same_upd np)⟩⟩
theorem kit2 {k c1 c2 : String} {b1 b2 : Bool} (h1 : kitB k c1 = some b1) (h2 : kitB k c2 = some b2) : PySem.W.kitAny K (.type k) [.type c1, .type c2] = some (b1 || b2) := by
  refine kitAny_cons (kit_ty h1) (fun e => ?_) (fun e => by rw [e]; rfl)
  rw [e, Bool.false_or]
  exact kitAny_cons (kit_ty h2) (fun e => by rw [e]; exact kitAny_nil) (fun e => e)
theorem kit3 {k c1 c2 c3 : String} {b1 b2 b3 : Bool} (h1 : kitB k c1 = some b1) (h2 : kitB k c2 = some b2) (h3 : kitB k c3 = some b3) : PySem.W.kitAny K (.type k) [.type c1, .type c2, .type c3] = some (b1 || (b2 || b3)) := by
  refine kitAny_cons (kit_ty h1) (fun e => ?_) (fun e => by rw [e]; rfl)
  rw [e, Bool.false_or]
  exact kit2 h2 h3
end
def isL : PyData → Bool
  | .list _ => true
  | _ => false
theorem kd_L : ∀ d : PyData, kitB (kindD d) "list" = some (isL d)
  | .none => (by decide +kernel : kitB "NoneType" "list" = some false)
  | .bool _ => (by decide +kernel : kitB "bool" "list" = some false)
  | .int _ => (by decide +kernel : kitB "int" "list" = some false)
  | .str _ => (by decide +kernel : kitB "str" "list" = some false)
  | .list _ => (by decide +kernel : kitB "list" "list" = some true)
  | .tuple _ => (by decide +kernel : kitB "tuple" "list" = some false)
  | .dict _ => (by decide +kernel : kitB "dict" "list" = some false)
def isT : PyData → Bool
  | .tuple _ => true
  | _ => false
theorem kd_T : ∀ d : PyData, kitB (kindD d) "tuple" = some (isT d)
  | .none => (by decide +kernel : kitB "NoneType" "tuple" = some false)
  | .bool _ => (by decide +kernel : kitB "bool" "tuple" = some false)
  | .int _ => (by decide +kernel : kitB "int" "tuple" = some false)
  | .str _ => (by decide +kernel : kitB "str" "tuple" = some false)
  | .list _ => (by decide +kernel : kitB "list" "tuple" = some false)
  | .tuple _ => (by decide +kernel : kitB "tuple" "tuple" = some true)
  | .dict _ => (by decide +kernel : kitB "dict" "tuple" = some false)
def isI : PyData → Bool
  | .bool _ => true
  | .int _ => true
  | _ => false
theorem kd_I : ∀ d : PyData, kitB (kindD d) "int" = some (isI d)
  | .none => (by decide +kernel : kitB "NoneType" "int" = some false)
  | .bool _ => (by decide +kernel : kitB "bool" "int" = some true)
  | .int _ => (by decide +kernel : kitB "int" "int" = some true)
  | .str _ => (by decide +kernel : kitB "str" "int" = some false)
  | .list _ => (by decide +kernel : kitB "list" "int" = some false)
  | .tuple _ => (by decide +kernel : kitB "tuple" "int" = some false)
  | .dict _ => (by decide +kernel : kitB "dict" "int" = some false)
def isB : PyData → Bool
  | .bool _ => true
  | _ => false
theorem kd_B : ∀ d : PyData, kitB (kindD d) "bool" = some (isB d)
  | .none => (by decide +kernel : kitB "NoneType" "bool" = some false)
  | .bool _ => (by decide +kernel : kitB "bool" "bool" = some true)
  | .int _ => (by decide +kernel : kitB "int" "bool" = some false)
  | .str _ => (by decide +kernel : kitB "str" "bool" = some false)
  | .list _ => (by decide +kernel : kitB "list" "bool" = some false)
  | .tuple _ => (by decide +kernel : kitB "tuple" "bool" = some false)
  | .dict _ => (by decide +kernel : kitB "dict" "bool" = some false)
theorem flat_eq {K : PySem.W.Frag} {H : Hp} {x y : V} {d : PyData} (hx : Dp K H x d) (hy : Dp K H y d) (h : (isL d || isT d) = false) : x = y ∧ scal x y = true := by
  cases hx <;> cases hy <;> first | exact ⟨rfl, rfl⟩ | cases h
theorem cb1 {r : List V → Hp → VK → Prop} {te : TE} {σ : L2.St} {H : Hp} {R : VK} (h : te σ H fun x H1 => r [x] H1 R) : tCB r (tCons te tNil) σ H R := h
theorem lt_one (a b : Nat) : decide (([a] : List Nat) < [b]) = decide (a < b) := by
  by_cases h : a < b
  · rw [decide_eq_true h]
    exact decide_eq_true (List.cons_lt_cons_iff.mpr (.inl h))
  · rw [decide_eq_false h]
    refine decide_eq_false fun z => ?_
    rcases List.cons_lt_cons_iff.mp z with z | ⟨_, z⟩
    · exact h z
    · exact absurd z (by simp)
theorem filter_all {α : Type} {p : α → Bool} : ∀ {l : List α}, (l.filter p).length = l.length ↔ l.all p = true
  | [] => by simp
  | x :: r => by
    have ih := filter_all (p := p) (l := r)
    have hle := List.length_filter_le p r
    cases h : p x with
    | true =>
      rw [List.filter_cons_of_pos h, List.all_cons, h, Bool.true_and, List.length_cons, List.length_cons, ← ih]
      omega
    | false =>
      rw [List.filter_cons_of_neg (by rw [h]; exact Bool.false_ne_true), List.all_cons, h, Bool.false_and, List.length_cons]
      constructor
      · intro e
        omega
      · intro e
        cases e
/-- the law's own look at a name -/
theorem name_by_letters {z : Str} {n : Nat} (h : n = (z.cps.toList.filter fun c => decide (c ∈ lettersL)).length) : isNameS z = (decide (0 < n) && decide (n < 9) && decide (n = z.length)) := by
  have e : z.length = z.cps.toList.length := by simp [Str.length]
  unfold isNameS
  by_cases ha : (z.cps.toList.all fun c => decide (c ∈ lettersL)) = true
  · have hn := filter_all.mpr ha
    rw [ha, Bool.and_true, e, h, hn]
    rw [decide_eq_true (rfl : z.cps.toList.length = z.cps.toList.length), Bool.and_true, decide_eq_decide.mpr (show 1 ≤ z.cps.toList.length ↔ 0 < z.cps.toList.length by omega), decide_eq_decide.mpr (show z.cps.toList.length ≤ 8 ↔ z.cps.toList.length < 9 by omega)]
  · have hn : ¬ n = z.length := fun q => ha (filter_all.mp (by rw [← h, q, e]))
    rw [decide_eq_false hn, Bool.and_false]
    have : (z.cps.toList.all fun c => decide (c ∈ lettersL)) = false := by
      cases q : z.cps.toList.all fun c => decide (c ∈ lettersL) with
      | true => exact absurd q ha
      | false => rfl
    rw [this, Bool.and_false]
end Bk

namespace Bk
open PySem PySem.Spec PyProof.Rows L2
section
variable {X : Cx} {CX : CXT} {k n : Nat} {f C : Addr} {fd : FuncData} {ps ks : List Str} {sp : Sp} {E : L2.St → XK} {x : Str} {p pos : Pos} {e : Expr} {es : List Expr} {kws : List Keyword} {t tk : TA} {g : List Value → List Value → List Value} {gV : List V → List V → List V}
/-- C(.., k = v, ..) within a try: what the making raises is wished for at the slots as they stand -/
def tMakeKS (C : Addr) (n m : Nat) (sp : Sp) (gV : List V → List V → List V) (E : L2.St → XK) (t tk : TA) : TE := fun σ H Q => t σ H fun vs H1 => tk σ H1 fun zs H2 => vs.length = n ∧ zs.length = m ∧ ∀ y dx, H2 y = none → H2 dx = none → dx ≠ y →
  sp (gV (.ref y :: vs) zs) (upd (upd H2 dx (.own y)) y (.ins C dx [])) (fun v H3 => v = .non ∧ Q (.ref y) H3) (E σ)
theorem pe_makeKS (M : Mk X.K C f) (F : FnOk X.prog X.w X.K X.mg X.base CX k f fd ps sp) (hr : Room (k + 1) X.A) (hg : Gl X x) (hm : X.mg x = some (.ref C)) (hb : KBn X.K fd ps (n + 1) ks g gV) (hx : ∀ σ, PassesAt CX X σ (E σ)) (ha : PA X (e :: es) t) (hkw : PK X kws tk)
    (hall : (backToKw pos (keywordEach kws X.env)).all (·.1.isSome) = true := by rfl) (hks : (backToKw pos (keywordEach kws X.env)).filterMap (·.1) = ks := by rfl) (hdb : (x == ("__debug__" : Str)) = false := by decide)
    (he : starEach (e :: es) X.env = (false, eval e X.env) :: starEach es X.env := by rfl) (hpl : ((backTo pos (starEach (e :: es) X.env)).any (·.1) || (backToKw pos (keywordEach kws X.env)).any (·.1.isNone)) = false := by rfl) :
    PE X (.Call (.Name x p) (e :: es) kws pos) (tMakeKS C n ks.length sp gV E t tk) := by
  refine ⟨fun pins s σ H Q I h => wpAny_Call_Name_kw (ld_glob I hg hm ?_ hdb)⟩
  refine PySem.W.callWith_KW (h₀ := X.base) I.ok.mod.kin M.kp hall (thn (ha.run pos pins s σ H _ I h) fun us s1 ⟨vs, H1, I1, r, q⟩ => ?_) hpl he
  refine thn (hkw.run pos pins s1 σ H1 _ I1 q) fun ws s2 ⟨zs, H2, I2, rz, l1, l2, q2⟩ => ⟨I2.kIn, ?_⟩
  rw [hks]
  have hq := q2 (s2.heap.objs.size + 1) s2.heap.objs.size (I2.hok.fresh (Nat.le_succ _)) (I2.hok.fresh (Nat.le_refl _)) (Nat.ne_of_lt (Nat.lt_succ_self _))
  have J := Inv.made (C := C) I2
  have rel : Vals (V.ref (s2.heap.objs.size + 1) :: vs) (Value.ref (s2.heap.objs.size + 1) :: us) := .cons rfl r
  have len1 : (Value.ref (s2.heap.objs.size + 1) :: us).length = n + 1 := by rw [List.length_cons, ← r.length, l1]
  refine wpAny_call (make_map (f := f) I2.kIn M.makes M.init (beq_iff_eq.mp M.fn) (codeAny_mono (F.run _ X.stack _ _ ⟨_, ks.zip ws⟩ _ _ _ (E σ) (hr.make C us (ks.zip ws)) (J.env0.make C us (ks.zip ws)) (hb.to _ _ ws J.kIn len1 (rz.length.symm.trans l2)) (hb.rel rel rz) hq) fun r s' hq' => ?_))
  cases r with
  | error er => exact hx σ pins _ _ er s' J hq'
  | ok fl =>
    cases fl with
    | ret u =>
      obtain ⟨v, H', J3, rv, ev, q3⟩ := J.after hq'
      subst ev
      exact ⟨rv, ⟨V.ref (s2.heap.objs.size + 1), H', J3, rfl, q3⟩⟩
    | next => exact hq'.elim
    | brk => exact hq'.elim
    | cont => exact hq'.elim
theorem kFld (K : PySem.W.Frag) {ta : TE} {fl : Str} (he : PE X e ta) (hk : X.K = K := by rfl) (hb : attributeBase e fl X.env (eval e X.env) = eval e X.env := by rfl) : PE X (.Attribute e fl pos) (tFld K ta fl) := hk ▸ pe_fld he hb
end
end Bk

namespace Bk
open PySem PySem.Spec PyProof.Rows L2
section
variable {K : PySem.W.Frag} {H H' : Hp} {st c : Addr}
theorem TyX.keep {x : V} {t : Value} (h : TyX K H x t) (e : ∀ p o, x = .ref p → H p = some o → H' p = some o) : TyX K H' x t := by
  cases h with
  | base b =>
    cases b with
    | non => exact .base .non
    | bl y => exact .base (.bl y)
    | int i => exact .base (.int i)
    | str y => exact .base (.str y)
    | flt y => exact .base (.flt y)
    | lst q => exact .base (.lst (e _ _ rfl q))
    | frz q => exact .base (.frz (e _ _ rfl q))
    | tup q => exact .base (.tup (e _ _ rfl q))
    | dK q => exact .base (.dK (e _ _ rfl q))
    | dT q => exact .base (.dT (e _ _ rfl q))
    | ins q c1 c2 c3 c4 c5 => exact .base (.ins (e _ _ rfl q) c1 c2 c3 c4 c5)
  | byt b => exact .byt b
  | set q => exact .set (e _ _ rfl q)
  | kList q c => exact .kList q c
  | kTuple q c => exact .kTuple q c
  | kDict q c => exact .kDict q c
  | fTuple q => exact .fTuple (e _ _ rfl q)
  | fDict q => exact .fDict (e _ _ rfl q)
theorem sql_keep {a : Addr} {xs : List V} (h : SqL K H a xs) (e : ∀ o, H a = some o → H' a = some o) : SqL K H' a xs := by
  rcases h with (h | ⟨o, h⟩) | h
  · exact .inl (.inl (e _ h))
  · exact .inl (.inr ⟨o, e _ h⟩)
  · exact .inr h
theorem fcons {p : V → Prop} {x : V} {l : List V} (h : p x) (r : ∀ y ∈ l, p y) : ∀ y ∈ x :: l, p y := fun y m => by
  rcases List.mem_cons.mp m with rfl | m
  · exact h
  · exact r y m
/-- not the stream's own objects -/
def Off (st c : Addr) (x : V) : Prop := ∀ p, x = .ref p → p ≠ st ∧ p ≠ c
theorem Off.ref {p : Addr} (h1 : p ≠ st) (h2 : p ≠ c) : Off st c (.ref p) := fun q e => by cases e; exact ⟨h1, h2⟩
theorem Off.flat {x : V} (h : flatV x = true) : Off st c x := fun q e => by subst e; cases h
def Far (K : PySem.W.Frag) (H : Hp) (st c : Addr) (x : V) : Prop := Itm K H x ∧ Off st c x
theorem Far.kept {x : V} (h : Far K H st c x) (k : Kept st c H H') : Far K H' st c x := by
  obtain ⟨⟨t, a, b⟩, o⟩ := h
  exact ⟨⟨t, TyX.keep a fun p u e q => k p u (o p e).1 (o p e).2 q, b⟩, o⟩
theorem Far.str {z : Str} (h : z.length ≤ 100000) : Far K H st c (.str z) := ⟨.str h, Off.flat rfl⟩
theorem itm_kit {x : V} {k : String} (t : TyX K H x (.type k)) (h : kitB k "str" = some false) (hs : isStr x = false) : Itm K H x := ⟨_, t, by rw [hs]; exact kit_ty h, fun z e => by subst e; cases hs⟩
theorem sqs_kit {x : V} {k : String} {b1 b2 : Bool} (t : TyX K H x (.type k)) (h1 : kitB k "list" = some b1) (h2 : kitB k "tuple" = some b2) : Sqs K H x (b1 || b2) := ⟨_, t, kit2 h1 h2⟩
/-- a thing of any objects, none of them the stream's -/
def ThF (K : PySem.W.Frag) (H : Hp) (st c : Addr) (x : V) (o : Option (List V)) : Prop := Thing K H x o ∧ Off st c x ∧ ∀ xs, o = some xs → ∀ y ∈ xs, Far K H st c y
theorem ThF.kept {x : V} {o : Option (List V)} (h : ThF K H st c x o) (k : Kept st c H H') : ThF K H' st c x o := by
  obtain ⟨T, off, hy⟩ := h
  refine ⟨?_, off, fun xs e y m => (hy xs e y m).kept k⟩
  have sq : ∀ {b : Bool}, Sqs K H x b → Sqs K H' x b := fun ⟨t, a, b⟩ => ⟨t, TyX.keep a fun p u e q => k p u (off p e).1 (off p e).2 q, b⟩
  cases T with
  | @seq a xs hS b hi hl =>
    have ka : ∀ o, H a = some o → H' a = some o := fun o q => k a o (off a rfl).1 (off a rfl).2 q
    exact .seq (hS.imp (fun z => sql_keep z ka) fun z => ka _ z) (sq b) (fun y m => ((hy xs rfl y m).kept k).1) hl
  | no b => exact .no (sq b)
theorem thf_lst {a : Addr} {xs : List V} (h : H a = some (.lst xs)) (h1 : a ≠ st) (h2 : a ≠ c) (hl : xs.length ≤ 100000) (hy : ∀ y ∈ xs, Far K H st c y) : ThF K H st c (.ref a) (some xs) :=
  ⟨.seq (.inl (SqL.of h)) (sqs_kit (k := "list") (b1 := true) (b2 := false) (.base (.lst h)) (by decide +kernel) (by decide +kernel)) (fun y m => (hy y m).1) hl, Off.ref h1 h2, fun ys e y m => by cases e; exact hy y m⟩
theorem thf_tup {a : Addr} {xs : List V} (h : H a = some (.tup xs)) (h1 : a ≠ st) (h2 : a ≠ c) (hl : xs.length ≤ 100000) (hy : ∀ y ∈ xs, Far K H st c y) : ThF K H st c (.ref a) (some xs) :=
  ⟨.seq (.inr h) (sqs_kit (k := "tuple") (b1 := false) (b2 := true) (.base (.tup h)) (by decide +kernel) (by decide +kernel)) (fun y m => (hy y m).1) hl, Off.ref h1 h2, fun ys e y m => by cases e; exact hy y m⟩
theorem thf_no {x : V} {k : String} (t : TyX K H x (.type k)) (h1 : kitB k "list" = some false) (h2 : kitB k "tuple" = some false) (o : Off st c x) : ThF K H st c x none := ⟨.no (sqs_kit t h1 h2), o, fun _ e => by cases e⟩
/-- what a turn of the law starts from: the stream and the list of odd things -/
structure Ground (K : PySem.W.Frag) (H : Hp) (st c od : Addr) (n : Nat) : Prop where
  S : Strm H st c n
  n1 : od ≠ st
  n2 : od ≠ c
  odd : ∃ xs, H od = some (.lst xs) ∧ xs.length = 14 ∧ ∀ x ∈ xs, Far K H st c x
theorem Ground.kept {od : Addr} {n n' : Nat} (G : Ground K H st c od n) (S : Strm H' st c n') (k : Kept st c H H') : Ground K H' st c od n' := by
  obtain ⟨xs, h1, h2, h3⟩ := G.odd
  exact ⟨S, G.n1, G.n2, xs, k _ _ G.n1 G.n2 h1, h2, fun x m => (h3 x m).kept k⟩
theorem pk_lst {a : Addr} {xs : List V} (h : SqL K H a xs) (n1 : a ≠ st) (n2 : a ≠ c) : Pk K H st c (.ref a) xs.length (fun j => xs.getD j .non) :=
  .lst h n1 n2 fun j hj => by rw [List.getD_eq_getElem?_getD, List.getElem?_eq_getElem hj]; rfl
theorem getD_mem {xs : List V} {j : Nat} (h : j < xs.length) : xs.getD j .non ∈ xs := by
  rw [List.getD_eq_getElem?_getD, List.getElem?_eq_getElem h]
  exact List.getElem_mem h
/-! ### the answers as data -/
theorem dp_strs : ∀ zs : List Str, DpAll K H (zs.map V.str) (zs.map PyData.str)
  | [] => .nil
  | x :: r => .cons (.str x) (dp_strs r)
theorem depth_strs : ∀ zs : List Str, PyData.depthAll (zs.map PyData.str) = 0
  | [] => by simp [PyData.depthAll]
  | x :: r => by
    have := depth_strs r
    simp [PyData.depthAll, PyData.depth, this]
theorem wide_strs : ∀ zs : List Str, wideAll (zs.map PyData.str) = 0
  | [] => by simp [wideAll]
  | x :: r => by
    have := wide_strs r
    simp [wideAll, wide, this]
def dMade (zs : List Str) : PyData := .tuple [.str (Str.ofString "made"), .tuple (zs.map PyData.str)]
def dBad (i : Nat) : PyData := .tuple [.str (Str.ofString "bad"), .int (i : Int)]
theorem dp_made {p t : Addr} {zs : List Str} (hp : H p = some (.tup [.str (Str.ofString "made"), .ref t])) (ht : SqT K H t (zs.map V.str)) : Dp K H (.ref p) (dMade zs) := .tup (SqT.of hp) (.cons (.str _) (.cons (.tup ht (dp_strs zs)) .nil))
theorem dp_bad {p : Addr} {i : Nat} (hp : H p = some (.tup [.str (Str.ofString "bad"), .int (i : Int)])) : Dp K H (.ref p) (dBad i) := .tup (SqT.of hp) (.cons (.str _) (.cons (.int _) .nil))
theorem made_depth (zs : List Str) : (dMade zs).depth ≤ 3 := by
  have := depth_strs zs
  simp [dMade, PyData.depth, PyData.depthAll, this]
theorem bad_depth (i : Nat) : (dBad i).depth ≤ 3 := by simp [dBad, PyData.depth, PyData.depthAll]
theorem made_wide {zs : List Str} (h : zs.length ≤ 100) : wide (dMade zs) ≤ 90000 := by
  have := wide_strs zs
  simp [dMade, wide, wideAll, this]
  omega
theorem bad_wide (i : Nat) : wide (dBad i) ≤ 90000 := by simp [dBad, wide, wideAll]
end
end Bk

namespace Bk
open PySem PySem.Spec PyProof.Rows L2
section
variable {K : PySem.W.Frag}
/-! ### the top's facts -/
theorem fun_of {x qual : Str} {st : Stmt} {f : Addr} {fd : FuncData} (F : FunD K x qual (defArgs st) (defBody st) (defScope st) [] [] f fd) : Fun K x qual st f fd := by
  obtain ⟨⟨oc, od, dV, kV, doc, pm, an, cdv, ct, osl, rfl, lk, hcd, hD, _⟩, kp⟩ := F
  rcases hD with ⟨_, rfl⟩ | ⟨e, _⟩
  · exact ⟨⟨oc, od, kV, doc, pm, an, cdv, ct, osl, rfl, lk, hcd⟩, kp⟩
  · exact absurd rfl e
def mroE (C : Addr) : List Value → Bool
  | .ref C' :: bm => decide (C' = C) && PySem.HandSPX.refsVE bm
  | _ => false
theorem mroE_ok {C : Addr} {l : List Value} (h : mroE C l = true) : ∃ bm, l = .ref C :: bm ∧ PySem.HandSPX.refsVE bm = true := by
  unfold mroE at h
  split at h
  · obtain ⟨h1, h2⟩ := Bool.and_eq_true_iff.mp h
    have e := of_decide_eq_true h1
    subst e
    exact ⟨_, rfl, h2⟩
  · cases h
def sixE : List (Option Value) → Bool
  | [_, _, _, _, some (.builtin n), _] => decide (n = "ValueError.__new__")
  | _ => false
theorem sixE_ok {l : List (Option Value)} (h : sixE l = true) : ∃ a b c d e, l = [a, b, c, d, some (.builtin "ValueError.__new__"), e] := by
  unfold sixE at h
  split at h
  · have e := of_decide_eq_true h
    subst e
    exact ⟨_, _, _, _, _, rfl⟩
  · cases h
/-- the class at C is an own error class whose maker is ValueError's -/
def ownErr (K : PySem.W.Frag) (C : Addr) : Bool := match K.lookup C with
  | some ⟨.type t, _, .cls cd, sl⟩ => decide (t = "type") && (cd.hasDict && (!cd.hasDel && (mroE C cd.mro && sixE sl.toList)))
  | _ => false
theorem ownErr_ok {C : Addr} (h : ownErr K C = true) : ∃ nm q N bs bm sn sub ab col dd k0 k1 k2 k3 k5, K.lookup C = some (excClassObj nm q C N bs bm true sn sub ab col dd k0 k1 k2 k3 k5 "ValueError.__new__") ∧ PySem.HandSPX.refsVE bm = true := by
  unfold ownErr at h
  split at h
  · rename_i t dd cd sl q
    obtain ⟨h1, h⟩ := Bool.and_eq_true_iff.mp h
    obtain ⟨h2, h⟩ := Bool.and_eq_true_iff.mp h
    obtain ⟨h3, h⟩ := Bool.and_eq_true_iff.mp h
    obtain ⟨h4, h5⟩ := Bool.and_eq_true_iff.mp h
    have e1 := of_decide_eq_true h1
    obtain ⟨bm, e4, e5⟩ := mroE_ok h4
    obtain ⟨a, b, c, d, e, e6⟩ := sixE_ok h5
    obtain ⟨l⟩ := sl
    obtain ⟨c1, c2, c3, c4, c5, c6, c7, c8, c9, c10, c11⟩ := cd
    subst e1
    simp only at h2 h3 e4 e6
    subst h2 e4 e6
    have h3 : c11 = false := by
      cases c11 with
      | true => cases h3
      | false => rfl
    subst h3
    exact ⟨c1, c5, c4, c2, bm, c7, c8, c9, c10, dd, a, b, c, d, e, q, e5⟩
  · cases h
/-- what the law asks of an own error class beyond its facts by name -/
def errB (K : PySem.W.Frag) (C f : Addr) : Bool := ownErr K C && (xfB K C && (decide (PySem.W.subIn K (.ref C) (.type "BaseException") = some true) && (decide (PySem.W.typeIn K (.ref C) = some (.type "type")) && (PySem.W.keepIn K (.ref C) && (decide (PySem.W.typeIn K (.ref f) = some (.type "function")) &&
  decide (PySem.W.findIn K (.ref C) "__setattr__" = some (some (.builtin "object.__setattr__"))))))))
theorem errB_ok {mg : Str → Option Value} {x : Str} {C fI : Addr} {f : Str} (h : errB K C fI = true) (g : mg x = some (.ref C)) (noF : PySem.W.findIn K (.ref C) f = some none) (iC : PySem.W.findIn K (.ref C) "__init__" = some (some (.ref fI))) (te : PySem.W.exmOne K (.ref C) (.ref C) = some true) : ExT K mg x C fI f := by
  obtain ⟨h1, h⟩ := Bool.and_eq_true_iff.mp h
  obtain ⟨h2, h⟩ := Bool.and_eq_true_iff.mp h
  obtain ⟨h3, h⟩ := Bool.and_eq_true_iff.mp h
  obtain ⟨h4, h⟩ := Bool.and_eq_true_iff.mp h
  obtain ⟨h5, h⟩ := Bool.and_eq_true_iff.mp h
  obtain ⟨h6, h7⟩ := Bool.and_eq_true_iff.mp h
  exact ⟨g, ⟨ownErr_ok h1, of_decide_eq_true h7, of_decide_eq_true h3, of_decide_eq_true h4, h5⟩, xfB_ok h2, noF, iC, of_decide_eq_true h6, te⟩
/-- isinstance of the instances of the class at C -/
def insB (K : PySem.W.Frag) (C : Addr) : Bool := decide (PySem.W.findIn K (.ref C) "__class__" = some (some (.builtin "object.__class__"))) && (decide (PySem.W.specialIn K (.builtin "object.__class__") "__get__" = some (some (.builtin "getset_descriptor.__get__"))) &&
  (decide (PySem.W.takesIn K (.builtin "object.__class__") = some true) && decide (PySem.W.mroIn K C (.type "object") = some true)))
theorem insB_ok {C : Addr} (h : insB K C = true) (c : Cls K C) (H : Hp) (x dx : Addr) (fs : List (Str × V)) (e : H x = some (.ins C dx fs)) : TyX K H (.ref x) (.ref C) := by
  obtain ⟨h1, h⟩ := Bool.and_eq_true_iff.mp h
  obtain ⟨h2, h⟩ := Bool.and_eq_true_iff.mp h
  obtain ⟨h3, h4⟩ := Bool.and_eq_true_iff.mp h
  exact .base (.ins e c (of_decide_eq_true h1) (of_decide_eq_true h2) (of_decide_eq_true h3) (of_decide_eq_true h4))
end
end Bk

/-! an own exception made by one keyword: type.__call__, BaseException.__new__, the own __init__ -/
namespace PySem
namespace HandSPX
open Builtin Builtin.ObjectAttr
open PySem.Calls PyProof.Rows
section
variable {M : Model} {A : Around} {E : Value → Shared → Prop} {h : Heap} {g : Array GenState} {d : Drawn} {t : Nat} {os : OsState}
variable {nm q : Str} {C N : Addr} {bs bm bmB : List Value} {hdct : Bool} {sn : List Str} {sub : List Value} {ab : Bool} {col : Option Bool} {dd : Option Addr} {k0 k1 k2 k3 k5 : Option Value} {B newId initId : String}
theorem bk_check_new (F : ExcBaseFacts B newId initId bmB) (hT : ∀ X : String, bm.contains (.type X) = bmB.contains (.type X)) {kn : Str} {ku : Value} {Q : Unit → Shared → Prop}
    (hC : h.get? C = some (excClassObj nm q C N bs bm hdct sn sub ab col dd k0 k1 k2 k3 k5 newId)) (hq : Q () ⟨h, g, d, t, os⟩) : wpAny M A (checkBuiltinCall newId ⟨[.ref C], [(kn, ku)]⟩) Q E ⟨h, g, d, t, os⟩ := by
  have hcont : (Value.ref C :: bm).contains (.type B) = true := by rw [List.contains_cons, hT, F.hasB, Bool.or_true]
  have hstar := F.noStar
  simp only [checkBuiltinCall, F.newKind, F.newSplit, F.newRow]
  repeat (first | refine wpAny_loadPart_at hC ?_ | (refine wpAny_isSubtype_exc hC ?_; rw [hcont]) | refine wpAny_staticBase_exc hC ?_ | refine wpAny_madeBy_exc hC ?_ | simp only [bne_self_eq_false, Bool.false_eq_true, if_false] | wp_step)
  exact hq
end
section
variable {prog : Program} {w : World} {A : Around} {E : Value → Shared → Prop} {R : Result → Shared → Prop} {h : Heap} {g : Array GenState} {d : Drawn} {t : Nat} {os : OsState}
variable {nm q : Str} {C N : Addr} {bs bm bmB : List Value} {hdct : Bool} {sn : List Str} {sub : List Value} {ab : Bool} {col : Option Bool} {dd : Option Addr} {k0 k1 k2 k3 k5 : Option Value} {B newId initId : String}
theorem bk_new (F : ExcBaseFacts B newId initId bmB) (hT : ∀ X : String, bm.contains (.type X) = bmB.contains (.type X)) {kn : Str} {ku : Value}
    (hC : h.get? C = some (excClassObj nm q C N bs bm hdct sn sub ab col dd k0 k1 k2 k3 k5 newId))
    (hq : R (.ok (.ret (.ref (h.objs.size + 1)))) ⟨(h.push { cls := .type "tuple", data := .seq ([] : List Value).toArray }).push
      { cls := .ref C, data := .fields #[.ref h.objs.size, .none, .none, .none, .bool false, .none] }, g, d, t, os⟩) :
    codeAny (model prog w) A (.builtin newId ⟨[.ref C], [(kn, ku)]⟩) R ⟨h, g, d, t, os⟩ := by
  have hends := F.ends
  have hrest : ([] : List Value).length ≤ sizeLine := Nat.zero_le _
  have hcB : (Value.ref C :: bm).contains (.type B) = true := by rw [List.contains_cons, hT, F.hasB, Bool.or_true]
  have hcA : (Value.ref C :: bm).contains (.type "AttributeError") = false := by rw [List.contains_cons, hT, F.noAttr]; rfl
  have hcN : (Value.ref C :: bm).contains (.type "NameError") = false := by rw [List.contains_cons, hT, F.noName]; rfl
  refine codeAny_builtinAt F.entry ?_
  unfold Builtin.«BaseException.__new__»
  refine wpAt_bind ?_
  show wpAt _ _ _ (stack >>= _) _ _ _
  refine wpAt_bind (wpAt_stack fun p below => wpAt_of_wpAny ?_)
  wp_walk
  refine wpAt_of_wpAny ?_
  rw [F.owner]
  repeat (first | with_reducible refine wpAny_madeHere_exc F.canon hC ?_ | with_reducible refine wpAny_loadPart_at hC ?_ | (with_reducible refine wpAny_isSubtype_exc hC ?_; first | rw [hcB] | rw [hcA] | rw [hcN]) | wp_step)
  show R _ _
  rw [Heap.size_push]
  exact hq
theorem bk_type_call (F : ExcBaseFacts B newId initId bmB) (hT : ∀ X : String, bm.contains (.type X) = bmB.contains (.type X)) {kn : Str} {ku : Value} {fI : Addr} {Q : Fin → Shared → Prop}
    (hC : h.get? C = some (excClassObj nm q C N bs bm hdct sn sub ab col dd k0 k1 k2 k3 k5 newId))
    (hi : W.Looks (model prog w) h (typeLookup (.ref C) "__init__") (some (.ref fI))) (hb : ∀ self, W.Looks (model prog w) h (bindSpecial (.ref fI) self) (.ref fI, [self]))
    (hq : codeAny (model prog w) A (.call (.ref fI) ⟨[.ref (h.objs.size + 1)], [(kn, ku)]⟩)
      (fun r s' => match r with | .ok (.ret v) => v = .none ∧ Q (.done (.ret (.ref (h.objs.size + 1)))) s' | .ok _ => False | .error e => E e s')
      ⟨(h.push (W.kdv_tup [])).push (excO C h.objs.size), g, d, t, os⟩) :
    wpAny (model prog w) A (Builtin.«type.__call__» ⟨[.ref C], [(kn, ku)]⟩) Q E ⟨h, g, d, t, os⟩ := by
  repeat (first | with_reducible refine wpAny_loadPart_at hC ?_ | with_reducible refine wpAny_madeBy_exc hC ?_ | wp_step)
  refine codeAny_call_builtin_code (Code.quiet_builtin _ F.quiet) (bk_check_new F hT hC ?_)
  refine bk_new F hT hC ?_
  show wpAny _ _ _ _ _ _
  have k : ∀ b o, h.get? b = some o → ((h.push (W.kdv_tup [])).push (excO C h.objs.size)).get? b = some o := fun b o e => Heap.get?_push_of_some _ (Heap.get?_push_of_some _ e)
  have hC₁ := k _ _ hC
  have hget : ((h.push (W.kdv_tup [])).push (excO C h.objs.size)).get? (h.objs.size + 1) = some (excO C h.objs.size) := by heap_get
  have hcC : (Value.ref C :: bm).contains (.ref C) = true := by simp
  have i1 := hi.keeps k
  have b1 := (hb (.ref (h.objs.size + 1))).keeps k
  unfold isInstance
  repeat (first | with_reducible refine wpAny_loadPart_at hget ?_ | (with_reducible refine wpAny_isSubtype_exc hC₁ ?_; rw [hcC]) | wp_step)
  show wpAny _ _ (typeLookup (.ref C) _) _ _ _
  refine i1.at ?_
  refine wpAny_holding (wpAny_bind (b1.at ?_))
  refine wpAny_bind (wpAny_call (codeAny_mono hq fun r s' z => ?_))
  rcases r with e | (v | _ | _ | _) <;> first | exact z | exact z.elim | skip
  obtain ⟨rfl, z⟩ := z
  first
    | exact wpAny_pure (wpAny_pure z)
    | (wp_walk; exact z)
theorem bk_call_own (F : ExcBaseFacts B newId initId bmB) (hT : ∀ X : String, bm.contains (.type X) = bmB.contains (.type X)) {kn : Str} {ku : Value} {fI : Addr}
    (hC : h.get? C = some (excClassObj nm q C N bs bm hdct sn sub ab col dd k0 k1 k2 k3 k5 newId))
    (hi : W.Looks (model prog w) h (typeLookup (.ref C) "__init__") (some (.ref fI))) (hb : ∀ self, W.Looks (model prog w) h (bindSpecial (.ref fI) self) (.ref fI, [self]))
    (hq : codeAny (model prog w) (A.under (.builtin "type.__call__" ⟨[.ref C], [(kn, ku)]⟩)) (.call (.ref fI) ⟨[.ref (h.objs.size + 1)], [(kn, ku)]⟩) (W.InitBack (h.objs.size + 1) R)
      ⟨(h.push (W.kdv_tup [])).push (excO C h.objs.size), g, d, t, os⟩) :
    codeAny (model prog w) A (.call (.ref C) ⟨[], [(kn, ku)]⟩) R ⟨h, g, d, t, os⟩ := by
  have f1 := tc_lookup
  have f2 := tc_bind (.ref C)
  have hTy : (⟨h, g, d, t, os⟩ : Shared).TypeIs (.ref C) "type" := ⟨_, hC, rfl⟩
  refine codeAny_of_tree ?_
  show wpAny _ _ (callAny (.ref C) _) _ _ _
  repeat (any_goals (first | assumption | with_reducible refine wpAny_loadPart_at hC ?_ | wp_step))
  refine ⟨rfl, ?_⟩
  refine codeAny_call_builtin_at (Code.quiet_builtin _ (by decide +kernel)) entry_typeCall (wpAny_check_type_call_sub hC (bk_type_call F hT hC hi hb ?_))
  refine codeAny_mono hq fun r s' z => ?_
  rcases r with e | (v | _ | _ | _) <;> exact z
end
end HandSPX
end PySem

namespace PySem.W
open PySem PySem.Spec PySem.Calls PyProof.Rows
section
variable {prog : Program} {w : World} {A : Around} {E : Value → Shared → Prop} {s : Shared} {K : Frag} {x D : Addr} {ox : Obj} {od : Option Obj}
theorem bk_kin_class {Q : Option Value → Shared → Prop} (hga : findIn K (.ref D) "__getattribute__" = some (some (.builtin "BaseException.__getattribute__"))) (hgt : findIn K (.ref D) "__getattr__" = some none) (hsub : subIn K (.ref D) (.type "BaseException") = some true)
    (hf : findObj K D od "__class__" = some (.bind (.builtin "getset_descriptor.__get__") (.builtin "object.__class__"))) (hm : mroIn K D (.type "object") = some true)
    (X : K.In s.heap) (I : InstAt s.heap x ox D od) (h : Q (some (.ref D)) { s with toks := s.toks + 1 }) : wpAny (model prog w) A (getAttr? (.ref x) "__class__") Q E s := by
  obtain ⟨hp, g, d, t, os⟩ := s
  have L0 := I.type (M := model prog w)
  have L1 := looks_findIn (M := model prog w) X hga
  have L2 := looks_findIn (M := model prog w) X hgt
  have L3 := looks_find (M := model prog w) X I hf
  have sub : Looks (model prog w) hp (isInstance (.ref x) (.type "BaseException")) true := L0.andThen (looks_subIn X hsub)
  have hx0 : (false && onTheHeap (Value.builtin "BaseException.__getattribute__")) = false := rfl
  have hx2 : (Value.builtin "BaseException.__getattribute__" == Value.builtin "object.__getattribute__") = false := by decide +kernel
  have hx1 : (onTheHeap (Value.ref D) && Value.builtin "BaseException.__getattribute__" == Value.builtin "object.__getattribute__") = false := by rw [hx2]; rfl
  unfold getAttr? getAttrBy? getAttrBy
  refine wpAny_bind (wpAny_mkText (wpAny_bind (wpAny_attempt (wpAny_holding (wpAny_bind (L0.at (wpAny_bind (L1.at ?_))))))))
  show wpAny _ _ (if (onTheHeap (Value.ref D) && Value.builtin "BaseException.__getattribute__" == Value.builtin "object.__getattribute__") = true then _ else _) _ _ _
  rw [hx1, if_neg Bool.false_ne_true]
  unfold getAttrByItsOwn hookBefore
  refine wpAny_bind ?_
  rw [if_pos (show onTheHeap (Value.ref D) = true from rfl)]
  refine L2.at ?_
  refine wpAny_bind (wpAny_attempt (wpAny_holding ?_))
  unfold callGetattribute
  rw [hx0, if_neg Bool.false_ne_true]
  unfold boundAndCalled
  rw [PySem.F.excAttr_ValueError.ga.bind (.ref x)]
  refine wpAny_bind (wpAny_pure ?_)
  show wpAny _ _ (call (.builtin "BaseException.__getattribute__") [.ref x, .str "__class__" t]) _ _ _
  refine wpAny_call (codeAny_call_builtin PySem.F.excAttr_ValueError.ga.plain PySem.F.entry_bexc_ga ?_)
  refine @check_slot (model prog w) _ _ ⟨hp, g, d, t + 1, os⟩ "BaseException.__getattribute__" "BaseException" "__getattribute__" (.ref x) [.str "__class__" t] [] _ (by decide +kernel) (by decide +kernel) sub (PySem.F.args_bexc_ga (.ref x) (.str "__class__" t)) ?_
  unfold Builtin.«object.__getattribute__»
  refine wpAny_bind (wpAny_of_eq (a := ((Value.ref x : Value), [Value.str "__class__" t])) (by first | rfl | (simp only [slotArgs]; rfl)) ?_)
  refine wpAny_bind (wpAny_pure (wpAny_bind (L0.at (wpAny_bind (L3.at ?_)))))
  show wpAny _ _ (holding [Value.builtin "object.__class__"] (call (.builtin "getset_descriptor.__get__") [.builtin "object.__class__", .ref x, .ref D]) >>= ret) _ _ _
  refine wpAny_bind (wpAny_holding (wpAny_call (class_get (s := ⟨hp, g, d, t + 1, os⟩) (ox := ox) (od := od) X I hm ?_)))
  refine wpAny_pure ?_
  show wpAny _ _ (handedOut (.ref D)) _ _ _
  rw [handedOut_of (v := .ref D) rfl]
  first
    | exact wpAny_pure (wpAny_pure h)
    | exact wpAny_pure h
    | exact wpAny_pure (wpAny_bind (wpAny_pure (wpAny_pure h)))
theorem bk_kitx_exc (hga : findIn K (.ref D) "__getattribute__" = some (some (.builtin "BaseException.__getattribute__"))) (hgt : findIn K (.ref D) "__getattr__" = some none) (hsub : subIn K (.ref D) (.type "BaseException") = some true) (hdct : hasDictIn K D = true)
    (hf : findObj K D od "__class__" = some (.bind (.builtin "getset_descriptor.__get__") (.builtin "object.__class__"))) (hm : mroIn K D (.type "object") = some true) :
    KitX K (.ref x) (.ref D) (fun h => InstAt h x ox D od) where
  ty := fun _ _ _ I => I.type
  it := fun _ _ X _ => by
    obtain ⟨cdD, hcD, _⟩ := any_some hdct
    unfold clsIn at hcD
    split at hcD
    · rename_i c' d' cd' sl' ho
      intro A' Q' E' s' k q
      unfold isType loadHead
      exact wpAny_bind (wpAny_loadPart (k _ _ (X _ _ ho)) (wpAny_pure q))
    · cases hcD
  ne := fun h tp dd its n sl X htp => by
    obtain ⟨cdD, hcD, _⟩ := any_some hdct
    refine Bool.eq_false_iff.mpr fun q => ?_
    have e : D = tp := Value.ref.inj (beq_iff_eq.mp q)
    subst e
    unfold clsIn at hcD
    split at hcD
    · rename_i c' d' cd' sl' ho
      have z := (X _ _ ho).symm.trans htp
      cases z
    · cases hcD
  ca := fun X I k => bk_kin_class hga hgt hsub hf hm X I k
end
end PySem.W
namespace Bk
open PySem PySem.Spec PyProof.Rows L2
/-! ### making: by place, by keyword, of nothing -/
/-- C(e, ..) as a value, C's own __init__ keeping sp -/
def tOexV (C : Addr) (sp : Sp) (ta : TA) : TE := fun σ H Q => ta σ H fun vs H1 => vs.length ≤ 1000 ∧ ∀ a, H1 a = none → sp (.ref a :: vs) (upd H1 a (exo a C none)) (fun v H2 => v = .non ∧ Q (.ref a) H2) (fun _ _ _ => False)
/-- C(k = e) as a value -/
def tOexK (C : Addr) (sp : Sp) (tk : TA) : TE := fun σ H Q => tk σ H fun zs H1 => zs.length = 1 ∧ ∀ a, H1 a = none → sp (.ref a :: zs) (upd H1 a (exo a C none)) (fun v H2 => v = .non ∧ Q (.ref a) H2) (fun _ _ _ => False)
section
variable {X : Cx} {CX : CXT} {x : Str} {C fI : Addr} {k : Nat} {fd : FuncData} {ps : List Str} {sp : Sp} {e : Expr} {es : List Expr} {ta tk : TA} {kws : List Keyword} {p pos : Pos} {kn : Str}
theorem pe_oexV (T : OexC X.K C) (iC : PySem.W.findIn X.K (.ref C) "__init__" = some (some (.ref fI))) (tI : PySem.W.typeIn X.K (.ref fI) = some (.type "function"))
    (F1 : FnOk X.prog X.w X.K X.mg X.base CX k fI fd ps sp) (hr : Room (k + 1) X.A) (hb : Binds X.K fd ps []) (hx : Passes CX X (fun _ _ _ => False)) (hg : Gl X x) (hm : X.mg x = some (.ref C)) (ha : PA X (e :: es) ta)
    (hdb : (x == ("__debug__" : Str)) = false := by decide) (he : starEach (e :: es) X.env = (false, eval e X.env) :: starEach es X.env := by rfl) (hpl : (backTo pos (starEach es X.env)).any (·.1) = false := by rfl) :
    PE X (.Call (.Name x p) (e :: es) [] pos) (tOexV C sp ta) := by
  refine ⟨fun pins s σ H Q I h => ?_⟩
  obtain ⟨nm, q, N, bs, bm, sn, sub, ab, col, dd, k0, k1, k2, k3, k5, hC, hbm⟩ := T.cls
  refine wpAny_Call_Name_kw (ld_glob I hg hm ?_ hdb)
  refine PySem.W.callWith_K (h₀ := X.base) I.ok.mod.kin T.kC (thn (ha.run pos pins s σ H _ I h) fun us s1 ⟨vs, H1, I1, r1, hz, q1⟩ => ⟨I1.kIn, ?_⟩) he hpl
  show wpAny _ _ (call (.ref C) us) _ _ _
  obtain ⟨hp, g, dr, tk, os⟩ := s1
  have hsz : hp.objs.size ≤ hp.objs.size + 1 := Nat.le_succ _
  have hn : H1 (hp.objs.size + 1) = none := I1.hok.fresh hsz
  have hq := q1 (hp.objs.size + 1) hn
  have kk : ∀ b o, hp.get? b = some o → ((hp.push (PySem.W.kdv_tup us)).push (PySem.HandSPX.excO C hp.objs.size)).get? b = some o := fun b o e => Heap.get?_push_of_some _ (Heap.get?_push_of_some _ e)
  have hget : ((hp.push (PySem.W.kdv_tup us)).push (PySem.HandSPX.excO C hp.objs.size)).get? (hp.objs.size + 1) = some (PySem.HandSPX.excO C hp.objs.size) := by heap_get
  have I2 : Inv X pins σ (upd H1 (hp.objs.size + 1) (exo (hp.objs.size + 1) C none)) ⟨(hp.push (PySem.W.kdv_tup us)).push (PySem.HandSPX.excO C hp.objs.size), g, dr, tk, os⟩ :=
    I1.laid (t' := tk) (a := hp.objs.size + 1) (o := exo (hp.objs.size + 1) C none) (h' := (hp.push (PySem.W.kdv_tup us)).push (PySem.HandSPX.excO C hp.objs.size)) kk hsz (exo_ok hget)
  have r2 : Vals (V.ref (hp.objs.size + 1) :: vs) (Value.ref (hp.objs.size + 1) :: us) := .cons rfl r1
  have hl : (Value.ref (hp.objs.size + 1) :: us ++ []).length = ps.length := by
    rw [List.append_nil]
    have e := r2.length
    rw [F1.len _ _ _ _ hq] at e
    exact e.symm
  have hus : us.length ≤ sizeLine := by
    rw [← Paired.length r1, sizeLine_eq]
    omega
  refine wpAny_call (PySem.HandSPX.call_own F.excBase_ValueError (fun Y => PySem.HandSPX.refsVE_contains Y bm hbm) (I1.kIn _ _ hC) (PySem.W.looks_findIn I1.kIn iC) (fun self => PySem.W.bind_fn I1.kIn self tI) hus
    (codeAny_mono (F1.run _ X.stack _ _ ⟨Value.ref (hp.objs.size + 1) :: us, []⟩ (Value.ref (hp.objs.size + 1) :: us) _ _ (fun _ _ _ => False) (hr.make C us []) (I2.env0.make C us []) (by have z := hb _ (Value.ref (hp.objs.size + 1) :: us) I2.kIn hl; rw [List.append_nil] at z; exact z) r2 hq) fun r s' hq' => ?_))
  cases r with
  | error er => exact hx pins σ _ _ er s' I2 hq'
  | ok fl =>
    cases fl with
    | ret u =>
      obtain ⟨v, H2, I3, rv, ev, q3⟩ := I2.after hq'
      subst ev
      exact ⟨rv, ⟨V.ref (hp.objs.size + 1), H2, I3, rfl, q3⟩⟩
    | next => exact False.elim hq'
    | brk => exact False.elim hq'
    | cont => exact False.elim hq'
theorem pe_oexK (T : OexC X.K C) (iC : PySem.W.findIn X.K (.ref C) "__init__" = some (some (.ref fI))) (tI : PySem.W.typeIn X.K (.ref fI) = some (.type "function"))
    (F1 : FnOk X.prog X.w X.K X.mg X.base CX k fI fd ps sp) (hr : Room (k + 1) X.A) (hb : ∀ (s : Shared) (a v : Value), X.K.In s.heap → BindsTo s fd ⟨[a], [(kn, v)]⟩ (ps.zip [a, v])) (hx : Passes CX X (fun _ _ _ => False)) (hg : Gl X x) (hm : X.mg x = some (.ref C)) (hkw : PK X kws tk)
    (hall : (backToKw pos (keywordEach kws X.env)).all (·.1.isSome) = true := by rfl) (hks : (backToKw pos (keywordEach kws X.env)).filterMap (·.1) = [kn] := by rfl) (hdb : (x == ("__debug__" : Str)) = false := by decide)
    (hpl : ((backTo pos (starEach [] X.env)).any (·.1) || (backToKw pos (keywordEach kws X.env)).any (·.1.isNone)) = false := by rfl) :
    PE X (.Call (.Name x p) [] kws pos) (tOexK C sp tk) := by
  refine ⟨fun pins s σ H Q I h => ?_⟩
  obtain ⟨nm, q, N, bs, bm, sn, sub, ab, col, dd, k0, k1, k2, k3, k5, hC, hbm⟩ := T.cls
  refine wpAny_Call_Name_kw (ld_glob I hg hm ?_ hdb)
  refine PySem.W.callWith_KW0 (h₀ := X.base) I.ok.mod.kin T.kC hall ?_ hpl
  refine thn (hkw.run pos pins s σ H _ I h) fun us s1 ⟨zs, H1, I1, r1, hz, q1⟩ => ⟨I1.kIn, ?_⟩
  rw [hks]
  cases r1 with
  | nil => cases hz
  | @cons z0 u0 zr ur rz rr =>
  cases rr with
  | cons _ _ => cases hz
  | nil =>
  show wpAny _ _ (call (.ref C) [] [(kn, u0)]) _ _ _
  obtain ⟨hp, g, dr, tk, os⟩ := s1
  have hsz : hp.objs.size ≤ hp.objs.size + 1 := Nat.le_succ _
  have hn : H1 (hp.objs.size + 1) = none := I1.hok.fresh hsz
  have hq := q1 (hp.objs.size + 1) hn
  have kk : ∀ b o, hp.get? b = some o → ((hp.push (PySem.W.kdv_tup [])).push (PySem.HandSPX.excO C hp.objs.size)).get? b = some o := fun b o e => Heap.get?_push_of_some _ (Heap.get?_push_of_some _ e)
  have hget : ((hp.push (PySem.W.kdv_tup [])).push (PySem.HandSPX.excO C hp.objs.size)).get? (hp.objs.size + 1) = some (PySem.HandSPX.excO C hp.objs.size) := by heap_get
  have I2 : Inv X pins σ (upd H1 (hp.objs.size + 1) (exo (hp.objs.size + 1) C none)) ⟨(hp.push (PySem.W.kdv_tup [])).push (PySem.HandSPX.excO C hp.objs.size), g, dr, tk, os⟩ :=
    I1.laid (t' := tk) (a := hp.objs.size + 1) (o := exo (hp.objs.size + 1) C none) (h' := (hp.push (PySem.W.kdv_tup [])).push (PySem.HandSPX.excO C hp.objs.size)) kk hsz (exo_ok hget)
  have r2 : Vals [V.ref (hp.objs.size + 1), z0] [Value.ref (hp.objs.size + 1), u0] := .cons rfl (.cons rz .nil)
  refine wpAny_call (PySem.HandSPX.bk_call_own F.excBase_ValueError (fun Y => PySem.HandSPX.refsVE_contains Y bm hbm) (I1.kIn _ _ hC) (PySem.W.looks_findIn I1.kIn iC) (fun self => PySem.W.bind_fn I1.kIn self tI)
    (codeAny_mono (F1.run _ X.stack _ _ ⟨[Value.ref (hp.objs.size + 1)], [(kn, u0)]⟩ [Value.ref (hp.objs.size + 1), u0] _ _ (fun _ _ _ => False) (hr.make C [] [(kn, u0)]) (I2.env0.make C [] [(kn, u0)]) (hb _ _ _ I2.kIn) r2 hq) fun r s' hq' => ?_))
  cases r with
  | error er => exact hx pins σ _ _ er s' I2 hq'
  | ok fl =>
    cases fl with
    | ret u =>
      obtain ⟨v, H2, I3, rv, ev, q3⟩ := I2.after hq'
      subst ev
      exact ⟨rv, ⟨V.ref (hp.objs.size + 1), H2, I3, rfl, q3⟩⟩
    | next => exact False.elim hq'
    | brk => exact False.elim hq'
    | cont => exact False.elim hq'
/-- C(), an own exception class without an own __init__ -/
theorem pe_exc0 {bmB : List Value} {B newId initId : String} (F : ExcBaseFacts B newId initId bmB) (q : PySem.W.excIn X.K C bmB newId = true) (gC : X.mg x = some (.ref C)) (kC : PySem.W.keepIn X.K (.ref C) = true) (hg : Gl X x)
    (hdb : (x == ("__debug__" : Str)) = false := by decide) :
    PE X (.Call (.Name x p) [] [] pos) (fun σ H Q => ∀ a, H a = none → Q (.ref a) (upd H a (ExO (.ref C) a))) := by
  refine ⟨fun pins s σ H Q I h => ?_⟩
  refine wpAny_Call_Name_kw (ld_glob I hg gC ?_ hdb)
  refine PySem.W.callWith_K0 I.kIn kC ?_
  show wpAny _ _ (call (.ref C) []) _ _ _
  obtain ⟨bm, N, nm, qn, bs, hdct, sn, sub, ab, col, dd, k0, k1, k2, k3, k5, mN, hC, hN, hni, T⟩ := exc_obj I.kIn q
  refine wpAny_call_exc_subT F T hC hN hni (fun h' a hm => ?_) (Nat.zero_le _)
  have hn : H a = none := I.hok.gone hm.new
  obtain ⟨t, ht, _, _⟩ := hm.there
  exact ⟨.ref a, upd H a (ExO (.ref C) a), I.laidN hm.keeps hm.new hn (exO_ok ht ⟨rfl, rfl⟩ rfl rfl rfl (show 4 < 6 by decide)), rfl, h a hn⟩
end
/-! ### an exception that stands -/
/-- at a stands an exception of the class at C -/
def ExV (H : Hp) (a C : Addr) : Prop := H a = some (exo a C none) ∨ (∃ d fs, H a = some (exo a C (some d)) ∧ H d = some (exd d fs)) ∨ H a = some (ExO (.ref C) a)
theorem ExV.same {H H' : Hp} {a C : Addr} (x : ExV H a C) (e : ∀ b o, H b = some o → H' b = some o) : ExV H' a C := by
  rcases x with x | ⟨d, fs, x, y⟩ | x
  · exact .inl (e _ _ x)
  · exact .inr (.inl ⟨d, fs, e _ _ x, e _ _ y⟩)
  · exact .inr (.inr (e _ _ x))
theorem ExV.inst {P : Program} {w : World} {H : Hp} {h : Heap} {a C : Addr} (x : ExV H a C) (ok : HOk P w H h) : ∃ ox od, PySem.W.InstAt h a ox C od := by
  rcases x with x | ⟨d, fs, x, y⟩ | x
  · obtain ⟨t1, ho⟩ := exo_at ok x
    exact ⟨_, none, ho, rfl, rfl, trivial⟩
  · obtain ⟨t1, ho⟩ := exo_at ok x
    obtain ⟨mA, hn, _⟩ := exd_at ok y
    obtain ⟨od, hd, _⟩ := lookIn_ns hn
    exact ⟨_, some od, ho, rfl, rfl, hd⟩
  · obtain ⟨⟨oe, vs, ho, hz, hv, _⟩, _, _⟩ := (show ObjOk P w H h a (.ext fun h => ∃ (oe : Obj) (vs : Array Value), h.get? a = some oe ∧ Zc (.ref C) none oe ∧ oe.data = .fields vs ∧ vs[1]? = some .none ∧ vs[2]? = some .none ∧ 4 < vs.size) from ok a _ x)
    obtain ⟨oc, o1, o2, osl⟩ := oe
    obtain ⟨h1, h2⟩ := hz
    dsimp only at h1 h2 hv
    subst h1 h2 hv
    exact ⟨_, none, ho, rfl, rfl, trivial⟩
/-- isinstance(e, c), e such an exception -/
def rIsX (K : PySem.W.Frag) : List V → Hp → VK → Prop := fun xs H Q => ∃ (a C : Addr) (c : V) (u : Value) (b : Bool), xs = [.ref a, c] ∧ ExV H a C ∧ ExcC K C ∧ ClsV c u ∧ PySem.W.kitOne K (.ref C) u = some b ∧ Q (.bl b) H
theorem call_isX {X : Cx} {K : PySem.W.Frag} (eK : X.K = K) : CallR X (.builtin "isinstance") (rIsX K) := by
  subst eK
  intro pins s σ H xs us Q I r h
  obtain ⟨a, C, c, u, b, rfl, at_, T, k, e, q⟩ := h
  obtain ⟨u1, u2, rfl, r1, r2⟩ := vals2 r
  have e2 := k.eq r2
  subst e2
  cases (show u1 = Value.ref a from r1)
  obtain ⟨ox, od, J⟩ := at_.inst I.hok
  have hcl : (PySem.W.clsIn X.K C).isSome = true := by obtain ⟨cd, hc, _⟩ := PySem.W.any_some T.hd; rw [hc]; rfl
  have hf : PySem.W.findObj X.K C od "__class__" = some (.bind (.builtin "getset_descriptor.__get__") (.builtin "object.__class__")) := by
    cases od with
    | none => exact PySem.W.findObj_dataN hcl T.ha T.hn T.ht
    | some od => exact PySem.W.findObj_data hcl T.ha T.hn T.ht
  exact PySem.W.kia_one (PySem.W.bk_kitx_exc T.hg T.hk T.hs T.hd hf T.hm) I.kIn J e (fun z => nomatch z) fun tk => ⟨.bl b, H, I.tok tk, rfl, q⟩
/-- e.f, e such an exception, f set by its own __init__ -/
def tXfV (K : PySem.W.Frag) (f : Str) (te : TE) : TE := fun σ H Q => te σ H fun x H1 => ∃ (a C d : Addr) (fs : List (Str × V)) (v : V), x = .ref a ∧ H1 a = some (exo a C (some d)) ∧ H1 d = some (exd d fs) ∧ XfC K C ∧ PySem.W.findIn K (.ref C) f = some none ∧ fs.lookup f = some v ∧ Q v H1
theorem pe_xfV {X : Cx} {K : PySem.W.Frag} {e : Expr} {te : TE} {pos : Pos} {n : Str} (eK : X.K = K) (he : PE X e te) (hb : attributeBase e n X.env (eval e X.env) = eval e X.env := by rfl) : PE X (.Attribute e n pos) (tXfV K n te) := by
  subst eK
  refine ⟨fun pins s σ H Q I h => ?_⟩
  refine attr_of hb (thn (he.run pins s σ H _ I h) fun u s1 hh => ?_)
  obtain ⟨x, H1, I1, rx, a, C, d, fs, v, ex, ea, ed, T, hno, l, q⟩ := hh
  subst ex
  obtain rfl : u = Value.ref a := rx
  obtain ⟨t1, ho⟩ := exo_at I1.hok ea
  obtain ⟨mA, hns, hr⟩ := exd_at I1.hok ed
  obtain ⟨od, hod, hl⟩ := lookIn_ns hns
  obtain ⟨u, hu, ru⟩ := RelO.some_of (v := v) (o := mA n) (by rw [← l]; exact hr n)
  have J : PySem.W.InstAt s1.heap a ({ cls := .ref C, dict := some d, data := .fields #[.ref t1, .none, .none, .none, .bool false, .none] } : Obj) C (some od) := ⟨ho, rfl, rfl, hod⟩
  exact HandSPX.exc_get I1.kIn J T.ga T.gg T.exC (PySem.W.findObj_own T.hdC hno rfl (by rw [hl, hu])) (handed_of ru) ⟨v, H1, I1.tok _, ru, q⟩
end Bk

/-! a lambda that captures nothing, kept as a value and called later -/
namespace Bk
open PySem PySem.Spec PyProof.Rows L2 LamX NdefX
/-- all but the tables stay, and nothing that was tracked is gone -/
structure ExtM (H H' : Hp) : Prop where
  ext : ExtN H H'
  non : ∀ b, H' b = none → H b = none
theorem ExtM.trans {H H1 H2 : Hp} (a : ExtM H H1) (b : ExtM H1 H2) : ExtM H H2 := ⟨a.ext.trans b.ext, fun c e => a.non c (b.non c e)⟩
theorem ExtM.of {H H' : Hp} (e : ∀ b o, H b = some o → H' b = some o) : ExtM H H' := ⟨ExtN.of e, fun b n => by
  cases q : H b with
  | none => rfl
  | some o => rw [e b o q] at n; cases n⟩
theorem ExtM.grow {H H' : Hp} {D : Addr} {o : HO} (a : ExtM H H') (n : H D = none) : ExtM H (upd H' D o) := ⟨fun b u hb k => by
  rw [upd_ne (ne_of_none hb n)]
  exact a.ext b u hb k, fun b e => a.non b (upd_none e)⟩
/-- its words, its code object -/
structure LF where
  qual : Str
  params : Arguments
  body : Expr
  scope : Scope
  cl : List (Str × Addr)
  c : Addr
/-- the object at f is this lambda -/
def LamO (f : Addr) (F : LF) : HO := .ext fun h => ∃ pm ctv : Value, h.get? f = some (PySem.W.kla_obj "<lambda>" F.qual F.params F.body F.scope F.cl pm F.c ctv)
/-- as a nested def without a body: for the context -/
def LF.nf (F : LF) : NF := ⟨"<lambda>", F.qual, F.params, [], F.scope, F.cl, F.c⟩
theorem lamO_ne {f : Addr} {F : LF} (ps : Array Value) : LamO f F ≠ .tbl ps := fun z => by
  unfold LamO at z
  cases z
theorem lamO_at {P : Program} {w : World} {H : Hp} {h : Heap} {f : Addr} {F : LF} (hok : HOk P w H h) (e : H f = some (LamO f F)) : ∃ pm ctv : Value, h.get? f = some (PySem.W.kla_obj "<lambda>" F.qual F.params F.body F.scope F.cl pm F.c ctv) := by
  obtain ⟨z, _, _⟩ := hok f _ e
  exact z
section
variable {X : Cx} {pins : List (Addr × Obj)} {σ : L2.St} {H : Hp} {s : Shared}
theorem inv_lam {F : LF} {o : Obj} {t' : Nat} {pm ctv : Value} (I : Inv X pins σ H s) (ho : o = PySem.W.kla_obj "<lambda>" F.qual F.params F.body F.scope F.cl pm F.c ctv) :
    Inv X pins σ (upd H s.heap.objs.size (LamO s.heap.objs.size F)) { s with heap := s.heap.push o, toks := t' } := by
  subst ho
  refine I.laid (a := s.heap.objs.size) (fun b u e => Heap.get?_push_of_some _ e) (Nat.le_refl _) ?_
  have e : (s.heap.push (PySem.W.kla_obj "<lambda>" F.qual F.params F.body F.scope F.cl pm F.c ctv)).get? s.heap.objs.size = some (PySem.W.kla_obj "<lambda>" F.qual F.params F.body F.scope F.cl pm F.c ctv) := Heap.get?_push_size _ rfl
  exact ⟨⟨pm, ctv, e⟩, ⟨_, e⟩, fun h1 h2 ⟨p, t, z⟩ st => ⟨p, t, st _ z⟩⟩
/-- the lambda is made: its code object is new, or found in the table -/
theorem lam_make3 {T : List (Addr × Str)} {c P : Addr} {params : Arguments} {body : Expr} {scope : Scope} {pos : Pos} {E : Value → Shared → Prop} {Q : Value → Shared → Prop} (I : Inv X pins σ H s) (TB : TabB X.base X.mg c P) (hcode : X.env.code = .ref c)
    (hm : (P, X.env.qual ++ "<lambda>") ∈ T) (hu : ∀ p ∈ T, p.1 = P → p.2 = X.env.qual ++ "<lambda>") (hT : Tabs T H) (hdef : defaultsOf params X.env = ([], [])) (hfree : ∀ y ∈ scope.names, y.2 = .free → ∃ c, X.env.cells.lookup y.1 = some c)
    (h : ∀ (f c' : Addr) (H1 : Hp) (s' : Shared), Inv X pins σ H1 s' → ExtM H H1 → Tabs T H1 → H f = none → H1 f = some (LamO f ⟨X.env.qual ++ "<lambda>", params, body, scope, cloFrom X.env.cells scope.names [], c'⟩) → H1 c' = some (CodeO c' (X.env.qual ++ "<lambda>")) → Q (.ref f) s') :
    wpAny (model X.prog X.w) X.A (eval (.Lambda params body scope pos) X.env) Q E s := by
  obtain ⟨ps, hP, ht, ha⟩ := hT _ hm
  refine PySem.W.kla_eval hdef ?_
  have bP : s.heap.BuiltinsAt X.mg P := TB.bm.keeps I.bk
  have hP' : s.heap.get? P = some { cls := .none, data := .fields ps } := I.hok P _ hP
  cases hc : codeAmong pos ps.toList with
  | none =>
    refine PySem.W.kla_makeFunction (mg := X.mg) (c := c) (P := P) (ps := ps) (closure_ok hfree) I.ok.glob (I.mod.glob.keeps I.bk) hcode (TB.code.keeps I.bk) hP' ht hc TB.gP bP fun c' ctv h' tk hx hge hlt hrec htb => ?_
    obtain ⟨c2, oc, vs, t, e2, hoc, hd, hv⟩ := hrec
    cases e2
    have nC : H c' = none := I.hok.fresh hge
    have I1 := inv_table (t' := tk) (more := #[rawInt pos.line, rawInt pos.col, .ref c']) (h' := h') I hP (fun b o hb e => hx b o hb e) htb hge ⟨oc, vs, t, hoc, hd, hv⟩
    have hE : ExtN H (upd (upd H P (.tbl (ps ++ #[rawInt pos.line, rawInt pos.col, .ref c']))) c' (CodeO c' (X.env.qual ++ "<lambda>"))) := fun b o e n => by
      rw [upd_ne (ne_of_none e nC), upd_ne (fun z => n ps (Option.some.inj (e.symm.trans (by rw [z]; exact hP))))]
      exact e
    have eL : (ps ++ #[rawInt pos.line, rawInt pos.col, .ref c']).toList = ps.toList ++ [rawInt pos.line, rawInt pos.col, .ref c'] := by simp
    have T1 : Tabs T (upd (upd H P (.tbl (ps ++ #[rawInt pos.line, rawInt pos.col, .ref c']))) c' (CodeO c' (X.env.qual ++ "<lambda>"))) := fun p hp => by
      by_cases hb : p.1 = P
      · rw [hu p hp hb, hb]
        refine ⟨_, by rw [upd_ne (ne_of_none hP nC), upd_same], by rw [eL]; exact PySem.TriplesOk_snoc _ _ _ _ ht, fun p' cv hcv => ?_⟩
        rw [eL] at hcv
        rcases among_app _ ht hcv with z | z
        · obtain ⟨c0, e1, e2⟩ := ha p' cv z
          exact ⟨c0, e1, hE _ _ e2 codeO_ne⟩
        · exact ⟨c', z, upd_same⟩
      · obtain ⟨ps', a1, a2, a3⟩ := hT p hp
        refine ⟨ps', by rw [upd_ne (ne_of_none a1 nC), upd_ne hb]; exact a1, a2, fun p' cv hcv => ?_⟩
        obtain ⟨c0, e1, e2⟩ := a3 p' cv hcv
        exact ⟨c0, e1, hE _ _ e2 codeO_ne⟩
    have nF := I1.hok.fresh (Nat.le_refl _)
    have I2 := inv_lam (F := ⟨X.env.qual ++ "<lambda>", params, body, scope, cloFrom X.env.cells scope.names [], c'⟩) (t' := tk) (pm := (X.mg "__name__").getD .none) (ctv := ctv) I1 rfl
    refine h h'.objs.size c' _ _ I2 ⟨fun b o e n => ?_, fun b e => upd_none (upd_none (upd_none e))⟩ (T1.ext fun b o e => ?_) (I.hok.fresh (Nat.le_trans hge (Nat.le_of_lt hlt))) upd_same ?_
    · have e1 := hE b o e n
      exact (upd_ne (ne_of_none e1 nF)).trans e1
    · exact (upd_ne (ne_of_none e nF)).trans e
    · exact (upd_ne (Nat.ne_of_lt hlt)).trans upd_same
  | some cv =>
    obtain ⟨c', e, hco⟩ := ha pos cv hc
    subst e
    refine PySem.W.kla_makeFunctionHit (mg := X.mg) (c := c) (P := P) (ps := ps) (closure_ok hfree) I.ok.glob (I.mod.glob.keeps I.bk) hcode (TB.code.keeps I.bk) hP' ht hc bP fun ctv h' tk hx hsz => ?_
    have I1 : Inv X pins σ H { s with heap := h', toks := tk } := I.kept hx
    have nF : H h'.objs.size = none := I1.hok.fresh (Nat.le_refl _)
    have I2 := inv_lam (F := ⟨X.env.qual ++ "<lambda>", params, body, scope, cloFrom X.env.cells scope.names [], c'⟩) (t' := tk) (pm := (X.mg "__name__").getD .none) (ctv := ctv) I1 rfl
    refine h h'.objs.size c' _ _ I2 ⟨fun b o e n => ?_, fun b e => upd_none e⟩ (hT.ext fun b o e => ?_) nF upd_same ?_
    · exact (upd_ne (ne_of_none e nF)).trans e
    · exact (upd_ne (ne_of_none e nF)).trans e
    · exact (upd_ne (ne_of_none hco nF)).trans hco
/-- a lambda as a value -/
def tLamV (T : List (Addr × Str)) (mk : Addr → LF) : TE := fun σ H Q => Tabs T H ∧ ∀ (f c' : Addr) (H1 : Hp), ExtM H H1 → Tabs T H1 → H f = none → H1 f = some (LamO f (mk c')) → H1 c' = some (CodeO c' (mk c').qual) → Q (.ref f) H1
/-- no parameter's default, no captured name -/
structure LamN (scope : Scope) : Prop where
  free : ∀ y ∈ scope.names, y.2 ≠ .free
def lamNB (scope : Scope) : Bool := scope.names.all fun y => !decide (y.2 = .free)
theorem lamN_by {scope : Scope} (h : lamNB scope = true) : ∀ y ∈ scope.names, y.2 ≠ .free := by
  unfold lamNB at h
  simp only [Bool.not_eq_true', decide_eq_false_iff_not, List.all_eq_true] at h
  exact h
theorem clo_nil {cells : List (Str × Addr)} {names : List (Str × NameKind)} (h : ∀ y ∈ names, y.2 ≠ .free) : cloFrom cells names [] = [] := by
  cases e : cloFrom cells names [] with
  | nil => rfl
  | cons a r =>
    have m : a ∈ cloFrom cells names [] := by rw [e]; exact List.mem_cons_self
    rcases cloFrom_mem (n := a.1) (c := a.2) m with z | ⟨z, _⟩
    · cases z
    · exact absurd rfl (h _ z)
theorem pe_lam {T : List (Addr × Str)} {c P : Addr} {q : Str} {params : Arguments} {body : Expr} {scope : Scope} {pos : Pos} (eq : X.env.qual ++ "<lambda>" = q) (TB : TabB X.base X.mg c P) (hcode : X.env.code = .ref c) (hm : (P, q) ∈ T) (hu : ∀ p ∈ T, p.1 = P → p.2 = q)
    (hdef : defaultsOf params X.env = ([], []) := by rfl) (hn : lamNB scope = true := by decide +kernel) : PE X (.Lambda params body scope pos) (tLamV T fun c' => ⟨q, params, body, scope, [], c'⟩) := by
  subst eq
  refine ⟨fun pins s σ H Q I h => ?_⟩
  have hf := lamN_by hn
  refine lam_make3 I TB hcode hm hu h.1 hdef (fun y hy e => absurd e (hf y hy)) fun f c' H1 s' I1 e1 t1 n1 l1 c1 => ?_
  rw [clo_nil hf] at l1
  exact ⟨.ref f, H1, I1, rfl, h.2 f c' H1 e1 t1 n1 l1 c1⟩
end
/-! ### the call -/
structure LOk (P : Program) (w : World) (K : PySem.W.Frag) (mg : Str → Option Value) (base : Heap) (CX : CXT) (k : Nat) (f : Addr) (F : LF) (sp : Sp) : Prop where
  run : ∀ (A : Around) (outer : List Env) (s : Shared) (H : Hp) (us : List Value) (vs : List V) (Q : VK) (E : XK), Room k A → Env0 P w K mg base A outer s H → H f = some (LamO f F) → H F.c = some (CodeO F.c F.qual) →
    Vals vs us → sp vs H Q E → codeAny (model P w) A (.call (.ref f) ⟨us, []⟩) (CR CX outer P w H s Q E) s
section
variable {CX : CXT} {P : Program} {w : World} {K : PySem.W.Frag} {mg : Str → Option Value} {base : Heap} {N ps : List Str} {F : LF} {f : Addr} {k : Nat} {sp : Sp}
theorem lok_of (S : NScope N ps [] F.scope) (hcl : F.cl = []) (hb : ∀ (pm ctv : Value) (us : List Value), us.length = ps.length → bindArgs (PySem.W.kla_fn "<lambda>" F.qual F.params F.body F.scope F.cl pm (.ref F.c) ctv) ⟨us, []⟩ = pure (ps.zip us)) (len : ∀ vs H Q E, sp vs H Q E → vs.length = ps.length)
    (hbody : ∀ (A : Around) (outer : List Env) (s : Shared) (H : Hp) (vs : List V) (Q : VK) (E : XK), Room k (A.deeper (envF F.nf f s.heap.objs.size)) → sp vs H Q E → ∃ t, PE (ncx CX P w K mg base N F.nf f A outer s H E) F.body t ∧ t (startF N vs []) H Q) :
    LOk P w K mg base CX (k + 1) f F sp := by
  refine ⟨fun A outer s H us vs Q E hr e0 hf hc r hsp => ?_⟩
  have hl := len _ _ _ _ hsp
  have lim : s.heap.NoLimit := e0.mod.nolimit.keeps fun b o e => (e0.bs b o e).1
  obtain ⟨pm, ctv, ho⟩ := lamO_at e0.hok hf
  refine PySem.W.kla_callFunE hr.depth ho rfl S.co S.gen rfl (codeO_at e0.hok hc) ?_
  rw [hb pm ctv us (by rw [← r.length]; exact hl)]
  refine wpAny_pure (wpAny_newFunctionEnv S.nocell (fun ⟨n, _⟩ hy => S.par n (List.of_mem_zip hy).1) (fun h₁ hns hsb => ⟨lim.fresh _ hsb, ?_⟩) S.kind)
  show codeAny _ _ (.expr F.body (envF F.nf f s.heap.objs.size)) _ _
  have kp : ∀ b o, s.heap.get? b = some o → h₁.get? b = some o := fun b o e => hsb.extBut b o (Nat.ne_of_lt (Heap.lt_size e)) (Heap.get?_push_of_some _ e)
  obtain ⟨t, ht, hq⟩ := hbody A outer s H vs Q E (hr.deeper _) hsp
  have C : CellsAt F.nf.cl [] [] s.heap H := by
    refine ⟨rfl, fun y c e => ?_, fun x y c e1 e2 => ?_, fun i y e => ?_⟩
    · have e : F.cl.lookup y = some c := e
      rw [hcl] at e
      cases e
    · have e1 : F.cl.lookup x = some c := e1
      rw [hcl] at e1
      cases e1
    · simp at e
  have I : Inv (ncx CX P w K mg base N F.nf f A outer s H E) [] (startF N vs []) H { s with heap := h₁, toks := s.toks + (ps.zip us).length } := inv_startN (F := F.nf) (ps := ps) (fr := []) S hr.hd e0 hl r C hns kp
  refine PySem.W.kla_codeExpr (wpAny_mono (ht.run [] _ (startF N vs []) H Q I hq) (fun v s' hq => ?_) fun e s' hq => hq)
  obtain ⟨w', H', J', rv, q⟩ := hq
  exact ⟨w', H', J'.os, J'.bare, J'.base, J'.hok, rv, q⟩
end
/-- x(e, ..), x a local name that holds such a lambda -/
def tCallL (P : Program) (w : World) (K : PySem.W.Frag) (mg : Str → Option Value) (base : Heap) (CX : CXT) (k i : Nat) (E : XK) (t : TA) : TE := fun σ H Q => ∃ (f : Addr) (F0 : LF), σ[i]? = some (some (.ref f)) ∧ H f = some (LamO f F0) ∧
  t σ H fun vs H1 => ∃ (F : LF) (sp : Sp), H1 f = some (LamO f F) ∧ H1 F.c = some (CodeO F.c F.qual) ∧ LOk P w K mg base CX k f F sp ∧ sp vs H1 Q E
section
variable {X : Cx} {CX : CXT} {i j k : Nat} {x : Str} {E : XK} {t : TA} {e : Expr} {es : List Expr} {p pos : Pos}
theorem lamAt_of {pins : List (Addr × Obj)} {σ : L2.St} {H : Hp} {s : Shared} {f : Addr} {F : LF} (I : Inv X pins σ H s) (e : H f = some (LamO f F)) : PySem.W.FnAt f s.heap := by
  obtain ⟨pm, ctv, ho⟩ := lamO_at I.hok e
  exact ⟨_, none, _, #[], ho⟩
theorem pe_callL (hr : Room j X.A) (hk : k ≤ j) (hx : Passes CX X E) (hN : X.N[i]? = some x) (hv : Vis X.env.scope x) (ha : PA X (e :: es) t)
    (hd : (x == ("__debug__" : Str)) = false := by decide) (hcd : (x == ("__classdict__" : Str)) = false := by decide)
    (he : starEach (e :: es) X.env = (false, eval e X.env) :: starEach es X.env := by rfl) (hpl : (backTo pos (starEach es X.env)).any (·.1) = false := by rfl) :
    PE X (.Call (.Name x p) (e :: es) [] pos) (tCallL X.prog X.w X.K X.mg X.base CX k i E t) := by
  refine ⟨fun pins s σ H Q I h => ?_⟩
  obtain ⟨f, F0, hs, hf, ht⟩ := h
  refine wpAny_Call_Name_kw (thn ((pe_var (pos := p) hN hv hd hcd).run pins s σ H (fun v H1 => v = .ref f ∧ H1 = H) I ⟨.ref f, hs, rfl, rfl⟩) fun u s1 ⟨v, H1, I1, r1, q1⟩ => ?_)
  obtain ⟨ev, eH⟩ := q1
  subst ev
  rw [eH] at I1
  obtain rfl : u = Value.ref f := r1
  refine PySem.W.callWith_F (first := []) (lamAt_of I1 hf) (thn (ha.run pos pins s1 σ H _ I1 ht) fun us s2 ⟨vs, H2, I2, r, F, sp, h1, h2, L, q⟩ => ⟨lamAt_of I2 h1, ?_⟩) he hpl
  show wpAny _ _ (call (.ref f) us) _ _ _
  refine wpAny_call (codeAny_mono (L.run X.A X.stack s2 H2 us vs Q E (hr.mono hk) I2.env0 h1 h2 r q) fun r s' hq => ?_)
  cases r with
  | error e => exact hx pins σ H2 s2 e s' I2 hq
  | ok fl =>
    cases fl with
    | ret u => exact I2.after hq
    | next => exact False.elim hq
    | brk => exact False.elim hq
    | cont => exact False.elim hq
end
end Bk

namespace Bk
open PySem PySem.Spec PyProof.Rows L2
/-- either of two readings of what is walked -/
theorem pi_or {X : Cx} {tg l : Expr} {w1 w2 : TI} (h1 : PI X tg l w1) (h2 : PI X tg l w2) : PI X tg l (fun σ H R => w1 σ H R ∨ w2 σ H R) := ⟨fun pins s σ H R I h => h.elim (h1.run pins s σ H R I) (h2.run pins s σ H R I)⟩
/-- dict(pairs), K told -/
def rDictP (K : PySem.W.Frag) : List V → Hp → VK → Prop := fun xs H Q => ∃ (a : Addr) (ps : List Addr) (kvs : List (Key × V)), xs = [.ref a] ∧ SqL K H a (ps.map V.ref) ∧ Paired (fun p kv => SqT K H p [kV kv.1, kv.2]) ps kvs ∧ ∀ p, H p = none → Q (.ref p) (upd H p (.dK (mergeK [] kvs)))
theorem kDictP {X : Cx} {K : PySem.W.Frag} (hc : X.calm = true) (e : X.K = K := by rfl) : CallR X (.type "dict") (rDictP K) := e ▸ call_dictP hc
end Bk

namespace Bk
open PySem PySem.Spec PyProof.Rows L2 LamX NdefX
section
variable {P : Program} {w : World} {K : PySem.W.Frag} {mg : Str → Option Value} {base : Heap}
/-- as Fun.ok, for a def whose code object's address is known -/
theorem Fun.okC {x qual : Str} {st : Stmt} {f c : Addr} {fd : FuncData} {N ps : List Str} {k : Nat} {sp : Sp} (F : Fun K x qual st f fd) (hc : fd.code = .ref c) (S : FnScope N ps (defScope st)) (len : ∀ vs H Q E, sp vs H Q E → vs.length = ps.length)
    (hbody : ∀ (A : Around) (outer : List Env) (s : Shared) (H : Hp) (vs : List V) (Q : VK) (E : XK), Room k (A.deeper (envOfC qual (defScope st) s.heap.objs.size f (.ref c))) → sp vs H Q E →
      ∃ t, PSs (cxOf CX0 P w K mg base N qual (defScope st) f (.ref c) A outer s H E).nox (defBody st) t ∧ t { nx := fun _ H' => Q .non H', rt := Q } (L2.start N vs) H) : FnOk P w K mg base CX0 (k + 1) f fd ps sp := by
  obtain ⟨oc, od, kV, doc, pm, an, cdv, ct, osl, rfl, lk, hcd⟩ := F.ex
  obtain rfl : cdv = .ref c := hc
  refine fn_of lk hcd S len fun A outer s H vs Q E hr hsp => ?_
  obtain ⟨t, h, q⟩ := hbody A outer s H vs Q E hr hsp
  exact ⟨t, h.nox, q⟩
/-- one value by place, one by its name -/
theorem Fun.bindK {x qual : Str} {st : Stmt} {f : Addr} {fd : FuncData} {ps : List Str} {kn : Str} (F : Fun K x qual st f fd)
    (h : ∀ (kV doc pm : Value) (an : Option Addr) (cdv ct a v : Value), bindArgs (PySem.W.fnOf x qual (defArgs st) (defBody st) (defScope st) .none kV doc pm an cdv ct) ⟨[a], [(kn, v)]⟩ = pure (ps.zip [a, v])) :
    ∀ (s : Shared) (a v : Value), K.In s.heap → BindsTo s fd ⟨[a], [(kn, v)]⟩ (ps.zip [a, v]) := by
  obtain ⟨oc, od, kV, doc, pm, an, cdv, ct, osl, rfl, lk, hcd⟩ := F.ex
  exact fun s a v _ => BindsTo.of_looks fun M => PySem.W.Looks.of_pure (h kV doc pm an cdv ct a v)
/-- an own error class with one field: what its making and its instances ask -/
def ErrF (P : Program) (w : World) (K : PySem.W.Frag) (mg : Str → Option Value) (base : Heap) (x f : Str) (C : Addr) : Prop := ∃ (fI : Addr) (fd : FuncData), ExT K mg x C fI f ∧ ExcC K C ∧ FnOk P w K mg base CX0 1 fI fd ["self", f] (spExcInit C f) ∧ Binds K fd ["self", f] [] ∧
  ∀ (s : Shared) (a v : Value), K.In s.heap → BindsTo s fd ⟨[a], [(f, v)]⟩ (([("self" : Str), f] : List Str).zip [a, v])
/-- a lambda that reads a field -/
def spFld (K : PySem.W.Frag) (C : Addr) (f : Str) : Sp := fun vs H Q _ => ∃ (a d : Addr) (v : V), vs = [.ref a] ∧ H a = some (exo a C (some d)) ∧ H d = some (exd d [(f, v)]) ∧ Q v H
theorem lok_fld {q : Str} {params : Arguments} {scope : Scope} {c' fl C : Addr} {pn f : Str} {p1 p2 : Pos} (T : XfC K C) (hno : PySem.W.findIn K (.ref C) f = some none) (S : nscB [pn] [pn] [] scope = true)
    (hb : ∀ (pm ctv : Value) (us : List Value), us.length = [pn].length → bindArgs (PySem.W.kla_fn "<lambda>" q params (.Attribute (.Name pn p1) f p2) scope [] pm (.ref c') ctv) ⟨us, []⟩ = pure ([pn].zip us))
    (hd : (pn == ("__debug__" : Str)) = false) (hcd : (pn == ("__classdict__" : Str)) = false)
    (hab : ∀ env : Env, attributeBase (.Name pn p1) f env (eval (.Name pn p1) env) = eval (.Name pn p1) env) : LOk P w K mg base CX0 1 fl ⟨q, params, .Attribute (.Name pn p1) f p2, scope, [], c'⟩ (spFld K C f) := by
  have S := nscope_by S
  refine lok_of (k := 0) (N := [pn]) (ps := [pn]) S rfl hb (fun vs H Q E h => ?_) fun A outer s H vs Q E hr h => ?_
  · obtain ⟨a, d, v, rfl, _⟩ := h
    rfl
  · obtain ⟨a, d, v, rfl, ha, hdd, hq⟩ := h
    have vis : Vis scope pn := .inl (S.par pn List.mem_cons_self)
    refine ⟨_, pe_xfV (K := K) rfl (pe_var (i := 0) rfl vis hd hcd) (hab _), ?_⟩
    exact ⟨.ref a, rfl, a, C, d, _, v, rfl, ha, hdd, T, hno, by simp [List.lookup], hq⟩
/-- the call of a kept lambda, all told -/
theorem pe_callLk {X : Cx} {CX : CXT} {i j k : Nat} {x : Str} {E : XK} {t : TA} {e : Expr} {es : List Expr} {p pos : Pos} (hr : Room j X.A) (hk : k ≤ j) (hx : Passes CX X E) (hN : X.N[i]? = some x) (hv : Vis X.env.scope x) (ha : PA X (e :: es) t)
    (e1 : X.prog = P := by rfl) (e2 : X.w = w := by rfl) (e3 : X.K = K := by rfl) (e4 : X.mg = mg := by rfl) (e5 : X.base = base := by rfl) (hd : (x == ("__debug__" : Str)) = false := by decide) (hcd : (x == ("__classdict__" : Str)) = false := by decide)
    (he : starEach (e :: es) X.env = (false, eval e X.env) :: starEach es X.env := by rfl) (hpl : (backTo pos (starEach es X.env)).any (·.1) = false := by rfl) : PE X (.Call (.Name x p) (e :: es) [] pos) (tCallL P w K mg base CX k i E t) := by
  subst e1 e2 e3 e4 e5
  exact pe_callL hr hk hx hN hv ha hd hcd he hpl
/-! ### a triple: the error by place, by name, what reads its field -/
theorem exd_tbl {e : Addr} {fs : List (Str × V)} {ps : Array Value} : exd e fs ≠ .tbl ps := fun z => by
  have z' : HO.ext _ = HO.tbl ps := z
  cases z'
def Trip (P : Program) (w : World) (K : PySem.W.Frag) (mg : Str → Option Value) (base : Heap) (H : Hp) (C : Addr) (f : Str) (x v : V) : Prop := ∃ (t a1 d1 a2 d2 fl : Addr) (F : LF), v = .ref t ∧ H t = some (.tup [.ref a1, .ref a2, .ref fl]) ∧ H a1 = some (exo a1 C (some d1)) ∧ H d1 = some (exd d1 [(f, x)]) ∧
  H a2 = some (exo a2 C (some d2)) ∧ H d2 = some (exd d2 [(f, x)]) ∧ H fl = some (LamO fl F) ∧ H F.c = some (CodeO F.c F.qual) ∧ LOk P w K mg base CX0 1 fl F (spFld K C f)
theorem Trip.extN {H H' : Hp} {C : Addr} {f : Str} {x v : V} (h : Trip P w K mg base H C f x v) (e : ExtN H H') : Trip P w K mg base H' C f x v := by
  obtain ⟨t, a1, d1, a2, d2, fl, F, hv, ht, h1, h2, h3, h4, h5, h6, L⟩ := h
  exact ⟨t, a1, d1, a2, d2, fl, F, hv, e _ _ ht (fun _ z => nomatch z), e _ _ h1 (fun _ => exo_tbl), e _ _ h2 (fun _ => exd_tbl), e _ _ h3 (fun _ => exo_tbl), e _ _ h4 (fun _ => exd_tbl), e _ _ h5 lamO_ne, e _ _ h6 codeO_ne, L⟩
theorem Trip.updL {H : Hp} {C D : Addr} {f : Str} {x v : V} {l : List V} {o : HO} (h : Trip P w K mg base H C f x v) (hD : H D = some (.lst l)) : Trip P w K mg base (upd H D o) C f x v := by
  obtain ⟨t, a1, d1, a2, d2, fl, F, hv, ht, h1, h2, h3, h4, h5, h6, L⟩ := h
  have k : ∀ {b : Addr} {u : HO}, H b = some u → u ≠ .lst l → upd H D o b = some u := fun hb n => by
    rw [upd_ne (ne_of hb hD n)]
    exact hb
  have nx : ∀ (φ : Heap → Prop), HO.ext φ ≠ HO.lst l := fun φ z => nomatch z
  exact ⟨t, a1, d1, a2, d2, fl, F, hv, k ht (fun z => nomatch z), k h1 (nx _), k h2 (nx _), k h3 (nx _), k h4 (nx _), k h5 (nx _), k h6 (nx _), L⟩
theorem same_exc {H : Hp} {a dx : Addr} {u v z : HO} (na : H a = none) (nd : upd H a u dx = none) (ne : dx ≠ a) : Same H (upd (upd (upd H a u) dx v) a z) := fun b o e => by
  have nb : b ≠ a := ne_of_none e na
  have nd' : H dx = none := by rw [upd_ne ne] at nd; exact nd
  rw [upd_ne nb, upd_ne (ne_of_none e nd'), upd_ne nb]
  exact e
theorem TabS.updL {H : Hp} {D P0 : Addr} {q : Str} {l : List V} {o : HO} (t : TabS H P0 q) (hD : H D = some (.lst l)) : TabS (upd H D o) P0 q := by
  obtain ⟨ps, h1, h2, h3⟩ := t
  refine ⟨ps, by rw [upd_ne (ne_of h1 hD (fun z => nomatch z))]; exact h1, h2, fun pos cv hc => ?_⟩
  obtain ⟨c, e1, e2⟩ := h3 pos cv hc
  refine ⟨c, e1, ?_⟩
  have nx : CodeO c q ≠ HO.lst l := fun z => by
    unfold CodeO at z
    cases z
  rw [upd_ne (ne_of e2 hD nx)]
  exact e2
theorem Tabs.updL {T : List (Addr × Str)} {H : Hp} {D : Addr} {l : List V} {o : HO} (t : Tabs T H) (hD : H D = some (.lst l)) : Tabs T (upd H D o) := fun p hp => Bk.TabS.updL (t p hp) hD
theorem trip {T : List (Addr × Str)} {mk : Addr → LF} {σ : L2.St} {H : Hp} {Q : VK} {C : Addr} {f : Str} {x : V} (hx : σ[0]? = some (some x)) (hT : Tabs T H) (hc : ∀ c', (mk c').c = c') (hL : ∀ fl c', LOk P w K mg base CX0 1 fl (mk c') (spFld K C f))
    (q : ∀ v H', ExtM H H' → Tabs T H' → Trip P w K mg base H' C f x v → Q v H') :
    tTup (tCons (tOexV C (spExcInit C f) (tCons (tVar 0) tNil)) (tCons (tOexK C (spExcInit C f) (tCons (tVar 0) tNil)) (tCons (tLamV T mk) tNil))) σ H Q := by
  refine ⟨x, hx, by show 1 ≤ 1000; decide, fun a1 n1 => ⟨a1, x, rfl, upd_same, fun d1 m1 k1 => ⟨rfl, ?_⟩⟩⟩
  have e1 := same_exc (u := exo a1 C none) (v := exd d1 [(f, x)]) (z := exo a1 C (some d1)) n1 m1 k1
  have f1 : (upd (upd (upd H a1 (exo a1 C none)) d1 (exd d1 [(f, x)])) a1 (exo a1 C (some d1))) a1 = some (exo a1 C (some d1)) := upd_same
  have g1 : (upd (upd (upd H a1 (exo a1 C none)) d1 (exd d1 [(f, x)])) a1 (exo a1 C (some d1))) d1 = some (exd d1 [(f, x)]) := by rw [upd_ne k1]; exact upd_same
  generalize upd (upd (upd H a1 (exo a1 C none)) d1 (exd d1 [(f, x)])) a1 (exo a1 C (some d1)) = H1 at e1 f1 g1 ⊢
  refine ⟨x, hx, rfl, fun a2 n2 => ⟨a2, x, rfl, upd_same, fun d2 m2 k2 => ⟨rfl, ?_⟩⟩⟩
  have e2 := same_exc (u := exo a2 C none) (v := exd d2 [(f, x)]) (z := exo a2 C (some d2)) n2 m2 k2
  have f2 : (upd (upd (upd H1 a2 (exo a2 C none)) d2 (exd d2 [(f, x)])) a2 (exo a2 C (some d2))) a2 = some (exo a2 C (some d2)) := upd_same
  have g2 : (upd (upd (upd H1 a2 (exo a2 C none)) d2 (exd d2 [(f, x)])) a2 (exo a2 C (some d2))) d2 = some (exd d2 [(f, x)]) := by rw [upd_ne k2]; exact upd_same
  generalize upd (upd (upd H1 a2 (exo a2 C none)) d2 (exd d2 [(f, x)])) a2 (exo a2 C (some d2)) = H2 at e2 f2 g2 ⊢
  have e02 := Same.trans e1 e2
  refine ⟨hT.ext e02, fun fl c' H3 e3 t3 nf l3 c3 => ⟨by show 3 ≤ sizeLine; decide, fun t nt => ?_⟩⟩
  have et := same_upd (o := HO.tup [V.ref a1, V.ref a2, V.ref fl]) nt
  have k : ∀ {b : Addr} {u : HO}, H2 b = some u → (∀ ps, u ≠ .tbl ps) → upd H3 t (HO.tup [V.ref a1, V.ref a2, V.ref fl]) b = some u := fun hb n => et _ _ (e3.ext _ _ hb n)
  refine q _ _ (((ExtM.of e02).trans e3).trans (ExtM.of et)) (t3.ext et) ⟨t, a1, d1, a2, d2, fl, mk c', rfl, upd_same, k (e2 _ _ f1) (fun _ => exo_tbl), k (e2 _ _ g1) (fun _ => exd_tbl), k f2 (fun _ => exo_tbl), k g2 (fun _ => exd_tbl), et _ _ l3, et _ _ ?_, hL fl c'⟩
  rw [hc c']
  exact c3
/-- .. at the head of a list -/
theorem tripL {T : List (Addr × Str)} {mk : Addr → LF} {σ : L2.St} {H : Hp} {Q : VK} {C : Addr} {f : Str} {x : V} {ta : TA} (hx : σ[0]? = some (some x)) (hT : Tabs T H) (hc : ∀ c', (mk c').c = c') (hL : ∀ fl c', LOk P w K mg base CX0 1 fl (mk c') (spFld K C f))
    (q : ∀ v H', ExtM H H' → Tabs T H' → Trip P w K mg base H' C f x v → ta σ H' fun vs H2 => (v :: vs).length ≤ sizeLine ∧ ∀ l, H2 l = none → Q (.ref l) (upd H2 l (.lst (v :: vs)))) :
    tLst (tCons (tTup (tCons (tOexV C (spExcInit C f) (tCons (tVar 0) tNil)) (tCons (tOexK C (spExcInit C f) (tCons (tVar 0) tNil)) (tCons (tLamV T mk) tNil)))) ta) σ H Q := trip hx hT hc hL q
end
end Bk

namespace Bk
open PySem PySem.Spec PyProof.Rows L2
def topS (i : Nat) : Stmt := PySem.Challenge.pw_blockshares_k57_errors_made.main.body.getD i (.Pass ⟨0, 0, 0, 0⟩)
section
variable {P : Program} {w : World} {K : PySem.W.Frag} {mg : Str → Option Value} {base : Heap}
theorem scStart : FnScope ["_law_script"] ["_law_script"] (defScope (topS 22)) := ⟨rfl, rfl, rfl, by decide +kernel, rfl, by decide +kernel, by decide +kernel⟩
theorem ok_start (B : Bi mg) {f : Addr} {fd : FuncData} (F : Fun K "_law_start" "_law_start" (topS 22) f fd) : FnOk P w K mg base CX0 1 f fd ["_law_script"] (spStart K) := by
  refine F.ok scStart (fun vs H Q E h => ?_) (fun cdv A outer s H vs Q E hr h => ?_)
  · obtain ⟨a, ns, rfl, _⟩ := h
    rfl
  · obtain ⟨a, ns, rfl, hS, q⟩ := h
    refine ⟨_, (pss_one (ps_ret (pe_lst (pa_cons (pe_callTy (kList K) (by rfl) B.list (by decide +kernel) (pa_cons (pv 0) pa_nil)) (pa_cons pe_int (pa_cons pe_int (pa_cons pe_int pa_nil))))))), ?_⟩
    refine ⟨_, rfl, a, _, rfl, .inl hS, fun c nc => ⟨by show 4 ≤ sizeLine; decide, fun st nst => ?_⟩⟩
    have hne : c ≠ st := fun e => by
      rw [← e, upd_same] at nst
      cases nst
    have nst' : H st = none := by rw [upd_ne hne.symm] at nst; exact nst
    refine q st c _ (Same.trans (same_upd nc) (same_upd nst)) nst' nc ⟨hne, ns, 0, 0, 11, ?_, upd_same, by omega, by omega, by omega, by omega, by omega⟩
    rw [upd_ne hne, upd_same]
theorem scDraw : FnScope ["_law_stream", "_law_many", "_law_cell", "_law_digit", "_law_mixed"] ["_law_stream", "_law_many"] (defScope (topS 23)) := ⟨rfl, rfl, rfl, by decide +kernel, rfl, by decide +kernel, by decide +kernel⟩
theorem ok_draw (B : Bi mg) {f : Addr} {fd : FuncData} (F : Fun K "_law_draw" "_law_draw" (topS 23) f fd) : FnOk P w K mg base CX0 1 f fd ["_law_stream", "_law_many"] spDraw := by
  refine F.ok scDraw (fun vs H Q E h => ?_) (fun cdv A outer s H vs Q E hr h => ?_)
  · obtain ⟨st, c, n, k, rfl, _⟩ := h
    rfl
  · obtain ⟨st, c, n, k, rfl, S, hn, hk0, hk1, q⟩ := h
    have hu := hu_of hr
    have nd := scDraw.nd
    refine ⟨_, (Evl.pss_cut (ps_asg (pe_op op_add (pe_ix (kIxL K) (pv 0) pe_int (fun _ _ => rfl)) pe_int) (pg_sub (pv 0) pe_int set_list))
      (Evl.pss_cut (ps_if (PW.pt (pw_and (pt_cmpR op_eq (pe_ix (kIxL K) (pv 0) pe_int (fun _ _ => rfl)) pe_int (nomark _)) (pw_and1 (pt_cmpR (kNeD K hr.units) (pe_ix (kIxL K) (pv 0) pe_int (fun _ _ => rfl)) (pe_lst pa_nil) (nomark _))))) (pss_cons (ps_set (i := 2) nd rfl (Or.inl rfl) (pe_bm PySem.F.plainAttrs_list PySem.F.slot_list_pop PySem.F.type_list_pop mt_popAt (pe_ix (kIxL K) (pv 0) pe_int (fun _ _ => rfl)) (pa_cons pe_int pa_nil)))
      (pss_cons (ps_asg (pe_op op_mod (pe_callTy call_int1 (by rfl) B.int (by decide +kernel) (pa_cons (pe_op op_add (pe_op op_add (pe_op op_mul (pe_ix (kIxL K) (pv 0) pe_int (fun _ _ => rfl)) pe_int) (pv 2)) pe_int) pa_nil)) pe_int) (pg_sub (pv 0) pe_int set_list))
      (pss_one (ps_asg (pe_ifExp (pt_cmpR op_ge (pv 2) (pe_op op_pow pe_int pe_int) (nomark _)) (pv 2) pe_int) (pg_sub (pv 0) pe_int set_list))))) pss_nil)
      (pss_cons (ps_if (pt_cmpR op_gt (pe_ix (kIxL K) (pv 0) pe_int (fun _ _ => rfl)) pe_int (nomark _)) (pss_cons (ps_set (i := 3) nd rfl (Or.inl rfl) (pe_op op_mod (pe_callTy call_int1 (by rfl) B.int (by decide +kernel) (pa_cons (pe_ix (kIxL K) (pv 0) pe_int (fun _ _ => rfl)) pa_nil)) (pv 1)))
      (pss_cons (ps_asg (pe_op op_fdiv (pe_ix (kIxL K) (pv 0) pe_int (fun _ _ => rfl)) (pv 1)) (pg_sub (pv 0) pe_int set_list))
      (pss_one (ps_ret (pv 3))))) pss_nil)
      (pss_cons (ps_set (i := 4) nd rfl (Or.inl rfl) (pe_op op_mod (pe_callTy call_int1 (by rfl) B.int (by decide +kernel) (pa_cons (pe_op op_pow (pe_op op_add (pe_op op_add (pe_ix (kIxL K) (pv 0) pe_int (fun _ _ => rfl)) (pe_op op_mul pe_int (pe_ix (kIxL K) (pv 0) pe_int (fun _ _ => rfl)))) pe_int) pe_int) pa_nil)) pe_int))
      (pss_one (ps_ret (pe_op op_mod (pe_op op_mod (pe_callTy call_int1 (by rfl) B.int (by decide +kernel) (pa_cons (pe_op op_pow (pe_op op_add (pe_op op_add (pe_op op_mul (pv 4) pe_int) (pe_op op_mul pe_int (pe_ix (kIxL K) (pv 0) pe_int (fun _ _ => rfl)))) pe_int) pe_int) pa_nil)) pe_int) (pv 1)))))))), ?_⟩
    obtain ⟨ne, cells, a, b, m, hc, hs, ha, hb0, hb1, hm0, hm1⟩ := S
    refine ⟨fun σ' H1 => σ' = [some (.ref st), some (.int k), none, none, none] ∧ H1 st = some (.lst [.ref c, .int a, .int (b + 1), .int m]) ∧ H1 c = some (.lst (cells.map V.int)) ∧ Kept st c H H1, ?_, ?_⟩
    · refine ⟨_, rfl, st, _, _, _, rfl, rfl, SqL.of hs, atI_nat rfl, _, _, rfl, rfl, _, rfl, st, _, _, 2, rfl, rfl, hs, rfl, rfl, upd_same, by rw [upd_ne ne]; exact hc, fun x o n1 _ e => by rw [upd_ne n1]; exact e⟩
    rintro σ1 H1 ⟨rfl, hs1, hc1, kp1⟩
    refine ⟨fun σ' H2 => ∃ (a' m' : Int) (cells' : List Int) (v2 : Option V), 0 ≤ a' ∧ 0 ≤ m' ∧ m' < 2147483647 ∧ H2 c = some (.lst (cells'.map V.int)) ∧ H2 st = some (.lst [.ref c, .int a', .int (b + 1), .int m']) ∧ Kept st c H H2 ∧ σ' = [some (.ref st), some (.int k), v2, none, none], ?_, ?_⟩
    · refine ⟨_, rfl, st, _, _, _, rfl, rfl, SqL.of hs1, atI_nat rfl, rfl, _, rfl, ?_⟩
      refine ite2 (fun h => ?_) (fun h => ?_)
      · refine ⟨_, rfl, st, _, _, _, rfl, rfl, SqL.of hs1, atI_nat rfl, by show 0 ≤ sizeLine; exact Nat.zero_le _, fun l nl => ?_⟩
        have e1 := same_upd (H := H1) (o := HO.lst []) nl
        refine ⟨.list (cells.map PyData.int), .list [], .lst (SqL.of (e1 _ _ hc1)) (dp_ints cells), .lst (SqL.of upd_same) .nil, shaped_ints cells, rfl, _, rfl, ?_⟩
        rw [eqv_nil]
        have hs2 := e1 _ _ hs1
        have hc2 := e1 _ _ hc1
        have kp2 := kp1.trans (Same.kept e1)
        generalize upd H1 l (.lst []) = H2 at hs2 hc2 kp2 ⊢
        clear e1 nl
        cases cells with
        | nil => exact ⟨a, m, [], none, ha, hm0, hm1, hc2, hs2, kp2, rfl⟩
        | cons x r =>
          refine iteT ?_
          refine ⟨_, rfl, st, _, _, _, rfl, rfl, SqL.of hs2, atI_nat rfl, .inl ⟨rfl, _, SqL.of hc2⟩, c, _, 0, 0, _, rfl, rfl, hc2, by decide, by decide, (ixN_seq (Evl.ixN_nat (j := 0) (by simp))).1, rfl, ?_⟩
          have hc3 : (upd H2 c (HO.lst ((List.map V.int (x :: r)).eraseIdx 0))) c = some (.lst (r.map V.int)) := upd_same
          have hs3 : (upd H2 c (HO.lst ((List.map V.int (x :: r)).eraseIdx 0))) st = some (.lst [.ref c, .int a, .int (b + 1), .int m]) := by rw [upd_ne ne.symm]; exact hs2
          have kp3 : Kept st c H (upd H2 c (HO.lst ((List.map V.int (x :: r)).eraseIdx 0))) := kp2.trans fun y o _ n2 e => by rw [upd_ne n2]; exact e
          generalize upd H2 c (HO.lst ((List.map V.int (x :: r)).eraseIdx 0)) = H3 at hc3 hs3 kp3 ⊢
          have m0 := Int.emod_nonneg (m * 8191 + x + 3) (show (2147483647 : Int) ≠ 0 by omega)
          have m1 := Int.emod_lt_of_pos (m * 8191 + x + 3) (show (0 : Int) < 2147483647 by omega)
          refine ⟨_, rfl, st, _, _, _, rfl, rfl, SqL.of hs3, atI_nat rfl, _, _, rfl, rfl, .inl ⟨by omega, by omega⟩, _, rfl, _, _, rfl, rfl, _, _, rfl, rfl, .inl ⟨_, rfl, ?_⟩⟩
          refine ⟨_, _, rfl, rfl, by omega, ?_⟩
          refine ⟨_, rfl, st, _, _, 3, rfl, rfl, hs3, rfl, ?_⟩
          refine ⟨_, rfl, _, _, rfl, rfl, ⟨by omega, by omega, by omega⟩, _, _, rfl, rfl, _, rfl, ?_⟩
          refine ite2 (fun hx => ?_) (fun hx => ?_)
          · have hx : (10 : Int) ^ (18 : Int).toNat ≤ x := of_decide_eq_true hx
            have hp : (0 : Int) ≤ 10 ^ (18 : Int).toNat := by decide
            refine ⟨_, rfl, _, rfl, st, _, _, 1, rfl, rfl, upd_same, rfl, ?_⟩
            refine ⟨x, _, r, some (.int x), by omega, m0, m1, ?_, upd_same, ?_, rfl⟩
            · rw [upd_ne ne, upd_ne ne]; exact hc3
            · exact kp3.trans fun y o n1 _ e => by rw [upd_ne n1, upd_ne n1]; exact e
          · refine ⟨_, rfl, st, _, _, 1, rfl, rfl, upd_same, rfl, ?_⟩
            refine ⟨0, _, r, some (.int x), by omega, m0, m1, ?_, upd_same, ?_, rfl⟩
            · rw [upd_ne ne, upd_ne ne]; exact hc3
            · exact kp3.trans fun y o n1 _ e => by rw [upd_ne n1, upd_ne n1]; exact e
      · exact ⟨a, m, cells, none, ha, hm0, hm1, hc1, hs1, kp1, rfl⟩
    · rintro σ' H2 ⟨a', m', cells', v2, ha', hm0', hm1', hc2, hs2, kp2, rfl⟩
      refine ⟨_, rfl, st, _, _, _, rfl, rfl, SqL.of hs2, atI_nat rfl, _, _, rfl, rfl, _, rfl, ?_⟩
      refine ite2 (fun h => ?_) (fun h => ?_)
      · have h := of_decide_eq_true h
        refine ⟨_, rfl, st, _, _, _, rfl, rfl, SqL.of hs2, atI_nat rfl, .inl ⟨_, rfl, ?_⟩⟩
        refine ⟨_, rfl, _, _, rfl, rfl, hk0, ?_⟩
        refine ⟨_, rfl, st, _, _, _, rfl, rfl, SqL.of hs2, atI_nat rfl, ?_⟩
        refine ⟨_, rfl, _, _, rfl, rfl, ⟨hk0, by omega⟩, ?_⟩
        refine ⟨_, rfl, st, _, _, 1, rfl, rfl, hs2, rfl, ?_⟩
        refine ⟨_, rfl, ?_⟩
        refine q (a' % k) _ (Int.emod_nonneg _ (by omega)) (Int.emod_lt_of_pos _ hk0) ⟨ne, cells', a' / k, b + 1, m', by rw [upd_ne ne]; exact hc2, upd_same, Int.ediv_nonneg ha' (by omega), by omega, by omega, hm0', hm1'⟩ (kp2.trans fun x o n1 _ e => by rw [upd_ne n1]; exact e)
      · refine ⟨_, rfl, st, _, _, _, rfl, rfl, SqL.of hs2, atI_nat rfl, ?_⟩
        refine ⟨_, rfl, st, _, _, _, rfl, rfl, SqL.of hs2, atI_nat rfl, _, _, rfl, rfl, .inl ⟨by omega, by omega⟩, ?_⟩
        refine ⟨_, _, rfl, rfl, _, _, rfl, rfl, _, _, rfl, rfl, ⟨by omega, by omega, by omega⟩, .inl ⟨_, rfl, ?_⟩⟩
        refine ⟨_, _, rfl, rfl, by omega, ?_⟩
        have d0 := Int.emod_nonneg ((m' + 7919 * (b + 1) + 104729) ^ (5 : Int).toNat) (show (2147483629 : Int) ≠ 0 by omega)
        have d1 := Int.emod_lt_of_pos ((m' + 7919 * (b + 1) + 104729) ^ (5 : Int).toNat) (show (0 : Int) < 2147483629 by omega)
        generalize (m' + 7919 * (b + 1) + 104729) ^ (5 : Int).toNat % 2147483629 = mx at d0 d1 ⊢
        refine ⟨_, rfl, _, _, rfl, rfl, .inl ⟨by omega, by omega⟩, ?_⟩
        refine ⟨_, rfl, st, _, _, _, rfl, rfl, SqL.of hs2, atI_nat rfl, _, _, rfl, rfl, .inl ⟨by omega, by omega⟩, ?_⟩
        refine ⟨_, _, rfl, rfl, _, _, rfl, rfl, _, _, rfl, rfl, ⟨by omega, by omega, by omega⟩, .inl ⟨_, rfl, ?_⟩⟩
        refine ⟨_, _, rfl, rfl, by omega, ?_⟩
        refine ⟨_, rfl, _, _, rfl, rfl, hk0, ?_⟩
        exact q _ _ (Int.emod_nonneg _ (by omega)) (Int.emod_lt_of_pos _ hk0) ⟨ne, cells', a', b + 1, m', hc2, hs2, ha', by omega, by omega, hm0', hm1'⟩ kp2
end
end Bk

namespace Bk
open PySem PySem.Spec PyProof.Rows L2
/-- both read as one piece of data, or both are one dict of flat values: they are the same -/
def spSameD (K : PySem.W.Frag) : Nat → Sp
  | 0 => fun _ _ _ _ => False
  | n + 1 => fun vs H Q _ => (∃ (x y : V) (d : PyData), vs = [x, y] ∧ Dp K H x d ∧ Dp K H y d ∧ d.depth ≤ n ∧ wide d ≤ 90000 ∧ ∀ H', Same H H' → Q (.bl true) H') ∨
      ∃ (a b : Addr) (kvs : List (Key × V)), vs = [.ref a, .ref b] ∧ H a = some (.dK kvs) ∧ H b = some (.dK kvs) ∧ (∀ p ∈ kvs, valV kvs p.1 = some p.2 ∧ flatB p.2 = true) ∧ ∀ H', Same H H' → Q (.bl true) H'
section
variable {P : Program} {w : World} {K : PySem.W.Frag} {mg : Str → Option Value} {base : Heap}
theorem scSame : FnScope ["_law_found", "_law_due", "_law_x", "_law_y"] ["_law_found", "_law_due"] (defScope (topS 24)) := ⟨rfl, rfl, rfl, by decide +kernel, rfl, by decide +kernel, by decide +kernel⟩
theorem same_step (B : Bi mg) {n : Nat} {f : Addr} {fd : FuncData} (F : Fun K "_law_same" "_law_same" (topS 24) f fd) (g : mg "_law_same" = some (.ref f)) (b : Binds K fd ["_law_found", "_law_due"] [])
    (ih : FnOk P w K mg base CX0 (n + 1) f fd ["_law_found", "_law_due"] (spSameD K n)) : FnOk P w K mg base CX0 (n + 2) f fd ["_law_found", "_law_due"] (spSameD K (n + 1)) := by
  refine F.ok scSame (fun vs H Q E h => ?_) (fun cdv A outer s H vs Q E hr h => ?_)
  · rcases h with ⟨x, y, d, rfl, _⟩ | ⟨a, b, kvs, rfl, _⟩ <;> rfl
  · have nd := scSame.nd
    have hu := hu_of hr
    have hr__law_same := hr
    have c__law_same : Cal P w K mg base CX0 (n + 1) "_law_same" f fd ["_law_found", "_law_due"] (spSameD K n) := ⟨ih, g, F.kp, b⟩
    refine ⟨_, (pss_cons (ps_if (pt_val (pe_callB (kIsiT K) (by rfl) B.isinstance (by decide +kernel) (pa_cons (pv 1) (pa_cons (pe_tup (pa_cons (pe_bltn (v := .ty "list") (by rfl) B.list (by decide +kernel) rfl) (pa_cons (pe_bltn (v := .ty "tuple") (by rfl) B.tuple (by decide +kernel) rfl) pa_nil))) pa_nil)))) (pss_cons (ps_if (PW.pt (pw_or (pt_cmpR op_ne (pe_callB (kIsi K) (by rfl) B.isinstance (by decide +kernel) (pa_cons (pv 0) (pa_cons (pe_bltn (v := .ty "list") (by rfl) B.list (by decide +kernel) rfl) pa_nil))) (pe_callB (kIsi K) (by rfl) B.isinstance (by decide +kernel) (pa_cons (pv 1) (pa_cons (pe_bltn (v := .ty "list") (by rfl) B.list (by decide +kernel) rfl) pa_nil))) (nomark _)) (pw_or1 (pt_cmpR op_ne (pe_callB (kIsi K) (by rfl) B.isinstance (by decide +kernel) (pa_cons (pv 0) (pa_cons (pe_bltn (v := .ty "tuple") (by rfl) B.tuple (by decide +kernel) rfl) pa_nil))) (pe_callB (kIsi K) (by rfl) B.isinstance (by decide +kernel) (pa_cons (pv 1) (pa_cons (pe_bltn (v := .ty "tuple") (by rfl) B.tuple (by decide +kernel) rfl) pa_nil))) (nomark _))))) (pss_one (ps_ret pe_bl)) pss_nil)
      (pss_one (ps_ret (pe_and (pe_cmpR op_eq (pe_callB (kLen K) (by rfl) B.len PySem.boot_len (pa_cons (pv 0) pa_nil)) (pe_callB (kLen K) (by rfl) B.len PySem.boot_len (pa_cons (pv 1) pa_nil)) (nomark _)) (pe_one (pe_callB (kAll K rfl) (by rfl) B.all (by decide +kernel) (pa_cons (pe_lc (own := [("_law_x", 2), ("_law_y", 3)]) rfl nd (kPiZ K (by rfl) B.zip (pa_cons (pv 0) (pa_cons (pv 1) pa_nil))) (blkOk_by (N := ["_law_found", "_law_due", "_law_x", "_law_y"]) (sc := defScope (topS 24)) (by decide +kernel)) (fun _ _ _ _ _ => (kTg K 2 rfl (pgs_cons (pg_name (i := 2) nd rfl (Or.inl rfl)) (pgs_cons (pg_name (i := 3) nd rfl (Or.inl rfl)) pgs_nil)))) (fun _ _ _ _ _ => pts_nil) (fun _ _ _ _ _ => (pe_call c__law_same.ok hr__law_same (by rfl) c__law_same.g c__law_same.kp c__law_same.b .nil pass0 (pa_cons (pv 2) (pa_cons (pv 3) pa_nil))))) pa_nil))))))) pss_nil)
      (pss_cons (ps_if (pt_val (pe_callB (kIsi K) (by rfl) B.isinstance (by decide +kernel) (pa_cons (pv 1) (pa_cons (pe_bltn (v := .ty "int") (by rfl) B.int (by decide +kernel) rfl) pa_nil)))) (pss_one (ps_ret (pe_and (pe_callB (kIsi K) (by rfl) B.isinstance (by decide +kernel) (pa_cons (pv 0) (pa_cons (pe_bltn (v := .ty "int") (by rfl) B.int (by decide +kernel) rfl) pa_nil))) (pe_and (pe_cmpR op_eq (pe_callB (kIsi K) (by rfl) B.isinstance (by decide +kernel) (pa_cons (pv 0) (pa_cons (pe_bltn (v := .ty "bool") (by rfl) B.bool (by decide +kernel) rfl) pa_nil))) (pe_callB (kIsi K) (by rfl) B.isinstance (by decide +kernel) (pa_cons (pv 1) (pa_cons (pe_bltn (v := .ty "bool") (by rfl) B.bool (by decide +kernel) rfl) pa_nil))) (nomark _)) (pe_one (pe_cmpR op_eq (pv 0) (pv 1) (nomark _))))))) pss_nil)
      (pss_one (ps_ret (pe_and (pe_cmpR op_isBl (pe_callB (kIsiT K) (by rfl) B.isinstance (by decide +kernel) (pa_cons (pv 0) (pa_cons (pe_tup (pa_cons (pe_bltn (v := .ty "int") (by rfl) B.int (by decide +kernel) rfl) (pa_cons (pe_bltn (v := .ty "list") (by rfl) B.list (by decide +kernel) rfl) (pa_cons (pe_bltn (v := .ty "tuple") (by rfl) B.tuple (by decide +kernel) rfl) pa_nil)))) pa_nil))) pe_bl (nomark _)) (pe_one (pe_cmpR (op_eq.or (op_eq_dictA (Nat.lt_of_succ_lt hu))) (pv 0) (pv 1) (nomark _)))))))), ?_⟩
    rcases h with ⟨x, y, d, rfl, hx, hy, hd, hw, q⟩ | ⟨a, b, kvs, rfl, ha, hb, hv, q⟩
    rotate_left
    · refine isi2 rfl (.base (.dK hb)) (kit2 (b1 := false) (b2 := false) (by decide +kernel) (by decide +kernel)) fun H1 e1 => ⟨_, rfl, ?_⟩
      refine iteF ?_
      refine isi1 rfl (.base (.dK (e1 _ _ hb))) (kit_ty (r := false) (by decide +kernel)) ⟨_, rfl, ?_⟩
      refine iteF ?_
      refine isi3 rfl (.base (.dK (e1 _ _ ha))) (kit3 (b1 := false) (b2 := false) (b3 := false) (by decide +kernel) (by decide +kernel) (by decide +kernel)) fun H2 e2 => ?_
      refine ⟨false, false, rfl, rfl, _, rfl, ?_⟩
      rw [decide_eq_true rfl]
      refine iteT ?_
      have e12 := Same.trans e1 e2
      exact ⟨_, rfl, _, rfl, .inr ⟨a, b, kvs, kvs, rfl, rfl, e12 _ _ ha, e12 _ _ hb, rfl, hv, q H2 e12⟩⟩
    have tx := tyx_d hx
    have ty := tyx_d hy
    refine isi2 rfl ty (kit2 (kd_L d) (kd_T d)) fun H1 e1 => ⟨_, rfl, ?_⟩
    cases hs : isL d || isT d with
    | false =>
      refine iteF ?_
      refine isi1 rfl (TyX.same ty e1) (kit_ty (kd_I d)) ⟨_, rfl, ?_⟩
      obtain ⟨exy, hsc⟩ := flat_eq hx hy hs
      have hdec : decide (x = y) = true := decide_eq_true exy
      cases hi : isI d with
      | true =>
        refine iteT ?_
        refine isi1 rfl (TyX.same tx e1) (kit_ty (kd_I d)) ⟨_, rfl, ?_⟩
        rw [hi]
        refine iteT ?_
        refine isi1 rfl (TyX.same tx e1) (kit_ty (kd_B d)) ?_
        refine isi1 rfl (TyX.same ty e1) (kit_ty (kd_B d)) ⟨rfl, _, rfl, ?_⟩
        rw [decide_eq_true rfl]
        refine iteT ?_
        refine ⟨_, rfl, _, rfl, hsc, ?_⟩
        rw [hdec]
        exact q H1 e1
      | false =>
        refine iteF ?_
        have hl : isL d = false := by cases h : isL d <;> simp_all
        have ht : isT d = false := by cases h : isT d <;> simp_all
        refine isi3 rfl (TyX.same tx e1) (kit3 (kd_I d) (kd_L d) (kd_T d)) fun H2 e2 => ?_
        rw [hi, hl, ht]
        refine ⟨false, false, rfl, rfl, _, rfl, ?_⟩
        rw [decide_eq_true rfl]
        refine iteT ?_
        refine ⟨_, rfl, _, rfl, .inl ⟨hsc, ?_⟩⟩
        rw [hdec]
        exact q H2 (Same.trans e1 e2)
    | true =>
      refine iteT ?_
      obtain ⟨a, b, xs, ys, ds, rfl, rfl, hS, hxs, hys, hdp, hw1, hw2⟩ : ∃ a b xs ys ds, x = .ref a ∧ y = .ref b ∧ ((SqL K H a xs ∧ SqL K H b ys) ∨ (SqT K H a xs ∧ SqT K H b ys)) ∧ DpAll K H xs ds ∧ DpAll K H ys ds ∧ PyData.depthAll ds + 1 ≤ n ∧ ds.length ≤ 90000 ∧ wideAll ds ≤ 90000 := by
        cases hx with
        | lst h1 h2 =>
          cases hy with
          | lst h3 h4 => exact ⟨_, _, _, _, _, rfl, rfl, .inl ⟨h1, h3⟩, h2, h4, by simpa [PyData.depth] using hd, by simp only [wide] at hw; omega, by simp only [wide] at hw; omega⟩
        | tup h1 h2 =>
          cases hy with
          | tup h3 h4 => exact ⟨_, _, _, _, _, rfl, rfl, .inr ⟨h1, h3⟩, h2, h4, by simpa [PyData.depth] using hd, by simp only [wide] at hw; omega, by simp only [wide] at hw; omega⟩
        | _ => cases hs
      have hlen : xs.length = ys.length := by rw [DpAll.len hxs, DpAll.len hys]
      have hS1 : (SqL K H1 a xs ∧ SqL K H1 b ys) ∨ (SqT K H1 a xs ∧ SqT K H1 b ys) := hS.imp (fun z => ⟨e1.seq z.1, e1.seq z.2⟩) fun z => ⟨Same.sqt e1 z.1, Same.sqt e1 z.2⟩
      have lx : LenV K (.ref a) H1 xs.length := hS1.imp (fun z => ⟨xs, z.1, rfl⟩) fun z => ⟨xs, z.1, rfl⟩
      have ly : LenV K (.ref b) H1 ys.length := hS1.imp (fun z => ⟨ys, z.2, rfl⟩) fun z => ⟨ys, z.2, rfl⟩
      refine isi1 rfl (TyX.same tx e1) (kit_ty (kd_L d)) ?_
      refine isi1 rfl (TyX.same ty e1) (kit_ty (kd_L d)) ⟨rfl, _, rfl, ?_⟩
      rw [decide_eq_true rfl]
      refine iteF ?_
      refine isi1 rfl (TyX.same tx e1) (kit_ty (kd_T d)) ?_
      refine isi1 rfl (TyX.same ty e1) (kit_ty (kd_T d)) ⟨rfl, _, rfl, ?_⟩
      rw [decide_eq_true rfl]
      refine iteF ?_
      refine ⟨_, rfl, _, _, rfl, lx, _, rfl, _, _, rfl, ly, rfl, ?_⟩
      rw [hlen, decide_eq_true rfl]
      refine ⟨_, rfl, ?_⟩
      refine iteT ?_
      obtain ⟨m, rfl⟩ : ∃ m, n = m + 1 := ⟨n - 1, by omega⟩
      refine cb1 ?_
      refine lcZ (a := a) (b := b) (xs := xs) (ys := ys) rfl rfl hS1 hlen fun D nD => ⟨fun k H' => Same H1 H' ∧ H' D = some (.lst (List.replicate k (V.bl true))), ⟨same_upd nD, upd_same⟩, fun k H' z => z.1, ?_, ?_⟩
      · rintro k v H3 H4 hk ⟨e3, hD⟩ ⟨T, v1, v2, rfl, nT, rfl, g1, g2⟩
        have eT := same_upd (o := HO.tup [v1, v2]) nT
        refine ⟨T, _, rfl, SqT.of upd_same, rfl, _, _, rfl, _, _, rfl, rfl, ?_⟩
        refine ⟨rfl, yes2 ?_⟩
        have g1 : xs[k]? = some v1 := g1
        have g2 : ys[k]? = some v2 := g2
        obtain ⟨d1, f1, p1⟩ := DpAll.get hxs g1
        obtain ⟨d2, f2, p2⟩ := DpAll.get hys g2
        rw [f1] at f2
        obtain rfl := Option.some.inj f2
        have e04 := Same.trans e1 (Same.trans e3 eT)
        have hdd := depth_mem (List.mem_of_getElem? f1)
        have hww := wide_mem (List.mem_of_getElem? f1)
        refine ⟨_, rfl, _, rfl, .inl ⟨v1, v2, d1, rfl, Dp.sm e04 _ _ p1, Dp.sm e04 _ _ p2, by omega, by omega, fun H5 e5 => ?_⟩⟩
        have e15 := Same.trans e3 (Same.trans eT e5)
        refine ⟨_, e5 _ _ (eT _ _ hD), ?_, Same.grow e15 nD, ?_⟩
        · rw [List.length_replicate]
          have := DpAll.len hxs
          exact Evl.sz_lt (by omega)
        · rw [upd_same, List.replicate_succ']
      · rintro H3 ⟨e3, hD⟩
        refine ⟨D, List.replicate xs.length true, rfl, SqL.of (by rw [List.map_replicate]; exact hD), ?_⟩
        have : (List.replicate xs.length true).all id = true := by
          rw [List.all_eq_true]
          intro z hz
          rw [List.eq_of_mem_replicate hz]
          rfl
        rw [this]
        exact q H3 (Same.trans e1 e3)
theorem ok_same (B : Bi mg) {f : Addr} {fd : FuncData} (F : Fun K "_law_same" "_law_same" (topS 24) f fd) (g : mg "_law_same" = some (.ref f)) (b : Binds K fd ["_law_found", "_law_due"] []) : ∀ n, FnOk P w K mg base CX0 (n + 1) f fd ["_law_found", "_law_due"] (spSameD K n)
  | 0 => ok_never
  | n + 1 => same_step B F g b (ok_same B F g b n)
end
end Bk

namespace Bk
open PySem PySem.Spec PyProof.Rows L2
mutual
/-- lists made to tuples, within too -/
def frzD : PyData → PyData
  | .list xs => .tuple (frzAll xs)
  | .tuple xs => .tuple (frzAll xs)
  | d => d
def frzAll : List PyData → List PyData
  | [] => []
  | x :: r => frzD x :: frzAll r
end
theorem frzAll_len : ∀ ds : List PyData, (frzAll ds).length = ds.length
  | [] => rfl
  | x :: r => by
    show (frzD x :: frzAll r).length = _
    rw [List.length_cons, List.length_cons, frzAll_len r]
theorem frzAll_map : ∀ ds : List PyData, frzAll ds = ds.map frzD
  | [] => rfl
  | x :: r => by
    show frzD x :: frzAll r = _
    rw [List.map_cons, frzAll_map r]
mutual
/-- no list within -/
def noL : PyData → Prop
  | .list _ => False
  | .tuple xs => noLs xs
  | _ => True
def noLs : List PyData → Prop
  | [] => True
  | x :: r => noL x ∧ noLs r
end
mutual
theorem frz_noL : ∀ d : PyData, noL (frzD d)
  | .list xs => by simp only [frzD, noL]; exact frz_noLs xs
  | .tuple xs => by simp only [frzD, noL]; exact frz_noLs xs
  | .none => trivial
  | .bool _ => trivial
  | .int _ => trivial
  | .str _ => trivial
  | .dict _ => trivial
theorem frz_noLs : ∀ ds : List PyData, noLs (frzAll ds)
  | [] => trivial
  | x :: r => ⟨frz_noL x, frz_noLs r⟩
end
section
variable {K : PySem.W.Frag} {H H' : Hp} {D : Addr} {l : List V} {o : HO}
theorem sqt_updL {a : Addr} {xs : List V} (hD : H D = some (.lst l)) (h : SqT K H a xs) : SqT K (upd H D o) a xs := by
  rcases h with (h | ⟨u, h⟩) | h
  · exact .inl (.inl (by rw [upd_ne (ne_of h hD (fun z => nomatch z))]; exact h))
  · exact .inl (.inr ⟨u, by rw [upd_ne (ne_of h hD (fun z => nomatch z))]; exact h⟩)
  · exact .inr h
mutual
theorem Dp.updL (hD : H D = some (.lst l)) : ∀ (d : PyData) (v : V), noL d → Dp K H v d → Dp K (upd H D o) v d
  | _, _, _, .non => .non
  | _, _, _, .bl b => .bl b
  | _, _, _, .int i => .int i
  | _, _, _, .str x => .str x
  | .list ds, _, z, .lst h a => by simp only [noL] at z
  | .tuple ds, _, z, .tup h a => .tup (sqt_updL hD h) (DpAll.updL hD ds _ (by simpa only [noL] using z) a)
theorem DpAll.updL (hD : H D = some (.lst l)) : ∀ (ds : List PyData) (vs : List V), noLs ds → DpAll K H vs ds → DpAll K (upd H D o) vs ds
  | [], _, _, .nil => .nil
  | d :: ds, _, z, .cons a r => .cons (Dp.updL hD d _ z.1 a) (DpAll.updL hD ds _ z.2 r)
end
theorem DpAll.snoc {d : PyData} {v : V} : ∀ {vs : List V} {ds : List PyData}, DpAll K H vs ds → Dp K H v d → DpAll K H (vs ++ [v]) (ds ++ [d])
  | _, _, .nil, h => .cons h .nil
  | _, _, .cons a r, h => .cons a (DpAll.snoc r h)
theorem noLs_snoc {d : PyData} : ∀ {ds : List PyData}, noLs ds → noL d → noLs (ds ++ [d])
  | [], _, h => ⟨h, trivial⟩
  | _ :: _, ⟨a, r⟩, h => ⟨a, noLs_snoc r h⟩
theorem frz_take {ds : List PyData} {k : Nat} {d : PyData} (h : ds[k]? = some d) : frzAll (ds.take (k + 1)) = frzAll (ds.take k) ++ [frzD d] := by
  rw [frzAll_map, frzAll_map, take_succ_map h]
/-- a comprehension over x, x a list or a tuple -/
theorem lcLT {i : Nat} {a : Addr} {xs : List V} {g : TG} {tt : TT} {te : TE} {vs : List Nat} {σ : L2.St} {H : Hp} {Q : VK} (hv1 : σ[i]? = some (some (.ref a))) (hS : SqL K H a xs ∨ SqT K H a xs)
    (h : ∀ D, H D = none → ∃ Pv : Nat → Hp → Prop, Pv 0 (upd H D (.lst [])) ∧ (∀ k H', Pv k H' → Same H H') ∧
      (∀ k v H', k < xs.length → Pv k H' → xs[k]? = some v → g v (wipe σ vs) H' fun σ2 H3 => wipe σ2 vs = wipe σ vs ∧ tt σ2 H3 fun b H4 =>
        if b = true then te σ2 H4 fun y H5 => ∃ acc, H5 D = some (.lst acc) ∧ acc.length < sizeLine ∧ Pv (k + 1) (upd H5 D (.lst (acc ++ [y]))) else Pv (k + 1) H4) ∧
      ∀ H', Pv xs.length H' → Q (.ref D) H') : tLc (fun σ H R => iList K (tVar i) σ H R ∨ iTup K (tVar i) σ H R) g tt te vs σ H Q := by
  rcases hS with hS | hS
  · refine .inl ⟨_, hv1, a, rfl, ⟨_, hS⟩, fun D nD => ?_⟩
    obtain ⟨Pv, p0, ps, pt, pd⟩ := h D nD
    refine lc_it (walk_list (xs := xs)) Pv p0 (fun k H' _ p => (ps k H' p).seq hS) ?_ pd
    rintro k v H' H2 hk p ⟨rfl, y⟩
    exact pt k v _ hk p y
  · refine .inr ⟨_, hv1, a, rfl, ⟨_, hS⟩, fun D nD => ?_⟩
    obtain ⟨Pv, p0, ps, pt, pd⟩ := h D nD
    refine lc_it (walk_tup (xs := xs)) Pv p0 (fun k H' _ p => Same.sqt (ps k H' p) hS) ?_ pd
    rintro k v H' H2 hk p ⟨rfl, y⟩
    exact pt k v _ hk p y
end
def oneA : List (Key × V) := [(.inr "a", .int 1)]
def spFrz (K : PySem.W.Frag) : Nat → Sp
  | 0 => fun _ _ _ _ => False
  | n + 1 => fun vs H Q _ => (∃ (x : V) (d : PyData), vs = [x] ∧ Dp K H x d ∧ d.depth ≤ n ∧ wide d ≤ 90000 ∧ ∀ y H', Same H H' → Dp K H' y (frzD d) → Q y H') ∨
      ∃ a : Addr, vs = [.ref a] ∧ 1 ≤ n ∧ H a = some (.dK oneA) ∧ ∀ b H', Same H H' → H' b = some (.dK oneA) → Q (.ref b) H'
section
variable {P : Program} {w : World} {K : PySem.W.Frag} {mg : Str → Option Value} {base : Heap}
theorem scFrz : FnScope ["_law_thing", "_law_key", "_law_part"] ["_law_thing"] (defScope (topS 25)) := ⟨rfl, rfl, rfl, by decide +kernel, rfl, by decide +kernel, by decide +kernel⟩
theorem frz_step (B : Bi mg) {n : Nat} {f : Addr} {fd : FuncData} (F : Fun K "_law_frozen" "_law_frozen" (topS 25) f fd) (g : mg "_law_frozen" = some (.ref f)) (b : Binds K fd ["_law_thing"] [])
    (ih : FnOk P w K mg base CX0 (n + 1) f fd ["_law_thing"] (spFrz K n)) : FnOk P w K mg base CX0 (n + 2) f fd ["_law_thing"] (spFrz K (n + 1)) := by
  refine F.ok scFrz (fun vs H Q E h => ?_) (fun cdv A outer s H vs Q E hr h => ?_)
  · rcases h with ⟨x, d, rfl, _⟩ | ⟨a, rfl, _⟩ <;> rfl
  · have nd := scFrz.nd
    have hu := hu_of hr
    have hr__law_frozen := hr
    have c__law_frozen : Cal P w K mg base CX0 (n + 1) "_law_frozen" f fd ["_law_thing"] (spFrz K n) := ⟨ih, g, F.kp, b⟩
    refine ⟨_, (pss_cons (ps_if (pt_val (pe_callB (kIsi K) (by rfl) B.isinstance (by decide +kernel) (pa_cons (pv 0) (pa_cons (pe_bltn (v := .ty "dict") (by rfl) B.dict (by decide +kernel) rfl) pa_nil)))) (pss_one (ps_ret (pe_callTy (kDictP (K := K) rfl) (by rfl) B.dict (by decide +kernel) (pa_cons (pe_lock (pe_lc (own := [("_law_key", 1)]) rfl nd (pi_keys (pv 0)) (blkOk_by (N := ["_law_thing", "_law_key", "_law_part"]) (sc := defScope (topS 25)) (by decide +kernel)) (fun _ _ _ _ _ => (pg_name (i := 1) nd rfl (Or.inl rfl))) (fun _ _ _ _ _ => pts_nil) (fun _ _ _ _ _ => (pe_tup (pa_cons (pv 1) (pa_cons (pe_call c__law_frozen.ok hr__law_frozen (by rfl) c__law_frozen.g c__law_frozen.kp c__law_frozen.b .nil pass0 (pa_cons (pe_dget hu (pv 0) (pv 1) (fun _ _ => rfl)) pa_nil)) pa_nil)))))) pa_nil)))) pss_nil)
      (pss_one (ps_ret (pe_ifExp (pt_val (pe_callB (kIsiT K) (by rfl) B.isinstance (by decide +kernel) (pa_cons (pv 0) (pa_cons (pe_tup (pa_cons (pe_bltn (v := .ty "list") (by rfl) B.list (by decide +kernel) rfl) (pa_cons (pe_bltn (v := .ty "tuple") (by rfl) B.tuple (by decide +kernel) rfl) pa_nil))) pa_nil)))) (kTupleOf K (by rfl) B.tuple (pe_lc (own := [("_law_part", 2)]) rfl nd (pi_or (kPiL K (pv 0)) (kPiT K (pv 0))) (blkOk_by (N := ["_law_thing", "_law_key", "_law_part"]) (sc := defScope (topS 25)) (by decide +kernel)) (fun _ _ _ _ _ => (pg_name (i := 2) nd rfl (Or.inl rfl))) (fun _ _ _ _ _ => pts_nil) (fun _ _ _ _ _ => (pe_call c__law_frozen.ok hr__law_frozen (by rfl) c__law_frozen.g c__law_frozen.kp c__law_frozen.b .nil pass0 (pa_cons (pv 2) pa_nil))))) (pv 0))))), ?_⟩
    rcases h with ⟨x, d, rfl, hx, hd, hw, q⟩ | ⟨a, rfl, hn1, ha, q⟩
    · have tx := tyx_d hx
      have nodict : kitB (kindD d) "dict" = some false := by
        cases hx <;> (simp only [kindD]; decide +kernel)
      refine isi1 rfl tx (kit_ty nodict) ⟨_, rfl, ?_⟩
      refine iteF ?_
      refine isi2 rfl tx (kit2 (kd_L d) (kd_T d)) fun H1 e1 => ⟨_, rfl, ?_⟩
      cases hs : isL d || isT d with
      | false =>
        refine iteF ?_
        have e : frzD d = d := by
          cases d with
          | list _ => cases hs
          | tuple _ => cases hs
          | _ => rfl
        exact ⟨x, rfl, q x H1 e1 (by rw [e]; exact Dp.sm e1 d x hx)⟩
      | true =>
        refine iteT ?_
        obtain ⟨a, xs, ds, rfl, hS, hdp, ef, hd1, hw1, hw2⟩ : ∃ a xs ds, x = .ref a ∧ (SqL K H a xs ∨ SqT K H a xs) ∧ DpAll K H xs ds ∧ frzD d = .tuple (frzAll ds) ∧ PyData.depthAll ds + 1 ≤ n ∧ ds.length ≤ 90000 ∧ wideAll ds ≤ 90000 := by
          cases hx with
          | lst h1 h2 => exact ⟨_, _, _, rfl, .inl h1, h2, rfl, by simpa [PyData.depth] using hd, by simp only [wide] at hw; omega, by simp only [wide] at hw; omega⟩
          | tup h1 h2 => exact ⟨_, _, _, rfl, .inr h1, h2, rfl, by simpa [PyData.depth] using hd, by simp only [wide] at hw; omega, by simp only [wide] at hw; omega⟩
          | _ => cases hs
        obtain ⟨m, rfl⟩ : ∃ m, n = m + 1 := ⟨n - 1, by omega⟩
        have hlen := DpAll.len hdp
        refine lcLT (a := a) (xs := xs) rfl (hS.imp (fun z => e1.seq z) fun z => Same.sqt e1 z) fun D nD => ⟨fun k H' => ∃ ys, Same H1 H' ∧ H' D = some (.lst ys) ∧ DpAll K H' ys (frzAll (ds.take k)), ⟨[], same_upd nD, upd_same, .nil⟩, fun k H' z => z.choose_spec.1, ?_, ?_⟩
        · rintro k v H3 hk ⟨ys, e3, hD, hys⟩ hv
          refine ⟨rfl, yes2 ?_⟩
          obtain ⟨d1, f1, p1⟩ := DpAll.get hdp hv
          have hdd := depth_mem (List.mem_of_getElem? f1)
          have hww := wide_mem (List.mem_of_getElem? f1)
          refine ⟨_, rfl, .inl ⟨v, d1, rfl, Dp.sm (Same.trans e1 e3) _ _ p1, by omega, by omega, fun y H5 e5 hy => ?_⟩⟩
          refine ⟨ys, e5 _ _ hD, ?_, ys ++ [y], Same.grow (Same.trans e3 e5) nD, upd_same, ?_⟩
          · have := DpAll.len hys
            rw [frzAll_len, List.length_take] at this
            exact Evl.sz_lt (by omega)
          · rw [frz_take f1]
            exact DpAll.updL (e5 _ _ hD) _ _ (noLs_snoc (frz_noLs _) (frz_noL d1)) (DpAll.snoc (DpAll.sm e5 _ _ hys) hy)
        · rintro H3 ⟨ys, e3, hD, hys⟩
          rw [hlen, List.take_length] at hys
          refine .inl ⟨D, ys, rfl, SqL.of hD, fun t nt => ?_⟩
          have et := same_upd (o := HO.tup ys) nt
          refine q _ _ (Same.trans e1 (Same.trans e3 et)) ?_
          rw [ef]
          exact .tup (SqT.of upd_same) (DpAll.sm et _ _ hys)
    · refine isi1 rfl (.base (.dK ha)) (kit_ty (r := true) (by decide +kernel)) ⟨_, rfl, ?_⟩
      refine iteT ?_
      refine cb1 ?_
      refine ⟨a, _, ha, ?_, fun od => ?_⟩
      · trivial
      have hHF : upd H a (HO.frz od (HO.dK oneA)) a = some (HO.frz od (HO.dK oneA)) := upd_same
      have hback : ∀ H', Same (upd H a (HO.frz od (HO.dK oneA))) H' → Same H (upd H' a (.dK oneA)) := fun H' e b o hb => by
        by_cases hba : b = a
        · rw [hba] at hb ⊢
          rw [ha] at hb
          rw [upd_same, ← hb]
        · rw [upd_ne hba]
          exact e _ _ (by rw [upd_ne hba]; exact hb)
      generalize upd H a (HO.frz od (HO.dK oneA)) = HF at hHF hback ⊢
      refine ⟨_, rfl, a, od, rfl, .inl ⟨oneA, hHF, fun D nD => ?_⟩⟩
      have nDa : D ≠ a := (ne_of_none hHF nD).symm
      obtain ⟨m, rfl⟩ : ∃ m, n = m + 1 := ⟨n - 1, by omega⟩
      refine lc_it (walk_keys (d := a) (o := od) (kvs := oneA)) (fun k H' => Same HF H' ∧ ((k = 0 ∧ H' D = some (.lst [])) ∨ (k = 1 ∧ ∃ t, H' D = some (.lst [.ref t]) ∧ H' t = some (.tup [.str "a", .int 1])))) ⟨same_upd nD, .inl ⟨rfl, upd_same⟩⟩ (fun k H' _ z => z.1 _ _ hHF) ?_ ?_
      · rintro k x H3 H4 hk ⟨e3, h3⟩ ⟨rfl, key, v, hkv, rfl⟩
        have hk0 : k = 0 := by
          have : k < 1 := hk
          omega
        subst hk0
        rcases h3 with ⟨_, hD⟩ | ⟨z, _⟩
        · cases hkv
          refine ⟨rfl, yes2 ?_⟩
          refine ⟨_, rfl, _, rfl, _, rfl, a, .int 1, rfl, .inl ⟨oneA, .inr "a", .inr ⟨od, e3 _ _ hHF⟩, rfl, rfl⟩, .inl ⟨.int 1, .int 1, rfl, .int 1, by simp [PyData.depth], by simp [wide], fun y H5 e5 hy => ?_⟩⟩
          cases hy
          refine ⟨by show 2 ≤ sizeLine; decide, fun t nt => ?_⟩
          have et := same_upd (o := HO.tup [V.str "a", V.int 1]) nt
          have hD5 := e5 _ _ hD
          have ntD : t ≠ D := (ne_of_none hD5 nt).symm
          refine ⟨[], et _ _ hD5, Evl.sz_lt (by show 0 < 100000; decide), Same.grow (Same.trans e3 (Same.trans e5 et)) nD, .inr ⟨rfl, t, upd_same, ?_⟩⟩
          rw [upd_ne ntD]
          exact upd_same
        · exact absurd z (by omega)
      · rintro H3 ⟨e3, h3⟩
        rcases h3 with ⟨z, _⟩ | ⟨_, t, hD, ht⟩
        · exact absurd z (by decide)
        · have nta : t ≠ a := ne_of ht (e3 _ _ hHF) (fun z => nomatch z)
          refine ⟨e3 _ _ hHF, D, [t], oneA, rfl, SqL.of (by rw [upd_ne nDa]; exact hD), .cons (SqT.of (by rw [upd_ne nta]; exact ht)) .nil, fun p np => ?_⟩
          refine q p _ (Same.trans (hback H3 e3) (same_upd np)) ?_
          rw [upd_same]
          rfl
theorem ok_frz (B : Bi mg) {f : Addr} {fd : FuncData} (F : Fun K "_law_frozen" "_law_frozen" (topS 25) f fd) (g : mg "_law_frozen" = some (.ref f)) (b : Binds K fd ["_law_thing"] []) : ∀ n, FnOk P w K mg base CX0 (n + 1) f fd ["_law_thing"] (spFrz K n)
  | 0 => ok_never
  | n + 1 => frz_step B F g b (ok_frz B F g b n)
end
end Bk

namespace Bk
open PySem PySem.Spec PyProof.Rows L2 LamX NdefX
/-- the errors with a field, as the law makes them -/
def errL : List (Str × Str) := [("BadFolders", "index"), ("BadName", "name"), ("BadLot", "lot"), ("BadSize", "size"), ("BadNumber", "number"), ("NoFolder", "name"), ("Taken", "name"), ("Lacking", "lot"), ("NotStore", "lot"), ("BadTelling", "ends"), ("NotTold", "question"), ("Wrong", "weights"), ("NoMoment", "moment"), ("BadDeed", "deed"), ("BadText", "line"), ("Held", "name"), ("NotHeld", "name")]
def kindL : List Str := ["BadFolders", "BadName", "BadLot", "BadSize", "BadNumber", "NoFolder", "Taken", "UnlikeFolders", "Lacking", "NotStore", "BadTelling", "NotTold", "Wrong", "NoMoment", "BadDeed", "NoDeed", "BadText", "Held", "NotHeld"]
section
variable {P : Program} {w : World} {K : PySem.W.Frag} {mg : Str → Option Value} {base : Heap}
theorem scI_BadFolders : FnScope ["self", "index"] ["self", "index"] (defScope (inClass (topS 2) 0)) := ⟨rfl, rfl, rfl, by decide +kernel, rfl, by decide +kernel, by decide +kernel⟩
theorem errF_BadFolders {C f : Addr} {fd : FuncData} (T : ExT K mg "BadFolders" C f "index") (X : ExcC K C) (F : Fun K "__init__" "BadFolders.__init__" (inClass (topS 2) 0) f fd) : ErrF P w K mg base "BadFolders" "index" C := by
  refine ⟨f, fd, T, X, ?_, F.binds (fun _ _ _ _ _ _ us hl => match us, hl with | [_, _], _ => rfl), Bk.Fun.bindK F (fun _ _ _ _ _ _ _ _ => rfl)⟩
  refine F.ok scI_BadFolders (fun vs H Q E h => ?_) (fun cdv A outer s H vs Q E hr h => ?_)
  · obtain ⟨a, v, rfl, _⟩ := h
    rfl
  · obtain ⟨a, v, rfl, ha, q⟩ := h
    refine ⟨_, pss_one (ps_ost (pv 0) (pv 1)), ?_⟩
    exact ⟨_, rfl, _, rfl, a, C, rfl, T.o, T.noF, .inl ⟨ha, fun dx ndx hne => q dx ndx hne⟩⟩
theorem scI_BadName : FnScope ["self", "name"] ["self", "name"] (defScope (inClass (topS 3) 0)) := ⟨rfl, rfl, rfl, by decide +kernel, rfl, by decide +kernel, by decide +kernel⟩
theorem errF_BadName {C f : Addr} {fd : FuncData} (T : ExT K mg "BadName" C f "name") (X : ExcC K C) (F : Fun K "__init__" "BadName.__init__" (inClass (topS 3) 0) f fd) : ErrF P w K mg base "BadName" "name" C := by
  refine ⟨f, fd, T, X, ?_, F.binds (fun _ _ _ _ _ _ us hl => match us, hl with | [_, _], _ => rfl), Bk.Fun.bindK F (fun _ _ _ _ _ _ _ _ => rfl)⟩
  refine F.ok scI_BadName (fun vs H Q E h => ?_) (fun cdv A outer s H vs Q E hr h => ?_)
  · obtain ⟨a, v, rfl, _⟩ := h
    rfl
  · obtain ⟨a, v, rfl, ha, q⟩ := h
    refine ⟨_, pss_one (ps_ost (pv 0) (pv 1)), ?_⟩
    exact ⟨_, rfl, _, rfl, a, C, rfl, T.o, T.noF, .inl ⟨ha, fun dx ndx hne => q dx ndx hne⟩⟩
theorem scI_BadLot : FnScope ["self", "lot"] ["self", "lot"] (defScope (inClass (topS 4) 0)) := ⟨rfl, rfl, rfl, by decide +kernel, rfl, by decide +kernel, by decide +kernel⟩
theorem errF_BadLot {C f : Addr} {fd : FuncData} (T : ExT K mg "BadLot" C f "lot") (X : ExcC K C) (F : Fun K "__init__" "BadLot.__init__" (inClass (topS 4) 0) f fd) : ErrF P w K mg base "BadLot" "lot" C := by
  refine ⟨f, fd, T, X, ?_, F.binds (fun _ _ _ _ _ _ us hl => match us, hl with | [_, _], _ => rfl), Bk.Fun.bindK F (fun _ _ _ _ _ _ _ _ => rfl)⟩
  refine F.ok scI_BadLot (fun vs H Q E h => ?_) (fun cdv A outer s H vs Q E hr h => ?_)
  · obtain ⟨a, v, rfl, _⟩ := h
    rfl
  · obtain ⟨a, v, rfl, ha, q⟩ := h
    refine ⟨_, pss_one (ps_ost (pv 0) (pv 1)), ?_⟩
    exact ⟨_, rfl, _, rfl, a, C, rfl, T.o, T.noF, .inl ⟨ha, fun dx ndx hne => q dx ndx hne⟩⟩
theorem scI_BadSize : FnScope ["self", "size"] ["self", "size"] (defScope (inClass (topS 5) 0)) := ⟨rfl, rfl, rfl, by decide +kernel, rfl, by decide +kernel, by decide +kernel⟩
theorem errF_BadSize {C f : Addr} {fd : FuncData} (T : ExT K mg "BadSize" C f "size") (X : ExcC K C) (F : Fun K "__init__" "BadSize.__init__" (inClass (topS 5) 0) f fd) : ErrF P w K mg base "BadSize" "size" C := by
  refine ⟨f, fd, T, X, ?_, F.binds (fun _ _ _ _ _ _ us hl => match us, hl with | [_, _], _ => rfl), Bk.Fun.bindK F (fun _ _ _ _ _ _ _ _ => rfl)⟩
  refine F.ok scI_BadSize (fun vs H Q E h => ?_) (fun cdv A outer s H vs Q E hr h => ?_)
  · obtain ⟨a, v, rfl, _⟩ := h
    rfl
  · obtain ⟨a, v, rfl, ha, q⟩ := h
    refine ⟨_, pss_one (ps_ost (pv 0) (pv 1)), ?_⟩
    exact ⟨_, rfl, _, rfl, a, C, rfl, T.o, T.noF, .inl ⟨ha, fun dx ndx hne => q dx ndx hne⟩⟩
theorem scI_BadNumber : FnScope ["self", "number"] ["self", "number"] (defScope (inClass (topS 6) 0)) := ⟨rfl, rfl, rfl, by decide +kernel, rfl, by decide +kernel, by decide +kernel⟩
theorem errF_BadNumber {C f : Addr} {fd : FuncData} (T : ExT K mg "BadNumber" C f "number") (X : ExcC K C) (F : Fun K "__init__" "BadNumber.__init__" (inClass (topS 6) 0) f fd) : ErrF P w K mg base "BadNumber" "number" C := by
  refine ⟨f, fd, T, X, ?_, F.binds (fun _ _ _ _ _ _ us hl => match us, hl with | [_, _], _ => rfl), Bk.Fun.bindK F (fun _ _ _ _ _ _ _ _ => rfl)⟩
  refine F.ok scI_BadNumber (fun vs H Q E h => ?_) (fun cdv A outer s H vs Q E hr h => ?_)
  · obtain ⟨a, v, rfl, _⟩ := h
    rfl
  · obtain ⟨a, v, rfl, ha, q⟩ := h
    refine ⟨_, pss_one (ps_ost (pv 0) (pv 1)), ?_⟩
    exact ⟨_, rfl, _, rfl, a, C, rfl, T.o, T.noF, .inl ⟨ha, fun dx ndx hne => q dx ndx hne⟩⟩
theorem scI_NoFolder : FnScope ["self", "name"] ["self", "name"] (defScope (inClass (topS 7) 0)) := ⟨rfl, rfl, rfl, by decide +kernel, rfl, by decide +kernel, by decide +kernel⟩
theorem errF_NoFolder {C f : Addr} {fd : FuncData} (T : ExT K mg "NoFolder" C f "name") (X : ExcC K C) (F : Fun K "__init__" "NoFolder.__init__" (inClass (topS 7) 0) f fd) : ErrF P w K mg base "NoFolder" "name" C := by
  refine ⟨f, fd, T, X, ?_, F.binds (fun _ _ _ _ _ _ us hl => match us, hl with | [_, _], _ => rfl), Bk.Fun.bindK F (fun _ _ _ _ _ _ _ _ => rfl)⟩
  refine F.ok scI_NoFolder (fun vs H Q E h => ?_) (fun cdv A outer s H vs Q E hr h => ?_)
  · obtain ⟨a, v, rfl, _⟩ := h
    rfl
  · obtain ⟨a, v, rfl, ha, q⟩ := h
    refine ⟨_, pss_one (ps_ost (pv 0) (pv 1)), ?_⟩
    exact ⟨_, rfl, _, rfl, a, C, rfl, T.o, T.noF, .inl ⟨ha, fun dx ndx hne => q dx ndx hne⟩⟩
theorem scI_Taken : FnScope ["self", "name"] ["self", "name"] (defScope (inClass (topS 8) 0)) := ⟨rfl, rfl, rfl, by decide +kernel, rfl, by decide +kernel, by decide +kernel⟩
theorem errF_Taken {C f : Addr} {fd : FuncData} (T : ExT K mg "Taken" C f "name") (X : ExcC K C) (F : Fun K "__init__" "Taken.__init__" (inClass (topS 8) 0) f fd) : ErrF P w K mg base "Taken" "name" C := by
  refine ⟨f, fd, T, X, ?_, F.binds (fun _ _ _ _ _ _ us hl => match us, hl with | [_, _], _ => rfl), Bk.Fun.bindK F (fun _ _ _ _ _ _ _ _ => rfl)⟩
  refine F.ok scI_Taken (fun vs H Q E h => ?_) (fun cdv A outer s H vs Q E hr h => ?_)
  · obtain ⟨a, v, rfl, _⟩ := h
    rfl
  · obtain ⟨a, v, rfl, ha, q⟩ := h
    refine ⟨_, pss_one (ps_ost (pv 0) (pv 1)), ?_⟩
    exact ⟨_, rfl, _, rfl, a, C, rfl, T.o, T.noF, .inl ⟨ha, fun dx ndx hne => q dx ndx hne⟩⟩
theorem scI_Lacking : FnScope ["self", "lot"] ["self", "lot"] (defScope (inClass (topS 10) 0)) := ⟨rfl, rfl, rfl, by decide +kernel, rfl, by decide +kernel, by decide +kernel⟩
theorem errF_Lacking {C f : Addr} {fd : FuncData} (T : ExT K mg "Lacking" C f "lot") (X : ExcC K C) (F : Fun K "__init__" "Lacking.__init__" (inClass (topS 10) 0) f fd) : ErrF P w K mg base "Lacking" "lot" C := by
  refine ⟨f, fd, T, X, ?_, F.binds (fun _ _ _ _ _ _ us hl => match us, hl with | [_, _], _ => rfl), Bk.Fun.bindK F (fun _ _ _ _ _ _ _ _ => rfl)⟩
  refine F.ok scI_Lacking (fun vs H Q E h => ?_) (fun cdv A outer s H vs Q E hr h => ?_)
  · obtain ⟨a, v, rfl, _⟩ := h
    rfl
  · obtain ⟨a, v, rfl, ha, q⟩ := h
    refine ⟨_, pss_one (ps_ost (pv 0) (pv 1)), ?_⟩
    exact ⟨_, rfl, _, rfl, a, C, rfl, T.o, T.noF, .inl ⟨ha, fun dx ndx hne => q dx ndx hne⟩⟩
theorem scI_NotStore : FnScope ["self", "lot"] ["self", "lot"] (defScope (inClass (topS 11) 0)) := ⟨rfl, rfl, rfl, by decide +kernel, rfl, by decide +kernel, by decide +kernel⟩
theorem errF_NotStore {C f : Addr} {fd : FuncData} (T : ExT K mg "NotStore" C f "lot") (X : ExcC K C) (F : Fun K "__init__" "NotStore.__init__" (inClass (topS 11) 0) f fd) : ErrF P w K mg base "NotStore" "lot" C := by
  refine ⟨f, fd, T, X, ?_, F.binds (fun _ _ _ _ _ _ us hl => match us, hl with | [_, _], _ => rfl), Bk.Fun.bindK F (fun _ _ _ _ _ _ _ _ => rfl)⟩
  refine F.ok scI_NotStore (fun vs H Q E h => ?_) (fun cdv A outer s H vs Q E hr h => ?_)
  · obtain ⟨a, v, rfl, _⟩ := h
    rfl
  · obtain ⟨a, v, rfl, ha, q⟩ := h
    refine ⟨_, pss_one (ps_ost (pv 0) (pv 1)), ?_⟩
    exact ⟨_, rfl, _, rfl, a, C, rfl, T.o, T.noF, .inl ⟨ha, fun dx ndx hne => q dx ndx hne⟩⟩
theorem scI_BadTelling : FnScope ["self", "ends"] ["self", "ends"] (defScope (inClass (topS 12) 0)) := ⟨rfl, rfl, rfl, by decide +kernel, rfl, by decide +kernel, by decide +kernel⟩
theorem errF_BadTelling {C f : Addr} {fd : FuncData} (T : ExT K mg "BadTelling" C f "ends") (X : ExcC K C) (F : Fun K "__init__" "BadTelling.__init__" (inClass (topS 12) 0) f fd) : ErrF P w K mg base "BadTelling" "ends" C := by
  refine ⟨f, fd, T, X, ?_, F.binds (fun _ _ _ _ _ _ us hl => match us, hl with | [_, _], _ => rfl), Bk.Fun.bindK F (fun _ _ _ _ _ _ _ _ => rfl)⟩
  refine F.ok scI_BadTelling (fun vs H Q E h => ?_) (fun cdv A outer s H vs Q E hr h => ?_)
  · obtain ⟨a, v, rfl, _⟩ := h
    rfl
  · obtain ⟨a, v, rfl, ha, q⟩ := h
    refine ⟨_, pss_one (ps_ost (pv 0) (pv 1)), ?_⟩
    exact ⟨_, rfl, _, rfl, a, C, rfl, T.o, T.noF, .inl ⟨ha, fun dx ndx hne => q dx ndx hne⟩⟩
theorem scI_NotTold : FnScope ["self", "question"] ["self", "question"] (defScope (inClass (topS 13) 0)) := ⟨rfl, rfl, rfl, by decide +kernel, rfl, by decide +kernel, by decide +kernel⟩
theorem errF_NotTold {C f : Addr} {fd : FuncData} (T : ExT K mg "NotTold" C f "question") (X : ExcC K C) (F : Fun K "__init__" "NotTold.__init__" (inClass (topS 13) 0) f fd) : ErrF P w K mg base "NotTold" "question" C := by
  refine ⟨f, fd, T, X, ?_, F.binds (fun _ _ _ _ _ _ us hl => match us, hl with | [_, _], _ => rfl), Bk.Fun.bindK F (fun _ _ _ _ _ _ _ _ => rfl)⟩
  refine F.ok scI_NotTold (fun vs H Q E h => ?_) (fun cdv A outer s H vs Q E hr h => ?_)
  · obtain ⟨a, v, rfl, _⟩ := h
    rfl
  · obtain ⟨a, v, rfl, ha, q⟩ := h
    refine ⟨_, pss_one (ps_ost (pv 0) (pv 1)), ?_⟩
    exact ⟨_, rfl, _, rfl, a, C, rfl, T.o, T.noF, .inl ⟨ha, fun dx ndx hne => q dx ndx hne⟩⟩
theorem scI_Wrong : FnScope ["self", "weights"] ["self", "weights"] (defScope (inClass (topS 14) 0)) := ⟨rfl, rfl, rfl, by decide +kernel, rfl, by decide +kernel, by decide +kernel⟩
theorem errF_Wrong {C f : Addr} {fd : FuncData} (T : ExT K mg "Wrong" C f "weights") (X : ExcC K C) (F : Fun K "__init__" "Wrong.__init__" (inClass (topS 14) 0) f fd) : ErrF P w K mg base "Wrong" "weights" C := by
  refine ⟨f, fd, T, X, ?_, F.binds (fun _ _ _ _ _ _ us hl => match us, hl with | [_, _], _ => rfl), Bk.Fun.bindK F (fun _ _ _ _ _ _ _ _ => rfl)⟩
  refine F.ok scI_Wrong (fun vs H Q E h => ?_) (fun cdv A outer s H vs Q E hr h => ?_)
  · obtain ⟨a, v, rfl, _⟩ := h
    rfl
  · obtain ⟨a, v, rfl, ha, q⟩ := h
    refine ⟨_, pss_one (ps_ost (pv 0) (pv 1)), ?_⟩
    exact ⟨_, rfl, _, rfl, a, C, rfl, T.o, T.noF, .inl ⟨ha, fun dx ndx hne => q dx ndx hne⟩⟩
theorem scI_NoMoment : FnScope ["self", "moment"] ["self", "moment"] (defScope (inClass (topS 15) 0)) := ⟨rfl, rfl, rfl, by decide +kernel, rfl, by decide +kernel, by decide +kernel⟩
theorem errF_NoMoment {C f : Addr} {fd : FuncData} (T : ExT K mg "NoMoment" C f "moment") (X : ExcC K C) (F : Fun K "__init__" "NoMoment.__init__" (inClass (topS 15) 0) f fd) : ErrF P w K mg base "NoMoment" "moment" C := by
  refine ⟨f, fd, T, X, ?_, F.binds (fun _ _ _ _ _ _ us hl => match us, hl with | [_, _], _ => rfl), Bk.Fun.bindK F (fun _ _ _ _ _ _ _ _ => rfl)⟩
  refine F.ok scI_NoMoment (fun vs H Q E h => ?_) (fun cdv A outer s H vs Q E hr h => ?_)
  · obtain ⟨a, v, rfl, _⟩ := h
    rfl
  · obtain ⟨a, v, rfl, ha, q⟩ := h
    refine ⟨_, pss_one (ps_ost (pv 0) (pv 1)), ?_⟩
    exact ⟨_, rfl, _, rfl, a, C, rfl, T.o, T.noF, .inl ⟨ha, fun dx ndx hne => q dx ndx hne⟩⟩
theorem scI_BadDeed : FnScope ["self", "deed"] ["self", "deed"] (defScope (inClass (topS 16) 0)) := ⟨rfl, rfl, rfl, by decide +kernel, rfl, by decide +kernel, by decide +kernel⟩
theorem errF_BadDeed {C f : Addr} {fd : FuncData} (T : ExT K mg "BadDeed" C f "deed") (X : ExcC K C) (F : Fun K "__init__" "BadDeed.__init__" (inClass (topS 16) 0) f fd) : ErrF P w K mg base "BadDeed" "deed" C := by
  refine ⟨f, fd, T, X, ?_, F.binds (fun _ _ _ _ _ _ us hl => match us, hl with | [_, _], _ => rfl), Bk.Fun.bindK F (fun _ _ _ _ _ _ _ _ => rfl)⟩
  refine F.ok scI_BadDeed (fun vs H Q E h => ?_) (fun cdv A outer s H vs Q E hr h => ?_)
  · obtain ⟨a, v, rfl, _⟩ := h
    rfl
  · obtain ⟨a, v, rfl, ha, q⟩ := h
    refine ⟨_, pss_one (ps_ost (pv 0) (pv 1)), ?_⟩
    exact ⟨_, rfl, _, rfl, a, C, rfl, T.o, T.noF, .inl ⟨ha, fun dx ndx hne => q dx ndx hne⟩⟩
theorem scI_BadText : FnScope ["self", "line"] ["self", "line"] (defScope (inClass (topS 18) 0)) := ⟨rfl, rfl, rfl, by decide +kernel, rfl, by decide +kernel, by decide +kernel⟩
theorem errF_BadText {C f : Addr} {fd : FuncData} (T : ExT K mg "BadText" C f "line") (X : ExcC K C) (F : Fun K "__init__" "BadText.__init__" (inClass (topS 18) 0) f fd) : ErrF P w K mg base "BadText" "line" C := by
  refine ⟨f, fd, T, X, ?_, F.binds (fun _ _ _ _ _ _ us hl => match us, hl with | [_, _], _ => rfl), Bk.Fun.bindK F (fun _ _ _ _ _ _ _ _ => rfl)⟩
  refine F.ok scI_BadText (fun vs H Q E h => ?_) (fun cdv A outer s H vs Q E hr h => ?_)
  · obtain ⟨a, v, rfl, _⟩ := h
    rfl
  · obtain ⟨a, v, rfl, ha, q⟩ := h
    refine ⟨_, pss_one (ps_ost (pv 0) (pv 1)), ?_⟩
    exact ⟨_, rfl, _, rfl, a, C, rfl, T.o, T.noF, .inl ⟨ha, fun dx ndx hne => q dx ndx hne⟩⟩
theorem scI_Held : FnScope ["self", "name"] ["self", "name"] (defScope (inClass (topS 19) 0)) := ⟨rfl, rfl, rfl, by decide +kernel, rfl, by decide +kernel, by decide +kernel⟩
theorem errF_Held {C f : Addr} {fd : FuncData} (T : ExT K mg "Held" C f "name") (X : ExcC K C) (F : Fun K "__init__" "Held.__init__" (inClass (topS 19) 0) f fd) : ErrF P w K mg base "Held" "name" C := by
  refine ⟨f, fd, T, X, ?_, F.binds (fun _ _ _ _ _ _ us hl => match us, hl with | [_, _], _ => rfl), Bk.Fun.bindK F (fun _ _ _ _ _ _ _ _ => rfl)⟩
  refine F.ok scI_Held (fun vs H Q E h => ?_) (fun cdv A outer s H vs Q E hr h => ?_)
  · obtain ⟨a, v, rfl, _⟩ := h
    rfl
  · obtain ⟨a, v, rfl, ha, q⟩ := h
    refine ⟨_, pss_one (ps_ost (pv 0) (pv 1)), ?_⟩
    exact ⟨_, rfl, _, rfl, a, C, rfl, T.o, T.noF, .inl ⟨ha, fun dx ndx hne => q dx ndx hne⟩⟩
theorem scI_NotHeld : FnScope ["self", "name"] ["self", "name"] (defScope (inClass (topS 20) 0)) := ⟨rfl, rfl, rfl, by decide +kernel, rfl, by decide +kernel, by decide +kernel⟩
theorem errF_NotHeld {C f : Addr} {fd : FuncData} (T : ExT K mg "NotHeld" C f "name") (X : ExcC K C) (F : Fun K "__init__" "NotHeld.__init__" (inClass (topS 20) 0) f fd) : ErrF P w K mg base "NotHeld" "name" C := by
  refine ⟨f, fd, T, X, ?_, F.binds (fun _ _ _ _ _ _ us hl => match us, hl with | [_, _], _ => rfl), Bk.Fun.bindK F (fun _ _ _ _ _ _ _ _ => rfl)⟩
  refine F.ok scI_NotHeld (fun vs H Q E h => ?_) (fun cdv A outer s H vs Q E hr h => ?_)
  · obtain ⟨a, v, rfl, _⟩ := h
    rfl
  · obtain ⟨a, v, rfl, ha, q⟩ := h
    refine ⟨_, pss_one (ps_ost (pv 0) (pv 1)), ?_⟩
    exact ⟨_, rfl, _, rfl, a, C, rfl, T.o, T.noF, .inl ⟨ha, fun dx ndx hne => q dx ndx hne⟩⟩
end
end Bk

namespace Bk
open PySem PySem.Spec PyProof.Rows L2 LamX NdefX
theorem isx {K : PySem.W.Frag} {σ : L2.St} {H : Hp} {R : VK} {a C Cy : Addr} {b : Bool} (hv : σ[0]? = some (some (.ref a))) (at_ : ExV H a C) (T : ExcC K C) (k : PySem.W.kitOne K (.ref C) (.ref Cy) = some b) (r : R (.bl b) H) : tCB (rIsX K) (tCons (tVar 0) (tCons (tC (.ref Cy)) tNil)) σ H R :=
  ⟨_, hv, a, C, _, _, b, rfl, at_, T, .own Cy, k, r⟩
/-- of just one kind -/
def spKinds (K : PySem.W.Frag) (cA : Str → Addr) : Sp := fun vs H Q _ => ∃ (a : Addr) (x : Str), vs = [.ref a] ∧ x ∈ kindL ∧ ExV H a (cA x) ∧ ∀ H', Same H H' → Q (.int 1) H'
theorem one_kind : ∀ x ∈ kindL, ((kindL.map fun y => decide (x = y)).filter id).length = 1 := by decide +kernel
section
variable {P : Program} {w : World} {K : PySem.W.Frag} {mg : Str → Option Value} {base : Heap}
theorem scKinds : FnScope ["_law_e", "_law_found", "_law_is_so"] ["_law_e"] (defScope (topS 27)) := ⟨rfl, rfl, rfl, by decide +kernel, rfl, by decide +kernel, by decide +kernel⟩
theorem ok_kinds (B : Bi mg) {cA : Str → Addr} {f : Addr} {fd : FuncData} (gE : ∀ x ∈ kindL, mg x = some (.ref (cA x))) (T : ∀ x ∈ kindL, ExcC K (cA x)) (kE : ∀ x ∈ kindL, ∀ y ∈ kindL, PySem.W.kitOne K (.ref (cA x)) (.ref (cA y)) = some (decide (x = y)))
    (F : Fun K "_law_kinds" "_law_kinds" (topS 27) f fd) : FnOk P w K mg base CX0 1 f fd ["_law_e"] (spKinds K cA) := by
  refine F.ok scKinds (fun vs H Q E h => ?_) (fun cdv A outer s H vs Q E hr h => ?_)
  · obtain ⟨a, x, rfl, _⟩ := h
    rfl
  · obtain ⟨a, x, rfl, mx, at_, q⟩ := h
    have nd := scKinds.nd
    have hu := hu_of hr
    have g_BadFolders := gE "BadFolders" (by decide +kernel)
    have g_BadName := gE "BadName" (by decide +kernel)
    have g_BadLot := gE "BadLot" (by decide +kernel)
    have g_BadSize := gE "BadSize" (by decide +kernel)
    have g_BadNumber := gE "BadNumber" (by decide +kernel)
    have g_NoFolder := gE "NoFolder" (by decide +kernel)
    have g_Taken := gE "Taken" (by decide +kernel)
    have g_UnlikeFolders := gE "UnlikeFolders" (by decide +kernel)
    have g_Lacking := gE "Lacking" (by decide +kernel)
    have g_NotStore := gE "NotStore" (by decide +kernel)
    have g_BadTelling := gE "BadTelling" (by decide +kernel)
    have g_NotTold := gE "NotTold" (by decide +kernel)
    have g_Wrong := gE "Wrong" (by decide +kernel)
    have g_NoMoment := gE "NoMoment" (by decide +kernel)
    have g_BadDeed := gE "BadDeed" (by decide +kernel)
    have g_NoDeed := gE "NoDeed" (by decide +kernel)
    have g_BadText := gE "BadText" (by decide +kernel)
    have g_Held := gE "Held" (by decide +kernel)
    have g_NotHeld := gE "NotHeld" (by decide +kernel)
    have Tx := T x mx
    have kk : ∀ y ∈ kindL, PySem.W.kitOne K (.ref (cA x)) (.ref (cA y)) = some (decide (x = y)) := kE x mx
    refine ⟨_, (Evl.pss_cut (ps_set (i := 1) nd rfl (Or.inl rfl) (pe_lst (pa_cons (pe_callB (call_isX (K := K) rfl) (by rfl) B.isinstance (by decide +kernel) (pa_cons (pv 0) (pa_cons (pe_glob (v := .ref _) (by rfl) g_BadFolders rfl) pa_nil))) (pa_cons (pe_callB (call_isX (K := K) rfl) (by rfl) B.isinstance (by decide +kernel) (pa_cons (pv 0) (pa_cons (pe_glob (v := .ref _) (by rfl) g_BadName rfl) pa_nil))) (pa_cons (pe_callB (call_isX (K := K) rfl) (by rfl) B.isinstance (by decide +kernel) (pa_cons (pv 0) (pa_cons (pe_glob (v := .ref _) (by rfl) g_BadLot rfl) pa_nil))) (pa_cons (pe_callB (call_isX (K := K) rfl) (by rfl) B.isinstance (by decide +kernel) (pa_cons (pv 0) (pa_cons (pe_glob (v := .ref _) (by rfl) g_BadSize rfl) pa_nil))) pa_nil))))))
      (Evl.pss_cut (ps_expr (pe_bm PySem.F.plainAttrs_list PySem.F.slot_list_extend PySem.F.type_list_extend mt_extend (pv 1) (pa_cons (pe_lst (pa_cons (pe_callB (call_isX (K := K) rfl) (by rfl) B.isinstance (by decide +kernel) (pa_cons (pv 0) (pa_cons (pe_glob (v := .ref _) (by rfl) g_BadNumber rfl) pa_nil))) (pa_cons (pe_callB (call_isX (K := K) rfl) (by rfl) B.isinstance (by decide +kernel) (pa_cons (pv 0) (pa_cons (pe_glob (v := .ref _) (by rfl) g_NoFolder rfl) pa_nil))) (pa_cons (pe_callB (call_isX (K := K) rfl) (by rfl) B.isinstance (by decide +kernel) (pa_cons (pv 0) (pa_cons (pe_glob (v := .ref _) (by rfl) g_Taken rfl) pa_nil))) pa_nil)))) pa_nil)))
      (Evl.pss_cut (ps_expr (pe_bm PySem.F.plainAttrs_list PySem.F.slot_list_extend PySem.F.type_list_extend mt_extend (pv 1) (pa_cons (pe_lst (pa_cons (pe_callB (call_isX (K := K) rfl) (by rfl) B.isinstance (by decide +kernel) (pa_cons (pv 0) (pa_cons (pe_glob (v := .ref _) (by rfl) g_UnlikeFolders rfl) pa_nil))) (pa_cons (pe_callB (call_isX (K := K) rfl) (by rfl) B.isinstance (by decide +kernel) (pa_cons (pv 0) (pa_cons (pe_glob (v := .ref _) (by rfl) g_Lacking rfl) pa_nil))) (pa_cons (pe_callB (call_isX (K := K) rfl) (by rfl) B.isinstance (by decide +kernel) (pa_cons (pv 0) (pa_cons (pe_glob (v := .ref _) (by rfl) g_NotStore rfl) pa_nil))) pa_nil)))) pa_nil)))
      (Evl.pss_cut (ps_expr (pe_bm PySem.F.plainAttrs_list PySem.F.slot_list_extend PySem.F.type_list_extend mt_extend (pv 1) (pa_cons (pe_lst (pa_cons (pe_callB (call_isX (K := K) rfl) (by rfl) B.isinstance (by decide +kernel) (pa_cons (pv 0) (pa_cons (pe_glob (v := .ref _) (by rfl) g_BadTelling rfl) pa_nil))) (pa_cons (pe_callB (call_isX (K := K) rfl) (by rfl) B.isinstance (by decide +kernel) (pa_cons (pv 0) (pa_cons (pe_glob (v := .ref _) (by rfl) g_NotTold rfl) pa_nil))) pa_nil))) pa_nil)))
      (Evl.pss_cut (ps_expr (pe_bm PySem.F.plainAttrs_list PySem.F.slot_list_extend PySem.F.type_list_extend mt_extend (pv 1) (pa_cons (pe_lst (pa_cons (pe_callB (call_isX (K := K) rfl) (by rfl) B.isinstance (by decide +kernel) (pa_cons (pv 0) (pa_cons (pe_glob (v := .ref _) (by rfl) g_Wrong rfl) pa_nil))) (pa_cons (pe_callB (call_isX (K := K) rfl) (by rfl) B.isinstance (by decide +kernel) (pa_cons (pv 0) (pa_cons (pe_glob (v := .ref _) (by rfl) g_NoMoment rfl) pa_nil))) (pa_cons (pe_callB (call_isX (K := K) rfl) (by rfl) B.isinstance (by decide +kernel) (pa_cons (pv 0) (pa_cons (pe_glob (v := .ref _) (by rfl) g_BadDeed rfl) pa_nil))) (pa_cons (pe_callB (call_isX (K := K) rfl) (by rfl) B.isinstance (by decide +kernel) (pa_cons (pv 0) (pa_cons (pe_glob (v := .ref _) (by rfl) g_NoDeed rfl) pa_nil))) pa_nil))))) pa_nil)))
      (Evl.pss_cut (ps_expr (pe_bm PySem.F.plainAttrs_list PySem.F.slot_list_extend PySem.F.type_list_extend mt_extend (pv 1) (pa_cons (pe_lst (pa_cons (pe_callB (call_isX (K := K) rfl) (by rfl) B.isinstance (by decide +kernel) (pa_cons (pv 0) (pa_cons (pe_glob (v := .ref _) (by rfl) g_BadText rfl) pa_nil))) (pa_cons (pe_callB (call_isX (K := K) rfl) (by rfl) B.isinstance (by decide +kernel) (pa_cons (pv 0) (pa_cons (pe_glob (v := .ref _) (by rfl) g_Held rfl) pa_nil))) (pa_cons (pe_callB (call_isX (K := K) rfl) (by rfl) B.isinstance (by decide +kernel) (pa_cons (pv 0) (pa_cons (pe_glob (v := .ref _) (by rfl) g_NotHeld rfl) pa_nil))) pa_nil)))) pa_nil)))
      (pss_one (ps_ret (pe_callB (kLen K) (by rfl) B.len PySem.boot_len (pa_cons (pe_lc (own := [("_law_is_so", 2)]) rfl nd (kPiL K (pv 1)) (blkOk_by (N := ["_law_e", "_law_found", "_law_is_so"]) (sc := defScope (topS 27)) (by decide +kernel)) (fun _ _ _ _ _ => (pg_name (i := 2) nd rfl (Or.inl rfl))) (fun _ _ _ _ _ => (pts_one (pt_val (pv 2)))) (fun _ _ _ _ _ => (pv 2))) pa_nil)))))))))), ?_⟩
    have inv : ∃ I : Nat → L2.St → Hp → Prop, I = (fun n σ' H' => ∃ D : Addr, σ' = [some (.ref a), some (.ref D), none] ∧ Same H H' ∧ H D = none ∧ H' D = some (.lst ((kindL.take n).map fun y => V.bl (decide (x = y))))) := ⟨_, rfl⟩
    obtain ⟨I, hI⟩ := inv
    refine ⟨I 4, ?_, ?_⟩
    · rw [hI]
      refine isx rfl at_ Tx (kk "BadFolders" (by decide +kernel)) ?_
      refine isx rfl at_ Tx (kk "BadName" (by decide +kernel)) ?_
      refine isx rfl at_ Tx (kk "BadLot" (by decide +kernel)) ?_
      refine isx rfl at_ Tx (kk "BadSize" (by decide +kernel)) ?_
      refine ⟨by show 4 ≤ sizeLine; decide, fun D nD => ?_⟩
      exact ⟨D, rfl, same_upd nD, nD, upd_same⟩
    intro σ1 H1 h1
    rw [hI] at h1
    obtain ⟨D, rfl, e1, nD, hD⟩ := h1
    refine ⟨I 7, ?_, ?_⟩
    · rw [hI]
      have at1 : ExV H1 a (cA x) := at_.same e1
      refine ⟨_, rfl, .inl ⟨rfl, _, SqL.of hD⟩, ?_⟩
      refine isx rfl at1 Tx (kk "BadNumber" (by decide +kernel)) ?_
      refine isx rfl at1 Tx (kk "NoFolder" (by decide +kernel)) ?_
      refine isx rfl at1 Tx (kk "Taken" (by decide +kernel)) ?_
      refine ⟨by show 3 ≤ sizeLine; decide, fun l nl => ?_⟩
      have el := same_upd (o := HO.lst [V.bl (decide (x = "BadNumber")), V.bl (decide (x = "NoFolder")), V.bl (decide (x = "Taken"))]) nl
      have nDl : D ≠ l := ne_of_none hD nl
      refine ⟨D, l, _, _, rfl, rfl, el _ _ hD, upd_same, ?_, ?_⟩
      · rw [sizeLine_eq, List.length_map, List.length_take]
        show min 4 kindL.length + 3 ≤ _
        omega
      · exact ⟨D, rfl, Same.grow (Same.trans e1 el) nD, nD, by rw [upd_same]; rfl⟩
    intro σ1 H1 h1
    rw [hI] at h1
    obtain ⟨D, rfl, e1, nD, hD⟩ := h1
    refine ⟨I 10, ?_, ?_⟩
    · rw [hI]
      have at1 : ExV H1 a (cA x) := at_.same e1
      refine ⟨_, rfl, .inl ⟨rfl, _, SqL.of hD⟩, ?_⟩
      refine isx rfl at1 Tx (kk "UnlikeFolders" (by decide +kernel)) ?_
      refine isx rfl at1 Tx (kk "Lacking" (by decide +kernel)) ?_
      refine isx rfl at1 Tx (kk "NotStore" (by decide +kernel)) ?_
      refine ⟨by show 3 ≤ sizeLine; decide, fun l nl => ?_⟩
      have el := same_upd (o := HO.lst [V.bl (decide (x = "UnlikeFolders")), V.bl (decide (x = "Lacking")), V.bl (decide (x = "NotStore"))]) nl
      have nDl : D ≠ l := ne_of_none hD nl
      refine ⟨D, l, _, _, rfl, rfl, el _ _ hD, upd_same, ?_, ?_⟩
      · rw [sizeLine_eq, List.length_map, List.length_take]
        show min 7 kindL.length + 3 ≤ _
        omega
      · exact ⟨D, rfl, Same.grow (Same.trans e1 el) nD, nD, by rw [upd_same]; rfl⟩
    intro σ1 H1 h1
    rw [hI] at h1
    obtain ⟨D, rfl, e1, nD, hD⟩ := h1
    refine ⟨I 12, ?_, ?_⟩
    · rw [hI]
      have at1 : ExV H1 a (cA x) := at_.same e1
      refine ⟨_, rfl, .inl ⟨rfl, _, SqL.of hD⟩, ?_⟩
      refine isx rfl at1 Tx (kk "BadTelling" (by decide +kernel)) ?_
      refine isx rfl at1 Tx (kk "NotTold" (by decide +kernel)) ?_
      refine ⟨by show 2 ≤ sizeLine; decide, fun l nl => ?_⟩
      have el := same_upd (o := HO.lst [V.bl (decide (x = "BadTelling")), V.bl (decide (x = "NotTold"))]) nl
      have nDl : D ≠ l := ne_of_none hD nl
      refine ⟨D, l, _, _, rfl, rfl, el _ _ hD, upd_same, ?_, ?_⟩
      · rw [sizeLine_eq, List.length_map, List.length_take]
        show min 10 kindL.length + 2 ≤ _
        omega
      · exact ⟨D, rfl, Same.grow (Same.trans e1 el) nD, nD, by rw [upd_same]; rfl⟩
    intro σ1 H1 h1
    rw [hI] at h1
    obtain ⟨D, rfl, e1, nD, hD⟩ := h1
    refine ⟨I 16, ?_, ?_⟩
    · rw [hI]
      have at1 : ExV H1 a (cA x) := at_.same e1
      refine ⟨_, rfl, .inl ⟨rfl, _, SqL.of hD⟩, ?_⟩
      refine isx rfl at1 Tx (kk "Wrong" (by decide +kernel)) ?_
      refine isx rfl at1 Tx (kk "NoMoment" (by decide +kernel)) ?_
      refine isx rfl at1 Tx (kk "BadDeed" (by decide +kernel)) ?_
      refine isx rfl at1 Tx (kk "NoDeed" (by decide +kernel)) ?_
      refine ⟨by show 4 ≤ sizeLine; decide, fun l nl => ?_⟩
      have el := same_upd (o := HO.lst [V.bl (decide (x = "Wrong")), V.bl (decide (x = "NoMoment")), V.bl (decide (x = "BadDeed")), V.bl (decide (x = "NoDeed"))]) nl
      have nDl : D ≠ l := ne_of_none hD nl
      refine ⟨D, l, _, _, rfl, rfl, el _ _ hD, upd_same, ?_, ?_⟩
      · rw [sizeLine_eq, List.length_map, List.length_take]
        show min 12 kindL.length + 4 ≤ _
        omega
      · exact ⟨D, rfl, Same.grow (Same.trans e1 el) nD, nD, by rw [upd_same]; rfl⟩
    intro σ1 H1 h1
    rw [hI] at h1
    obtain ⟨D, rfl, e1, nD, hD⟩ := h1
    refine ⟨I 19, ?_, ?_⟩
    · rw [hI]
      have at1 : ExV H1 a (cA x) := at_.same e1
      refine ⟨_, rfl, .inl ⟨rfl, _, SqL.of hD⟩, ?_⟩
      refine isx rfl at1 Tx (kk "BadText" (by decide +kernel)) ?_
      refine isx rfl at1 Tx (kk "Held" (by decide +kernel)) ?_
      refine isx rfl at1 Tx (kk "NotHeld" (by decide +kernel)) ?_
      refine ⟨by show 3 ≤ sizeLine; decide, fun l nl => ?_⟩
      have el := same_upd (o := HO.lst [V.bl (decide (x = "BadText")), V.bl (decide (x = "Held")), V.bl (decide (x = "NotHeld"))]) nl
      have nDl : D ≠ l := ne_of_none hD nl
      refine ⟨D, l, _, _, rfl, rfl, el _ _ hD, upd_same, ?_, ?_⟩
      · rw [sizeLine_eq, List.length_map, List.length_take]
        show min 16 kindL.length + 3 ≤ _
        omega
      · exact ⟨D, rfl, Same.grow (Same.trans e1 el) nD, nD, by rw [upd_same]; rfl⟩
    intro σ1 H1 h1
    rw [hI] at h1
    obtain ⟨D, rfl, e1, nD, hD⟩ := h1
    have ek : kindL.take 19 = kindL := by decide +kernel
    rw [ek] at hD
    refine cb1 ?_
    refine ⟨_, rfl, D, rfl, ⟨_, SqL.of hD⟩, fun D2 nD2 => ?_⟩
    refine lc_it (walk_list (xs := kindL.map fun y => V.bl (decide (x = y)))) (fun k H' => Same H1 H' ∧ H' D2 = some (.lst ((((kindL.map fun y => decide (x = y)).take k).filter id).map V.bl))) ⟨same_upd nD2, upd_same⟩ (fun k H' _ z => SqL.of (z.1 _ _ hD)) ?_ ?_
    · rintro k v H3 H4 hk ⟨e3, hD3⟩ ⟨rfl, hv⟩
      rw [List.getElem?_map] at hv
      obtain ⟨y, hy, rfl⟩ := Option.map_eq_some_iff.mp hv
      have hy2 : (kindL.map fun y => decide (x = y))[k]? = some (decide (x = y)) := by rw [List.getElem?_map, hy]; rfl
      have ll : kindL.length = 19 := by decide +kernel
      have hk19 : k < 19 := by rw [List.length_map, ll] at hk; exact hk
      refine ⟨rfl, _, rfl, _, rfl, ?_⟩
      rw [take_succ hy2, List.filter_append, List.map_append]
      cases hb : decide (x = y) with
      | true =>
        refine iteT ?_
        refine ⟨_, rfl, _, hD3, ?_, Same.grow e3 nD2, ?_⟩
        · refine Evl.sz_lt ?_
          rw [List.length_map]
          have h1 := List.length_filter_le id ((kindL.map fun y => decide (x = y)).take k)
          rw [List.length_take] at h1
          omega
        · rw [upd_same]
          rfl
      | false =>
        refine iteF ?_
        refine ⟨e3, ?_⟩
        rw [hD3]
        simp
    · rintro H3 ⟨e3, hD3⟩
      have h1 := one_kind x mx
      rw [List.length_map, ← List.length_map (as := kindL) (f := fun y => decide (x = y)), List.take_length] at hD3
      refine ⟨.ref D2, _, rfl, .inl ⟨_, SqL.of hD3, rfl⟩, ?_⟩
      rw [List.length_map, h1]
      exact q H3 (Same.trans e1 e3)
end
end Bk

set_option maxHeartbeats 8000000
namespace Bk
open PySem PySem.Spec PyProof.Rows L2 LamX NdefX
def qL : Str := (envOfC "_law_pairs" (defScope (topS 26)) 0 0 .none).qual ++ "<lambda>"
section
variable {P : Program} {w : World} {K : PySem.W.Frag} {mg : Str → Option Value} {base : Heap}
def Trips (P : Program) (w : World) (K : PySem.W.Frag) (mg : Str → Option Value) (base : Heap) (cA : Str → Addr) (H : Hp) (x : V) (vs : List V) (es : List (Str × Str)) : Prop :=
  vs.length = es.length ∧ ∀ (j : Nat) (v : V) (e : Str × Str), vs[j]? = some v → es[j]? = some e → Trip P w K mg base H (cA e.1) e.2 x v
section
variable {cA : Str → Addr} {H H' : Hp} {x : V} {vs ws : List V} {es fs : List (Str × Str)}
theorem Trips.nil : Trips P w K mg base cA H x [] [] := ⟨rfl, fun j v e h => by simp at h⟩
theorem Trips.extN (h : Trips P w K mg base cA H x vs es) (e : ExtN H H') : Trips P w K mg base cA H' x vs es := ⟨h.1, fun j v f h1 h2 => (h.2 j v f h1 h2).extN e⟩
theorem Trips.updL {D : Addr} {l : List V} {o : HO} (h : Trips P w K mg base cA H x vs es) (hD : H D = some (.lst l)) : Trips P w K mg base cA (upd H D o) x vs es := ⟨h.1, fun j v f h1 h2 => (h.2 j v f h1 h2).updL hD⟩
theorem Trips.app (h : Trips P w K mg base cA H x vs es) (g : Trips P w K mg base cA H x ws fs) : Trips P w K mg base cA H x (vs ++ ws) (es ++ fs) := by
  refine ⟨by rw [List.length_append, List.length_append, h.1, g.1], fun i v e h1 h2 => ?_⟩
  by_cases hi : i < vs.length
  · rw [List.getElem?_append_left hi] at h1
    rw [List.getElem?_append_left (by rw [← h.1]; exact hi)] at h2
    exact h.2 i v e h1 h2
  · rw [List.getElem?_append_right (by omega)] at h1
    rw [List.getElem?_append_right (by rw [← h.1]; omega), ← h.1] at h2
    exact g.2 _ v e h1 h2
theorem Trips.cons {v : V} {e : Str × Str} (t : Trip P w K mg base H (cA e.1) e.2 x v) (g : Trips P w K mg base cA H x ws fs) : Trips P w K mg base cA H x (v :: ws) (e :: fs) := by
  refine ⟨congrArg Nat.succ g.1, fun i u f h1 h2 => ?_⟩
  cases i with
  | zero =>
    cases h1
    cases h2
    exact t
  | succ i => exact g.2 i u f (by simpa using h1) (by simpa using h2)
end
def spPairs (P : Program) (w : World) (K : PySem.W.Frag) (mg : Str → Option Value) (base : Heap) (cA : Str → Addr) (T : List (Addr × Str)) : Sp := fun vs H Q _ => ∃ x : V, vs = [x] ∧ Tabs T H ∧
  ∀ (D : Addr) (us : List V) (H' : Hp), ExtM H H' → Tabs T H' → H D = none → H' D = some (.lst us) → Trips P w K mg base cA H' x us errL → Q (.ref D) H'
theorem scPairs : FnScope ["_law_x", "_law_found"] ["_law_x"] (defScope (topS 26)) := ⟨rfl, rfl, rfl, by decide +kernel, rfl, by decide +kernel, by decide +kernel⟩
theorem ok_pairs (B : Bi mg) {cA : Str → Addr} {f c P0 : Addr} {fd : FuncData} (TBp : TabB base mg c P0) (hcd : fd.code = .ref c) (eF : ∀ e ∈ errL, ErrF P w K mg base e.1 e.2 (cA e.1))
    (F : Fun K "_law_pairs" "_law_pairs" (topS 26) f fd) : FnOk P w K mg base CX0 3 f fd ["_law_x"] (spPairs P w K mg base cA [(P0, qL)]) := by
  refine Fun.okC F hcd scPairs (fun vs H Q E h => ?_) (fun A outer s H vs Q E hr h => ?_)
  · obtain ⟨x, rfl, _⟩ := h
    rfl
  · obtain ⟨x, rfl, hT, q⟩ := h
    have nd := scPairs.nd
    have hu := hu_of hr
    have hrE := hr
    have hmT : (P0, qL) ∈ [(P0, qL)] := List.mem_singleton.mpr rfl
    have huT : ∀ p ∈ [(P0, qL)], p.1 = P0 → p.2 = qL := fun p hp _ => by rw [List.mem_singleton.mp hp]
    obtain ⟨f_BadFolders, d_BadFolders, T_BadFolders, X_BadFolders, G_BadFolders, b_BadFolders, k_BadFolders⟩ := eF ("BadFolders", "index") (by decide +kernel)
    obtain ⟨f_BadName, d_BadName, T_BadName, X_BadName, G_BadName, b_BadName, k_BadName⟩ := eF ("BadName", "name") (by decide +kernel)
    obtain ⟨f_BadLot, d_BadLot, T_BadLot, X_BadLot, G_BadLot, b_BadLot, k_BadLot⟩ := eF ("BadLot", "lot") (by decide +kernel)
    obtain ⟨f_BadSize, d_BadSize, T_BadSize, X_BadSize, G_BadSize, b_BadSize, k_BadSize⟩ := eF ("BadSize", "size") (by decide +kernel)
    obtain ⟨f_BadNumber, d_BadNumber, T_BadNumber, X_BadNumber, G_BadNumber, b_BadNumber, k_BadNumber⟩ := eF ("BadNumber", "number") (by decide +kernel)
    obtain ⟨f_NoFolder, d_NoFolder, T_NoFolder, X_NoFolder, G_NoFolder, b_NoFolder, k_NoFolder⟩ := eF ("NoFolder", "name") (by decide +kernel)
    obtain ⟨f_Taken, d_Taken, T_Taken, X_Taken, G_Taken, b_Taken, k_Taken⟩ := eF ("Taken", "name") (by decide +kernel)
    obtain ⟨f_Lacking, d_Lacking, T_Lacking, X_Lacking, G_Lacking, b_Lacking, k_Lacking⟩ := eF ("Lacking", "lot") (by decide +kernel)
    obtain ⟨f_NotStore, d_NotStore, T_NotStore, X_NotStore, G_NotStore, b_NotStore, k_NotStore⟩ := eF ("NotStore", "lot") (by decide +kernel)
    obtain ⟨f_BadTelling, d_BadTelling, T_BadTelling, X_BadTelling, G_BadTelling, b_BadTelling, k_BadTelling⟩ := eF ("BadTelling", "ends") (by decide +kernel)
    obtain ⟨f_NotTold, d_NotTold, T_NotTold, X_NotTold, G_NotTold, b_NotTold, k_NotTold⟩ := eF ("NotTold", "question") (by decide +kernel)
    obtain ⟨f_Wrong, d_Wrong, T_Wrong, X_Wrong, G_Wrong, b_Wrong, k_Wrong⟩ := eF ("Wrong", "weights") (by decide +kernel)
    obtain ⟨f_NoMoment, d_NoMoment, T_NoMoment, X_NoMoment, G_NoMoment, b_NoMoment, k_NoMoment⟩ := eF ("NoMoment", "moment") (by decide +kernel)
    obtain ⟨f_BadDeed, d_BadDeed, T_BadDeed, X_BadDeed, G_BadDeed, b_BadDeed, k_BadDeed⟩ := eF ("BadDeed", "deed") (by decide +kernel)
    obtain ⟨f_BadText, d_BadText, T_BadText, X_BadText, G_BadText, b_BadText, k_BadText⟩ := eF ("BadText", "line") (by decide +kernel)
    obtain ⟨f_Held, d_Held, T_Held, X_Held, G_Held, b_Held, k_Held⟩ := eF ("Held", "name") (by decide +kernel)
    obtain ⟨f_NotHeld, d_NotHeld, T_NotHeld, X_NotHeld, G_NotHeld, b_NotHeld, k_NotHeld⟩ := eF ("NotHeld", "name") (by decide +kernel)
    have inv : ∃ I : Nat → L2.St → Hp → Prop, I = (fun n σ' H' => ∃ (D : Addr) (us : List V), σ' = [some x, some (.ref D)] ∧ ExtM H H' ∧ Tabs [(P0, qL)] H' ∧ H D = none ∧ H' D = some (.lst us) ∧ Trips P w K mg base cA H' x us (errL.take n)) := ⟨_, rfl⟩
    obtain ⟨I, hI⟩ := inv
    refine ⟨_, (Evl.pss_cut (ps_set (i := 1) nd rfl (Or.inl rfl) (pe_lst (pa_cons (pe_tup (pa_cons (pe_oexV T_BadFolders.o T_BadFolders.iC T_BadFolders.tI G_BadFolders hrE b_BadFolders pass0 (by rfl) T_BadFolders.g (pa_cons (pv 0) pa_nil)) (pa_cons (pe_oexK T_BadFolders.o T_BadFolders.iC T_BadFolders.tI G_BadFolders hrE k_BadFolders pass0 (by rfl) T_BadFolders.g (pk_cons (pv 0) pk_nil)) (pa_cons (pe_lam (by rfl) TBp rfl hmT huT) pa_nil)))) (pa_cons (pe_tup (pa_cons (pe_oexV T_BadName.o T_BadName.iC T_BadName.tI G_BadName hrE b_BadName pass0 (by rfl) T_BadName.g (pa_cons (pv 0) pa_nil)) (pa_cons (pe_oexK T_BadName.o T_BadName.iC T_BadName.tI G_BadName hrE k_BadName pass0 (by rfl) T_BadName.g (pk_cons (pv 0) pk_nil)) (pa_cons (pe_lam (by rfl) TBp rfl hmT huT) pa_nil)))) pa_nil))))
      (Evl.pss_cut (ps_expr (pe_bm PySem.F.plainAttrs_list PySem.F.slot_list_extend PySem.F.type_list_extend mt_extend (pv 1) (pa_cons (pe_lst (pa_cons (pe_tup (pa_cons (pe_oexV T_BadLot.o T_BadLot.iC T_BadLot.tI G_BadLot hrE b_BadLot pass0 (by rfl) T_BadLot.g (pa_cons (pv 0) pa_nil)) (pa_cons (pe_oexK T_BadLot.o T_BadLot.iC T_BadLot.tI G_BadLot hrE k_BadLot pass0 (by rfl) T_BadLot.g (pk_cons (pv 0) pk_nil)) (pa_cons (pe_lam (by rfl) TBp rfl hmT huT) pa_nil)))) (pa_cons (pe_tup (pa_cons (pe_oexV T_BadSize.o T_BadSize.iC T_BadSize.tI G_BadSize hrE b_BadSize pass0 (by rfl) T_BadSize.g (pa_cons (pv 0) pa_nil)) (pa_cons (pe_oexK T_BadSize.o T_BadSize.iC T_BadSize.tI G_BadSize hrE k_BadSize pass0 (by rfl) T_BadSize.g (pk_cons (pv 0) pk_nil)) (pa_cons (pe_lam (by rfl) TBp rfl hmT huT) pa_nil)))) pa_nil))) pa_nil)))
      (Evl.pss_cut (ps_expr (pe_bm PySem.F.plainAttrs_list PySem.F.slot_list_append PySem.F.type_list_append mt_append (pv 1) (pa_cons (pe_tup (pa_cons (pe_oexV T_BadNumber.o T_BadNumber.iC T_BadNumber.tI G_BadNumber hrE b_BadNumber pass0 (by rfl) T_BadNumber.g (pa_cons (pv 0) pa_nil)) (pa_cons (pe_oexK T_BadNumber.o T_BadNumber.iC T_BadNumber.tI G_BadNumber hrE k_BadNumber pass0 (by rfl) T_BadNumber.g (pk_cons (pv 0) pk_nil)) (pa_cons (pe_lam (by rfl) TBp rfl hmT huT) pa_nil)))) pa_nil)))
      (Evl.pss_cut (ps_expr (pe_bm PySem.F.plainAttrs_list PySem.F.slot_list_append PySem.F.type_list_append mt_append (pv 1) (pa_cons (pe_tup (pa_cons (pe_oexV T_NoFolder.o T_NoFolder.iC T_NoFolder.tI G_NoFolder hrE b_NoFolder pass0 (by rfl) T_NoFolder.g (pa_cons (pv 0) pa_nil)) (pa_cons (pe_oexK T_NoFolder.o T_NoFolder.iC T_NoFolder.tI G_NoFolder hrE k_NoFolder pass0 (by rfl) T_NoFolder.g (pk_cons (pv 0) pk_nil)) (pa_cons (pe_lam (by rfl) TBp rfl hmT huT) pa_nil)))) pa_nil)))
      (Evl.pss_cut (ps_expr (pe_bm PySem.F.plainAttrs_list PySem.F.slot_list_extend PySem.F.type_list_extend mt_extend (pv 1) (pa_cons (pe_lst (pa_cons (pe_tup (pa_cons (pe_oexV T_Taken.o T_Taken.iC T_Taken.tI G_Taken hrE b_Taken pass0 (by rfl) T_Taken.g (pa_cons (pv 0) pa_nil)) (pa_cons (pe_oexK T_Taken.o T_Taken.iC T_Taken.tI G_Taken hrE k_Taken pass0 (by rfl) T_Taken.g (pk_cons (pv 0) pk_nil)) (pa_cons (pe_lam (by rfl) TBp rfl hmT huT) pa_nil)))) (pa_cons (pe_tup (pa_cons (pe_oexV T_Lacking.o T_Lacking.iC T_Lacking.tI G_Lacking hrE b_Lacking pass0 (by rfl) T_Lacking.g (pa_cons (pv 0) pa_nil)) (pa_cons (pe_oexK T_Lacking.o T_Lacking.iC T_Lacking.tI G_Lacking hrE k_Lacking pass0 (by rfl) T_Lacking.g (pk_cons (pv 0) pk_nil)) (pa_cons (pe_lam (by rfl) TBp rfl hmT huT) pa_nil)))) pa_nil))) pa_nil)))
      (Evl.pss_cut (ps_expr (pe_bm PySem.F.plainAttrs_list PySem.F.slot_list_append PySem.F.type_list_append mt_append (pv 1) (pa_cons (pe_tup (pa_cons (pe_oexV T_NotStore.o T_NotStore.iC T_NotStore.tI G_NotStore hrE b_NotStore pass0 (by rfl) T_NotStore.g (pa_cons (pv 0) pa_nil)) (pa_cons (pe_oexK T_NotStore.o T_NotStore.iC T_NotStore.tI G_NotStore hrE k_NotStore pass0 (by rfl) T_NotStore.g (pk_cons (pv 0) pk_nil)) (pa_cons (pe_lam (by rfl) TBp rfl hmT huT) pa_nil)))) pa_nil)))
      (Evl.pss_cut (ps_expr (pe_bm PySem.F.plainAttrs_list PySem.F.slot_list_append PySem.F.type_list_append mt_append (pv 1) (pa_cons (pe_tup (pa_cons (pe_oexV T_BadTelling.o T_BadTelling.iC T_BadTelling.tI G_BadTelling hrE b_BadTelling pass0 (by rfl) T_BadTelling.g (pa_cons (pv 0) pa_nil)) (pa_cons (pe_oexK T_BadTelling.o T_BadTelling.iC T_BadTelling.tI G_BadTelling hrE k_BadTelling pass0 (by rfl) T_BadTelling.g (pk_cons (pv 0) pk_nil)) (pa_cons (pe_lam (by rfl) TBp rfl hmT huT) pa_nil)))) pa_nil)))
      (Evl.pss_cut (ps_expr (pe_bm PySem.F.plainAttrs_list PySem.F.slot_list_append PySem.F.type_list_append mt_append (pv 1) (pa_cons (pe_tup (pa_cons (pe_oexV T_NotTold.o T_NotTold.iC T_NotTold.tI G_NotTold hrE b_NotTold pass0 (by rfl) T_NotTold.g (pa_cons (pv 0) pa_nil)) (pa_cons (pe_oexK T_NotTold.o T_NotTold.iC T_NotTold.tI G_NotTold hrE k_NotTold pass0 (by rfl) T_NotTold.g (pk_cons (pv 0) pk_nil)) (pa_cons (pe_lam (by rfl) TBp rfl hmT huT) pa_nil)))) pa_nil)))
      (Evl.pss_cut (ps_expr (pe_bm PySem.F.plainAttrs_list PySem.F.slot_list_append PySem.F.type_list_append mt_append (pv 1) (pa_cons (pe_tup (pa_cons (pe_oexV T_Wrong.o T_Wrong.iC T_Wrong.tI G_Wrong hrE b_Wrong pass0 (by rfl) T_Wrong.g (pa_cons (pv 0) pa_nil)) (pa_cons (pe_oexK T_Wrong.o T_Wrong.iC T_Wrong.tI G_Wrong hrE k_Wrong pass0 (by rfl) T_Wrong.g (pk_cons (pv 0) pk_nil)) (pa_cons (pe_lam (by rfl) TBp rfl hmT huT) pa_nil)))) pa_nil)))
      (Evl.pss_cut (ps_expr (pe_bm PySem.F.plainAttrs_list PySem.F.slot_list_append PySem.F.type_list_append mt_append (pv 1) (pa_cons (pe_tup (pa_cons (pe_oexV T_NoMoment.o T_NoMoment.iC T_NoMoment.tI G_NoMoment hrE b_NoMoment pass0 (by rfl) T_NoMoment.g (pa_cons (pv 0) pa_nil)) (pa_cons (pe_oexK T_NoMoment.o T_NoMoment.iC T_NoMoment.tI G_NoMoment hrE k_NoMoment pass0 (by rfl) T_NoMoment.g (pk_cons (pv 0) pk_nil)) (pa_cons (pe_lam (by rfl) TBp rfl hmT huT) pa_nil)))) pa_nil)))
      (Evl.pss_cut (ps_expr (pe_bm PySem.F.plainAttrs_list PySem.F.slot_list_extend PySem.F.type_list_extend mt_extend (pv 1) (pa_cons (pe_lst (pa_cons (pe_tup (pa_cons (pe_oexV T_BadDeed.o T_BadDeed.iC T_BadDeed.tI G_BadDeed hrE b_BadDeed pass0 (by rfl) T_BadDeed.g (pa_cons (pv 0) pa_nil)) (pa_cons (pe_oexK T_BadDeed.o T_BadDeed.iC T_BadDeed.tI G_BadDeed hrE k_BadDeed pass0 (by rfl) T_BadDeed.g (pk_cons (pv 0) pk_nil)) (pa_cons (pe_lam (by rfl) TBp rfl hmT huT) pa_nil)))) (pa_cons (pe_tup (pa_cons (pe_oexV T_BadText.o T_BadText.iC T_BadText.tI G_BadText hrE b_BadText pass0 (by rfl) T_BadText.g (pa_cons (pv 0) pa_nil)) (pa_cons (pe_oexK T_BadText.o T_BadText.iC T_BadText.tI G_BadText hrE k_BadText pass0 (by rfl) T_BadText.g (pk_cons (pv 0) pk_nil)) (pa_cons (pe_lam (by rfl) TBp rfl hmT huT) pa_nil)))) pa_nil))) pa_nil)))
      (pss_one (ps_ret (pe_op op_cat (pv 1) (pe_lst (pa_cons (pe_tup (pa_cons (pe_oexV T_Held.o T_Held.iC T_Held.tI G_Held hrE b_Held pass0 (by rfl) T_Held.g (pa_cons (pv 0) pa_nil)) (pa_cons (pe_oexK T_Held.o T_Held.iC T_Held.tI G_Held hrE k_Held pass0 (by rfl) T_Held.g (pk_cons (pv 0) pk_nil)) (pa_cons (pe_lam (by rfl) TBp rfl hmT huT) pa_nil)))) (pa_cons (pe_tup (pa_cons (pe_oexV T_NotHeld.o T_NotHeld.iC T_NotHeld.tI G_NotHeld hrE b_NotHeld pass0 (by rfl) T_NotHeld.g (pa_cons (pv 0) pa_nil)) (pa_cons (pe_oexK T_NotHeld.o T_NotHeld.iC T_NotHeld.tI G_NotHeld hrE k_NotHeld pass0 (by rfl) T_NotHeld.g (pk_cons (pv 0) pk_nil)) (pa_cons (pe_lam (by rfl) TBp rfl hmT huT) pa_nil)))) pa_nil))))))))))))))))), ?_⟩
    refine ⟨I 2, ?_, ?_⟩
    · rw [hI]
      refine tripL (P := P) (w := w) (K := K) (mg := mg) (base := base) rfl hT ?_ ?_ fun w0 G0 e0 t0 r0 => ?_
      · exact fun _ => rfl
      · intro fl c'
        exact lok_fld T_BadFolders.xf T_BadFolders.noF (by decide +kernel) (fun pm ctv us hl => match us, hl with | [_], _ => rfl) (by decide) (by decide) (fun _ => rfl)
      refine trip (P := P) (w := w) (K := K) (mg := mg) (base := base) rfl t0 ?_ ?_ fun w1 G1 e1 t1 r1 => ?_
      · exact fun _ => rfl
      · intro fl c'
        exact lok_fld T_BadName.xf T_BadName.noF (by decide +kernel) (fun pm ctv us hl => match us, hl with | [_], _ => rfl) (by decide) (by decide) (fun _ => rfl)
      refine ⟨by show 2 ≤ sizeLine; decide, fun l nl => ?_⟩
      have el := same_upd (o := HO.lst [w0, w1]) nl
      have hx := (e0.trans e1).trans (ExtM.of el)
      refine ⟨l, [w0, w1], rfl, hx, t1.ext el, (e0.trans e1).non l nl, upd_same, .cons (e := ("BadFolders", "index")) ((r0.extN e1.ext).extN (ExtN.of el)) (.cons (e := ("BadName", "name")) (r1.extN (ExtN.of el)) .nil)⟩
    intro σ1 H1 h1
    rw [hI] at h1
    obtain ⟨D, us, rfl, eN, tN, nD, hD, tr⟩ := h1
    refine ⟨I 4, ?_, ?_⟩
    · rw [hI]
      refine ⟨_, rfl, .inl ⟨rfl, _, SqL.of hD⟩, ?_⟩
      refine tripL (P := P) (w := w) (K := K) (mg := mg) (base := base) rfl tN ?_ ?_ fun w0 G0 e0 t0 r0 => ?_
      · exact fun _ => rfl
      · intro fl c'
        exact lok_fld T_BadLot.xf T_BadLot.noF (by decide +kernel) (fun pm ctv us hl => match us, hl with | [_], _ => rfl) (by decide) (by decide) (fun _ => rfl)
      refine trip (P := P) (w := w) (K := K) (mg := mg) (base := base) rfl t0 ?_ ?_ fun w1 G1 e1 t1 r1 => ?_
      · exact fun _ => rfl
      · intro fl c'
        exact lok_fld T_BadSize.xf T_BadSize.noF (by decide +kernel) (fun pm ctv us hl => match us, hl with | [_], _ => rfl) (by decide) (by decide) (fun _ => rfl)
      refine ⟨by show 2 ≤ sizeLine; decide, fun l nl => ?_⟩
      have el := same_upd (o := HO.lst [w0, w1]) nl
      have hx := (e0.trans e1).trans (ExtM.of el)
      have hDl := hx.ext _ _ hD (fun _ z => nomatch z)
      refine ⟨D, l, us, [w0, w1], rfl, rfl, hDl, upd_same, ?_, D, us ++ [w0, w1], rfl, (eN.trans hx).grow nD, Bk.Tabs.updL (t1.ext el) hDl, nD, upd_same, ?_⟩
      · rw [sizeLine_eq, tr.1, List.length_take]
        show min 2 errL.length + 2 ≤ _
        omega
      · exact ((tr.extN hx.ext).app (.cons (e := ("BadLot", "lot")) ((r0.extN e1.ext).extN (ExtN.of el)) (.cons (e := ("BadSize", "size")) (r1.extN (ExtN.of el)) .nil))).updL hDl
    intro σ1 H1 h1
    rw [hI] at h1
    obtain ⟨D, us, rfl, eN, tN, nD, hD, tr⟩ := h1
    refine ⟨I 5, ?_, ?_⟩
    · rw [hI]
      refine ⟨_, rfl, .inl ⟨rfl, _, SqL.of hD⟩, ?_⟩
      refine trip (P := P) (w := w) (K := K) (mg := mg) (base := base) rfl tN ?_ ?_ fun w0 G0 e0 t0 r0 => ?_
      · exact fun _ => rfl
      · intro fl c'
        exact lok_fld T_BadNumber.xf T_BadNumber.noF (by decide +kernel) (fun pm ctv us hl => match us, hl with | [_], _ => rfl) (by decide) (by decide) (fun _ => rfl)
      have hDl := e0.ext _ _ hD (fun _ z => nomatch z)
      refine ⟨D, us, w0, rfl, rfl, hDl, ?_, D, us ++ [w0], rfl, (eN.trans e0).grow nD, Bk.Tabs.updL t0 hDl, nD, upd_same, ?_⟩
      · refine Evl.sz_lt ?_
        rw [tr.1, List.length_take]
        omega
      · exact ((tr.extN e0.ext).app (.cons (e := ("BadNumber", "number")) r0 .nil)).updL hDl
    intro σ1 H1 h1
    rw [hI] at h1
    obtain ⟨D, us, rfl, eN, tN, nD, hD, tr⟩ := h1
    refine ⟨I 6, ?_, ?_⟩
    · rw [hI]
      refine ⟨_, rfl, .inl ⟨rfl, _, SqL.of hD⟩, ?_⟩
      refine trip (P := P) (w := w) (K := K) (mg := mg) (base := base) rfl tN ?_ ?_ fun w0 G0 e0 t0 r0 => ?_
      · exact fun _ => rfl
      · intro fl c'
        exact lok_fld T_NoFolder.xf T_NoFolder.noF (by decide +kernel) (fun pm ctv us hl => match us, hl with | [_], _ => rfl) (by decide) (by decide) (fun _ => rfl)
      have hDl := e0.ext _ _ hD (fun _ z => nomatch z)
      refine ⟨D, us, w0, rfl, rfl, hDl, ?_, D, us ++ [w0], rfl, (eN.trans e0).grow nD, Bk.Tabs.updL t0 hDl, nD, upd_same, ?_⟩
      · refine Evl.sz_lt ?_
        rw [tr.1, List.length_take]
        omega
      · exact ((tr.extN e0.ext).app (.cons (e := ("NoFolder", "name")) r0 .nil)).updL hDl
    intro σ1 H1 h1
    rw [hI] at h1
    obtain ⟨D, us, rfl, eN, tN, nD, hD, tr⟩ := h1
    refine ⟨I 8, ?_, ?_⟩
    · rw [hI]
      refine ⟨_, rfl, .inl ⟨rfl, _, SqL.of hD⟩, ?_⟩
      refine tripL (P := P) (w := w) (K := K) (mg := mg) (base := base) rfl tN ?_ ?_ fun w0 G0 e0 t0 r0 => ?_
      · exact fun _ => rfl
      · intro fl c'
        exact lok_fld T_Taken.xf T_Taken.noF (by decide +kernel) (fun pm ctv us hl => match us, hl with | [_], _ => rfl) (by decide) (by decide) (fun _ => rfl)
      refine trip (P := P) (w := w) (K := K) (mg := mg) (base := base) rfl t0 ?_ ?_ fun w1 G1 e1 t1 r1 => ?_
      · exact fun _ => rfl
      · intro fl c'
        exact lok_fld T_Lacking.xf T_Lacking.noF (by decide +kernel) (fun pm ctv us hl => match us, hl with | [_], _ => rfl) (by decide) (by decide) (fun _ => rfl)
      refine ⟨by show 2 ≤ sizeLine; decide, fun l nl => ?_⟩
      have el := same_upd (o := HO.lst [w0, w1]) nl
      have hx := (e0.trans e1).trans (ExtM.of el)
      have hDl := hx.ext _ _ hD (fun _ z => nomatch z)
      refine ⟨D, l, us, [w0, w1], rfl, rfl, hDl, upd_same, ?_, D, us ++ [w0, w1], rfl, (eN.trans hx).grow nD, Bk.Tabs.updL (t1.ext el) hDl, nD, upd_same, ?_⟩
      · rw [sizeLine_eq, tr.1, List.length_take]
        show min 6 errL.length + 2 ≤ _
        omega
      · exact ((tr.extN hx.ext).app (.cons (e := ("Taken", "name")) ((r0.extN e1.ext).extN (ExtN.of el)) (.cons (e := ("Lacking", "lot")) (r1.extN (ExtN.of el)) .nil))).updL hDl
    intro σ1 H1 h1
    rw [hI] at h1
    obtain ⟨D, us, rfl, eN, tN, nD, hD, tr⟩ := h1
    refine ⟨I 9, ?_, ?_⟩
    · rw [hI]
      refine ⟨_, rfl, .inl ⟨rfl, _, SqL.of hD⟩, ?_⟩
      refine trip (P := P) (w := w) (K := K) (mg := mg) (base := base) rfl tN ?_ ?_ fun w0 G0 e0 t0 r0 => ?_
      · exact fun _ => rfl
      · intro fl c'
        exact lok_fld T_NotStore.xf T_NotStore.noF (by decide +kernel) (fun pm ctv us hl => match us, hl with | [_], _ => rfl) (by decide) (by decide) (fun _ => rfl)
      have hDl := e0.ext _ _ hD (fun _ z => nomatch z)
      refine ⟨D, us, w0, rfl, rfl, hDl, ?_, D, us ++ [w0], rfl, (eN.trans e0).grow nD, Bk.Tabs.updL t0 hDl, nD, upd_same, ?_⟩
      · refine Evl.sz_lt ?_
        rw [tr.1, List.length_take]
        omega
      · exact ((tr.extN e0.ext).app (.cons (e := ("NotStore", "lot")) r0 .nil)).updL hDl
    intro σ1 H1 h1
    rw [hI] at h1
    obtain ⟨D, us, rfl, eN, tN, nD, hD, tr⟩ := h1
    refine ⟨I 10, ?_, ?_⟩
    · rw [hI]
      refine ⟨_, rfl, .inl ⟨rfl, _, SqL.of hD⟩, ?_⟩
      refine trip (P := P) (w := w) (K := K) (mg := mg) (base := base) rfl tN ?_ ?_ fun w0 G0 e0 t0 r0 => ?_
      · exact fun _ => rfl
      · intro fl c'
        exact lok_fld T_BadTelling.xf T_BadTelling.noF (by decide +kernel) (fun pm ctv us hl => match us, hl with | [_], _ => rfl) (by decide) (by decide) (fun _ => rfl)
      have hDl := e0.ext _ _ hD (fun _ z => nomatch z)
      refine ⟨D, us, w0, rfl, rfl, hDl, ?_, D, us ++ [w0], rfl, (eN.trans e0).grow nD, Bk.Tabs.updL t0 hDl, nD, upd_same, ?_⟩
      · refine Evl.sz_lt ?_
        rw [tr.1, List.length_take]
        omega
      · exact ((tr.extN e0.ext).app (.cons (e := ("BadTelling", "ends")) r0 .nil)).updL hDl
    intro σ1 H1 h1
    rw [hI] at h1
    obtain ⟨D, us, rfl, eN, tN, nD, hD, tr⟩ := h1
    refine ⟨I 11, ?_, ?_⟩
    · rw [hI]
      refine ⟨_, rfl, .inl ⟨rfl, _, SqL.of hD⟩, ?_⟩
      refine trip (P := P) (w := w) (K := K) (mg := mg) (base := base) rfl tN ?_ ?_ fun w0 G0 e0 t0 r0 => ?_
      · exact fun _ => rfl
      · intro fl c'
        exact lok_fld T_NotTold.xf T_NotTold.noF (by decide +kernel) (fun pm ctv us hl => match us, hl with | [_], _ => rfl) (by decide) (by decide) (fun _ => rfl)
      have hDl := e0.ext _ _ hD (fun _ z => nomatch z)
      refine ⟨D, us, w0, rfl, rfl, hDl, ?_, D, us ++ [w0], rfl, (eN.trans e0).grow nD, Bk.Tabs.updL t0 hDl, nD, upd_same, ?_⟩
      · refine Evl.sz_lt ?_
        rw [tr.1, List.length_take]
        omega
      · exact ((tr.extN e0.ext).app (.cons (e := ("NotTold", "question")) r0 .nil)).updL hDl
    intro σ1 H1 h1
    rw [hI] at h1
    obtain ⟨D, us, rfl, eN, tN, nD, hD, tr⟩ := h1
    refine ⟨I 12, ?_, ?_⟩
    · rw [hI]
      refine ⟨_, rfl, .inl ⟨rfl, _, SqL.of hD⟩, ?_⟩
      refine trip (P := P) (w := w) (K := K) (mg := mg) (base := base) rfl tN ?_ ?_ fun w0 G0 e0 t0 r0 => ?_
      · exact fun _ => rfl
      · intro fl c'
        exact lok_fld T_Wrong.xf T_Wrong.noF (by decide +kernel) (fun pm ctv us hl => match us, hl with | [_], _ => rfl) (by decide) (by decide) (fun _ => rfl)
      have hDl := e0.ext _ _ hD (fun _ z => nomatch z)
      refine ⟨D, us, w0, rfl, rfl, hDl, ?_, D, us ++ [w0], rfl, (eN.trans e0).grow nD, Bk.Tabs.updL t0 hDl, nD, upd_same, ?_⟩
      · refine Evl.sz_lt ?_
        rw [tr.1, List.length_take]
        omega
      · exact ((tr.extN e0.ext).app (.cons (e := ("Wrong", "weights")) r0 .nil)).updL hDl
    intro σ1 H1 h1
    rw [hI] at h1
    obtain ⟨D, us, rfl, eN, tN, nD, hD, tr⟩ := h1
    refine ⟨I 13, ?_, ?_⟩
    · rw [hI]
      refine ⟨_, rfl, .inl ⟨rfl, _, SqL.of hD⟩, ?_⟩
      refine trip (P := P) (w := w) (K := K) (mg := mg) (base := base) rfl tN ?_ ?_ fun w0 G0 e0 t0 r0 => ?_
      · exact fun _ => rfl
      · intro fl c'
        exact lok_fld T_NoMoment.xf T_NoMoment.noF (by decide +kernel) (fun pm ctv us hl => match us, hl with | [_], _ => rfl) (by decide) (by decide) (fun _ => rfl)
      have hDl := e0.ext _ _ hD (fun _ z => nomatch z)
      refine ⟨D, us, w0, rfl, rfl, hDl, ?_, D, us ++ [w0], rfl, (eN.trans e0).grow nD, Bk.Tabs.updL t0 hDl, nD, upd_same, ?_⟩
      · refine Evl.sz_lt ?_
        rw [tr.1, List.length_take]
        omega
      · exact ((tr.extN e0.ext).app (.cons (e := ("NoMoment", "moment")) r0 .nil)).updL hDl
    intro σ1 H1 h1
    rw [hI] at h1
    obtain ⟨D, us, rfl, eN, tN, nD, hD, tr⟩ := h1
    refine ⟨I 15, ?_, ?_⟩
    · rw [hI]
      refine ⟨_, rfl, .inl ⟨rfl, _, SqL.of hD⟩, ?_⟩
      refine tripL (P := P) (w := w) (K := K) (mg := mg) (base := base) rfl tN ?_ ?_ fun w0 G0 e0 t0 r0 => ?_
      · exact fun _ => rfl
      · intro fl c'
        exact lok_fld T_BadDeed.xf T_BadDeed.noF (by decide +kernel) (fun pm ctv us hl => match us, hl with | [_], _ => rfl) (by decide) (by decide) (fun _ => rfl)
      refine trip (P := P) (w := w) (K := K) (mg := mg) (base := base) rfl t0 ?_ ?_ fun w1 G1 e1 t1 r1 => ?_
      · exact fun _ => rfl
      · intro fl c'
        exact lok_fld T_BadText.xf T_BadText.noF (by decide +kernel) (fun pm ctv us hl => match us, hl with | [_], _ => rfl) (by decide) (by decide) (fun _ => rfl)
      refine ⟨by show 2 ≤ sizeLine; decide, fun l nl => ?_⟩
      have el := same_upd (o := HO.lst [w0, w1]) nl
      have hx := (e0.trans e1).trans (ExtM.of el)
      have hDl := hx.ext _ _ hD (fun _ z => nomatch z)
      refine ⟨D, l, us, [w0, w1], rfl, rfl, hDl, upd_same, ?_, D, us ++ [w0, w1], rfl, (eN.trans hx).grow nD, Bk.Tabs.updL (t1.ext el) hDl, nD, upd_same, ?_⟩
      · rw [sizeLine_eq, tr.1, List.length_take]
        show min 13 errL.length + 2 ≤ _
        omega
      · exact ((tr.extN hx.ext).app (.cons (e := ("BadDeed", "deed")) ((r0.extN e1.ext).extN (ExtN.of el)) (.cons (e := ("BadText", "line")) (r1.extN (ExtN.of el)) .nil))).updL hDl
    intro σ1 H1 h1
    rw [hI] at h1
    obtain ⟨D, us, rfl, eN, tN, nD, hD, tr⟩ := h1
    refine ⟨_, rfl, ?_⟩
    refine tripL (P := P) (w := w) (K := K) (mg := mg) (base := base) rfl tN ?_ ?_ fun w0 G0 e0 t0 r0 => ?_
    · exact fun _ => rfl
    · intro fl c'
      exact lok_fld T_Held.xf T_Held.noF (by decide +kernel) (fun pm ctv us hl => match us, hl with | [_], _ => rfl) (by decide) (by decide) (fun _ => rfl)
    refine trip (P := P) (w := w) (K := K) (mg := mg) (base := base) rfl t0 ?_ ?_ fun w1 G1 e1 t1 r1 => ?_
    · exact fun _ => rfl
    · intro fl c'
      exact lok_fld T_NotHeld.xf T_NotHeld.noF (by decide +kernel) (fun pm ctv us hl => match us, hl with | [_], _ => rfl) (by decide) (by decide) (fun _ => rfl)
    refine ⟨by show 2 ≤ sizeLine; decide, fun l nl => ?_⟩
    have el := same_upd (o := HO.lst [w0, w1]) nl
    have hx := (e0.trans e1).trans (ExtM.of el)
    have hDl := hx.ext _ _ hD (fun _ z => nomatch z)
    have ee : errL = errL.take 15 ++ ([("Held", "name"), ("NotHeld", "name")] : List (Str × Str)) := rfl
    refine ⟨D, l, us, [w0, w1], rfl, rfl, hDl, upd_same, ?_, fun p np => ?_⟩
    · rw [sizeLine_eq, tr.1, List.length_take]
      show min 15 errL.length + 2 ≤ _
      omega
    have ep := same_upd (o := HO.lst (us ++ [w0, w1])) np
    refine q p _ _ ((eN.trans hx).trans (ExtM.of ep)) ((t1.ext el).ext ep) ((eN.trans hx).non p np) upd_same ?_
    rw [ee]
    exact ((tr.extN hx.ext).app (.cons (e := ("Held", "name")) ((r0.extN e1.ext).extN (ExtN.of el)) (.cons (e := ("NotHeld", "name")) (r1.extN (ExtN.of el)) .nil))).extN (ExtN.of ep)
end
end Bk

namespace Bk
open PySem PySem.Spec PyProof.Rows L2 LamX NdefX
section
variable {K : PySem.W.Frag} {H H' : Hp}
theorem sql_extN {a : Addr} {xs : List V} (e : ExtN H H') (h : SqL K H a xs) : SqL K H' a xs := by
  rcases h with (h | ⟨o, h⟩) | h
  · exact .inl (.inl (e _ _ h fun _ z => nomatch z))
  · exact .inl (.inr ⟨o, e _ _ h fun _ z => nomatch z⟩)
  · exact .inr h
theorem sqt_extN {a : Addr} {xs : List V} (e : ExtN H H') (h : SqT K H a xs) : SqT K H' a xs := by
  rcases h with (h | ⟨o, h⟩) | h
  · exact .inl (.inl (e _ _ h fun _ z => nomatch z))
  · exact .inl (.inr ⟨o, e _ _ h fun _ z => nomatch z⟩)
  · exact .inr h
mutual
theorem Dp.extN (e : ExtN H H') : ∀ (d : PyData) (v : V), Dp K H v d → Dp K H' v d
  | _, _, .non => .non
  | _, _, .bl b => .bl b
  | _, _, .int i => .int i
  | _, _, .str x => .str x
  | .list ds, _, .lst h a => .lst (sql_extN e h) (DpAll.extN e ds _ a)
  | .tuple ds, _, .tup h a => .tup (sqt_extN e h) (DpAll.extN e ds _ a)
theorem DpAll.extN (e : ExtN H H') : ∀ (ds : List PyData) (vs : List V), DpAll K H vs ds → DpAll K H' vs ds
  | [], _, .nil => .nil
  | d :: ds, _, .cons a r => .cons (Dp.extN e d _ a) (DpAll.extN e ds _ r)
end
/-- one of the law's things -/
def Thing57 (K : PySem.W.Frag) (H : Hp) (v : V) : Prop := (∃ d, Dp K H v d ∧ d.depth ≤ 3 ∧ wide d ≤ 90000 ∧ (frzD d).depth ≤ 3 ∧ wide (frzD d) ≤ 90000) ∨ ∃ a, v = .ref a ∧ H a = some (.dK oneA)
theorem Thing57.extN {v : V} (h : Thing57 K H v) (e : ExtN H H') : Thing57 K H' v := by
  rcases h with ⟨d, h, r⟩ | ⟨a, rfl, h⟩
  · exact .inl ⟨d, Dp.extN e _ _ h, r⟩
  · exact .inr ⟨a, rfl, e _ _ h fun _ z => nomatch z⟩
theorem Strm.extN {st c : Addr} {n : Nat} (S : Strm H st c n) (e : ExtN H H') : Strm H' st c n := by
  obtain ⟨ne, cells, a, k, m, h1, h2, r⟩ := S
  exact ⟨ne, cells, a, k, m, e _ _ h1 (fun _ z => nomatch z), e _ _ h2 (fun _ z => nomatch z), r⟩
theorem Tabs.kept {T : List (Addr × Str)} {st c : Addr} {n : Nat} (t : Tabs T H) (S : Strm H st c n) (k : Kept st c H H') : Tabs T H' := fun p hp => by
  obtain ⟨ps, h1, h2, h3⟩ := t p hp
  obtain ⟨ne, cells, a, k0, m, hc, hs, r⟩ := S
  refine ⟨ps, k _ _ (ne_of h1 hs fun z => nomatch z) (ne_of h1 hc fun z => nomatch z) h1, h2, fun pos cv hcv => ?_⟩
  obtain ⟨c0, e1, e2⟩ := h3 pos cv hcv
  have nx : ∀ l, CodeO c0 p.2 ≠ HO.lst l := fun l z => by
    unfold CodeO at z
    cases z
  exact ⟨c0, e1, k _ _ (ne_of e2 hs (nx _)) (ne_of e2 hc (nx _)) e2⟩
end
theorem fc {α : Type} {p : α → Prop} {x : α} {l : List α} (h : p x) (r : ∀ y ∈ l, p y) : ∀ y ∈ x :: l, p y := fun y m => by
  rcases List.mem_cons.mp m with rfl | m
  · exact h
  · exact r y m
theorem th_of {K : PySem.W.Frag} {H : Hp} {v : V} {d : PyData} (h : Dp K H v d) (h1 : d.depth ≤ 3) (h2 : wide d ≤ 90000) (h3 : (frzD d).depth ≤ 3) (h4 : wide (frzD d) ≤ 90000) : Thing57 K H v := .inl ⟨d, h, h1, h2, h3, h4⟩
theorem nine : ∀ k : Fin 9, (match ixN 9 ((k.val : Int) - 1) with | some j => decide (j < 9) | none => false) = true := by decide
theorem at_before {xs : List V} {k : Nat} (hl : xs.length = 9) (hk : k < 9) : ∃ v ∈ xs, atI xs ((k : Int) - 1) = some v := by
  have h := nine ⟨k, hk⟩
  have h : (match ixN 9 ((k : Int) - 1) with | some j => decide (j < 9) | none => false) = true := h
  cases e : ixN 9 ((k : Int) - 1) with
  | none => rw [e] at h; cases h
  | some j =>
    rw [e] at h
    have hj : j < 9 := of_decide_eq_true h
    have e2 : ixN xs.length ((k : Int) - 1) = some j := by rw [hl]; exact e
    have hj2 : j < xs.length := by omega
    refine ⟨xs[j], List.getElem_mem _, ?_⟩
    unfold atI
    rw [e2]
    exact List.getElem?_eq_getElem hj2
theorem isxi {K : PySem.W.Frag} {σ : L2.St} {H : Hp} {R : VK} {a C : Addr} {cv : V} {u : Value} {b : Bool} {i : Nat} (hv : σ[i]? = some (some (.ref a))) (at_ : ExV H a C) (T : ExcC K C) (k : PySem.W.kitOne K (.ref C) u = some b) (hc : ClsV cv u) (r : R (.bl b) H) : tCB (rIsX K) (tCons (tVar i) (tCons (tC cv) tNil)) σ H R :=
  ⟨_, hv, a, C, _, _, b, rfl, at_, T, hc, k, r⟩
/-- an element of the inner list: an error, what it must carry -/
def Elem57 (K : PySem.W.Frag) (H : Hp) (C : Addr) (f : Str) (x : V) : Prop := ∃ (q a d : Addr) (y : V), x = .ref q ∧ H q = some (.tup [.ref a, y]) ∧ H a = some (exo a C (some d)) ∧ H d = some (exd d [(f, y)]) ∧ Thing57 K H y
theorem Elem57.same {K : PySem.W.Frag} {H H' : Hp} {C : Addr} {f : Str} {x : V} (h : Elem57 K H C f x) (e : Same H H') : Elem57 K H' C f x := by
  obtain ⟨q, a, d, y, hx, h1, h2, h3, h4⟩ := h
  exact ⟨q, a, d, y, hx, e _ _ h1, e _ _ h2, e _ _ h3, h4.extN (ExtN.of e)⟩
theorem kind_of : ∀ e ∈ errL, e.1 ∈ kindL := by decide +kernel
def spLaw57 (K : PySem.W.Frag) (T : List (Addr × Str)) : Sp := fun vs H Q _ => ∃ (a : Addr) (ns : List Int), vs = [.ref a] ∧ SqL K H a (ns.map V.int) ∧ Tabs T H ∧ ∀ H', Q (.bl true) H'
section
variable {P : Program} {w : World} {K : PySem.W.Frag} {mg : Str → Option Value} {base : Heap}
theorem scLaw : FnScope ["_law_script", "_law_stream", "_law_turn", "_law_things", "_law_at", "_law_thing", "_law_other", "_law_first", "_law_second", "_law_field", "_law_e", "_law_due"] ["_law_script"] (defScope (topS 28)) := ⟨rfl, rfl, rfl, by decide +kernel, rfl, by decide +kernel, by decide +kernel⟩
theorem ok_law (B : Bi mg) {cA : Str → Addr} {CS P0 f f1 f2 f3 f4 f5 f6 : Addr} {fd fd1 fd2 fd3 fd4 fd5 fd6 : FuncData} (n_ValueError : mg "ValueError" = none) (n_LookupError : mg "LookupError" = none) (g_ShareError : mg "ShareError" = some (.ref CS))
    (g_UnlikeFolders : mg "UnlikeFolders" = some (.ref (cA "UnlikeFolders"))) (g_NoDeed : mg "NoDeed" = some (.ref (cA "NoDeed")))
    (q_UnlikeFolders : PySem.W.excIn K (cA "UnlikeFolders") He.veBase "ValueError.__new__" = true) (q_NoDeed : PySem.W.excIn K (cA "NoDeed") He.veBase "ValueError.__new__" = true) (kp_UnlikeFolders : PySem.W.keepIn K (.ref (cA "UnlikeFolders")) = true) (kp_NoDeed : PySem.W.keepIn K (.ref (cA "NoDeed")) = true)
    (XA : ∀ x ∈ kindL, ExcC K (cA x)) (kS : ∀ x ∈ kindL, PySem.W.kitOne K (.ref (cA x)) (.ref CS) = some true) (kV : ∀ x ∈ kindL, PySem.W.kitOne K (.ref (cA x)) (.type "ValueError") = some true) (kL : ∀ x ∈ kindL, PySem.W.kitOne K (.ref (cA x)) (.type "LookupError") = some false)
    (c__law_start : Cal P w K mg base CX0 1 "_law_start" f1 fd1 ["_law_script"] (spStart K)) (c__law_draw : Cal P w K mg base CX0 1 "_law_draw" f2 fd2 ["_law_stream", "_law_many"] spDraw) (c__law_pairs : Cal P w K mg base CX0 3 "_law_pairs" f3 fd3 ["_law_x"] (spPairs P w K mg base cA [(P0, qL)]))
    (c__law_kinds : Cal P w K mg base CX0 1 "_law_kinds" f4 fd4 ["_law_e"] (spKinds K cA)) (c__law_frozen : Cal P w K mg base CX0 5 "_law_frozen" f5 fd5 ["_law_thing"] (spFrz K 4)) (c__law_same : Cal P w K mg base CX0 5 "_law_same" f6 fd6 ["_law_found", "_law_due"] (spSameD K 4))
    (F : Fun K "law" "law" (topS 28) f fd) : FnOk P w K mg base CX0 6 f fd ["_law_script"] (spLaw57 K [(P0, qL)]) := by
  refine F.ok scLaw (fun vs H Q E h => ?_) (fun cdv A outer s H vs Q E hr h => ?_)
  · obtain ⟨a, ns, rfl, _⟩ := h
    rfl
  · obtain ⟨a, ns, rfl, hS, hT, q⟩ := h
    have nd := scLaw.nd
    have hu := hu_of hr
    have hrE : Room 1 _ := hr.mono (by decide)
    have hr__law_start : Room 1 _ := hr.mono (by decide)
    have hr__law_draw := hr__law_start
    have hr__law_kinds := hr__law_start
    have hr__law_pairs : Room 3 _ := hr.mono (by decide)
    have hr__law_same := hr
    have hr__law_frozen := hr
    refine ⟨_, (Evl.pss_cut (ps_set (i := 1) nd rfl (Or.inl rfl) (pe_call c__law_start.ok hr__law_start (by rfl) c__law_start.g c__law_start.kp c__law_start.b .nil pass0 (pa_cons (pv 0) pa_nil)))
      (Evl.pss_cut (ps_for PassesOwn.never rfl (pi_range1 (by rfl) B.range (pa_cons pe_int pa_nil)) (pg_name (i := 2) nd rfl (Or.inl rfl)) (Evl.pss_cut (ps_set (i := 3) nd rfl (Or.inl rfl) (pe_lst (pa_cons (pe_op op_pow pe_int pe_int) (pa_cons pe_str (pa_cons (pe_tup (pa_cons pe_int (pa_cons pe_str pa_nil))) (pa_cons pe_non (pa_cons pe_bl (pa_cons (pe_lst (pa_cons pe_int (pa_cons (pe_lst (pa_cons pe_int pa_nil)) pa_nil))) (pa_cons (pe_disp (pps_cons pe_str pe_int pps_nil) (by rfl) (by rfl) (fun z => by cases z) (by decide)) (pa_cons (pe_tup (pa_cons (pe_tup (pa_cons pe_int (pa_cons pe_bl pa_nil))) (pa_cons pe_int pa_nil))) (pa_cons (pe_un un_neg pe_int) pa_nil)))))))))))
      (Evl.pss_cut (ps_set (i := 4) nd rfl (Or.inl rfl) (pe_call c__law_draw.ok hr__law_draw (by rfl) c__law_draw.g c__law_draw.kp c__law_draw.b .nil pass0 (pa_cons (pv 1) (pa_cons (pe_callB (kLen K) (by rfl) B.len PySem.boot_len (pa_cons (pv 3) pa_nil)) pa_nil))))
      (Evl.pss_cut (ps_par (i := 5) (j := 6) rfl nd rfl rfl (by decide) rfl rfl (pa_cons (pe_ix (kIxL K) (pv 3) (pv 4) (fun _ _ => rfl)) (pa_cons (pe_ix (kIxL K) (pv 3) (pe_op op_sub (pv 4) pe_int) (fun _ _ => rfl)) pa_nil)) (by rfl))
      (pss_one (ps_for PassesOwn.never rfl (kPiZ K (by rfl) B.zip (pa_cons (pe_call c__law_pairs.ok hr__law_pairs (by rfl) c__law_pairs.g c__law_pairs.kp c__law_pairs.b .nil pass0 (pa_cons (pv 5) pa_nil)) (pa_cons (pe_call c__law_pairs.ok hr__law_pairs (by rfl) c__law_pairs.g c__law_pairs.kp c__law_pairs.b .nil pass0 (pa_cons (pv 6) pa_nil)) pa_nil))) (kTg K 2 rfl (pgs_cons (pg_name (i := 7) nd rfl (Or.inl rfl)) (pgs_cons (pg_name (i := 8) nd rfl (Or.inl rfl)) pgs_nil))) (pss_cons (ps_set (i := 9) nd rfl (Or.inl rfl) (pe_ix (kIxT K) (pv 7) pe_int (fun _ _ => rfl)))
      (pss_one (ps_for PassesOwn.never rfl (kPiL K (pe_lst (pa_cons (pe_tup (pa_cons (pe_ix (kIxT K) (pv 7) pe_int (fun _ _ => rfl)) (pa_cons (pv 5) pa_nil))) (pa_cons (pe_tup (pa_cons (pe_ix (kIxT K) (pv 7) pe_int (fun _ _ => rfl)) (pa_cons (pv 5) pa_nil))) (pa_cons (pe_tup (pa_cons (pe_ix (kIxT K) (pv 8) pe_int (fun _ _ => rfl)) (pa_cons (pv 6) pa_nil))) (pa_cons (pe_tup (pa_cons (pe_ix (kIxT K) (pv 8) pe_int (fun _ _ => rfl)) (pa_cons (pv 6) pa_nil))) pa_nil)))))) (kTg K 2 rfl (pgs_cons (pg_name (i := 10) nd rfl (Or.inl rfl)) (pgs_cons (pg_name (i := 11) nd rfl (Or.inl rfl)) pgs_nil))) (pss_cons (ps_if (PW.pt (pw_or (pt_not (pt_val (pe_callB (call_isX (K := K) rfl) (by rfl) B.isinstance (by decide +kernel) (pa_cons (pv 10) (pa_cons (pe_glob (v := .ref _) (by rfl) g_ShareError rfl) pa_nil))))) (pw_or (pt_not (pt_val (pe_callB (call_isX (K := K) rfl) (by rfl) B.isinstance (by decide +kernel) (pa_cons (pv 10) (pa_cons (pe_bltn (v := .ty "ValueError") (by rfl) n_ValueError (by decide +kernel) rfl) pa_nil))))) (pw_or1 (pt_cmpR op_ne (pe_call c__law_kinds.ok hr__law_kinds (by rfl) c__law_kinds.g c__law_kinds.kp c__law_kinds.b .nil pass0 (pa_cons (pv 10) pa_nil)) pe_int (nomark _)))))) (pss_one (ps_ret pe_bl)) pss_nil)
      (pss_one (ps_if (PW.pt (pw_or (pt_val (pe_callB (call_isX (K := K) rfl) (by rfl) B.isinstance (by decide +kernel) (pa_cons (pv 10) (pa_cons (pe_bltn (v := .ty "LookupError") (by rfl) n_LookupError (by decide +kernel) rfl) pa_nil)))) (pw_or1 (pt_not (pt_val (pe_call c__law_same.ok hr__law_same (by rfl) c__law_same.g c__law_same.kp c__law_same.b .nil pass0 (pa_cons (pe_call c__law_frozen.ok hr__law_frozen (by rfl) c__law_frozen.g c__law_frozen.kp c__law_frozen.b .nil pass0 (pa_cons (pe_callLk (P := P) (w := w) (K := K) (mg := mg) (base := base) (CX := CX0) (k := 1) (i := 9) (E := E0) hrE (by decide) pass0 rfl (.inl rfl) (pa_cons (pv 10) pa_nil)) pa_nil)) (pa_cons (pe_call c__law_frozen.ok hr__law_frozen (by rfl) c__law_frozen.g c__law_frozen.kp c__law_frozen.b .nil pass0 (pa_cons (pv 11) pa_nil)) pa_nil)))))))) (pss_one (ps_ret pe_bl)) pss_nil))))))))))))
      (pss_cons (ps_for PassesOwn.never rfl (kPiT K (pe_tup (pa_cons (pe_exc0 PySem.F.excBase_ValueError q_UnlikeFolders g_UnlikeFolders kp_UnlikeFolders (by rfl)) (pa_cons (pe_exc0 PySem.F.excBase_ValueError q_NoDeed g_NoDeed kp_NoDeed (by rfl)) pa_nil)))) (pg_name (i := 10) nd rfl (Or.inl rfl)) (pss_one (ps_if (PW.pt (pw_or (pt_not (pt_val (pe_callB (call_isX (K := K) rfl) (by rfl) B.isinstance (by decide +kernel) (pa_cons (pv 10) (pa_cons (pe_glob (v := .ref _) (by rfl) g_ShareError rfl) pa_nil))))) (pw_or (pt_not (pt_val (pe_callB (call_isX (K := K) rfl) (by rfl) B.isinstance (by decide +kernel) (pa_cons (pv 10) (pa_cons (pe_bltn (v := .ty "ValueError") (by rfl) n_ValueError (by decide +kernel) rfl) pa_nil))))) (pw_or1 (pt_cmpR op_ne (pe_call c__law_kinds.ok hr__law_kinds (by rfl) c__law_kinds.g c__law_kinds.kp c__law_kinds.b .nil pass0 (pa_cons (pv 10) pa_nil)) pe_int (nomark _)))))) (pss_one (ps_ret pe_bl)) pss_nil)))
      (pss_one (ps_ret pe_bl))))), ?_⟩
    -- the stream
    refine ⟨fun σ1 H1 => ∃ (st c : Addr), σ1 = [some (.ref a), some (.ref st), none, none, none, none, none, none, none, none, none, none] ∧ Strm H1 st c 0 ∧ Tabs [(P0, qL)] H1, ?_, ?_⟩
    · exact ⟨_, rfl, a, ns, rfl, hS, fun st c H1 e1 _ _ S => ⟨st, c, rfl, S, hT.ext e1⟩⟩
    rintro σ1 H1 ⟨st, c, rfl, S1, T1⟩
    -- the turns
    refine ⟨fun σ2 H2 => ∃ v2 v3 v4 v5 v6 v7 v8 v9 v10 v11, σ2 = [some (.ref a), some (.ref st), v2, v3, v4, v5, v6, v7, v8, v9, v10, v11], ?_, ?_⟩
    · refine ⟨3, rfl, by decide, by decide, ?_⟩
      refine for_it walk_range (fun i σ H1 => ∃ v2 v3 v4 v5 v6 v7 v8 v9 v10 v11, σ = [some (.ref a), some (.ref st), v2, v3, v4, v5, v6, v7, v8, v9, v10, v11] ∧ Strm H1 st c (10 * i) ∧ Tabs [(P0, qL)] H1) ?_ (fun _ _ _ _ _ => trivial) ?_ ?_
      · exact ⟨none, none, none, none, none, none, none, none, none, none, rfl, S1, T1⟩
      · rintro i x σ H0 H1 hi ⟨v2, v3, v4, v5, v6, v7, v8, v9, v10, v11, rfl, S, T⟩ ⟨rfl, rfl⟩
        have hi : i < 3 := by simpa using hi
        -- the things
        refine ⟨fun σ3 H3 => ∃ (l p1 p2 p3 p4 p5 p6 : Addr), σ3 = [some (.ref a), some (.ref st), some (.int (0 + (i : Int))), some (.ref l), v4, v5, v6, v7, v8, v9, v10, v11] ∧ Strm H3 st c (10 * i) ∧ Tabs [(P0, qL)] H3 ∧
          H3 l = some (.lst [.int (10 ^ 11), .str "some", .ref p1, .non, .bl true, .ref p3, .ref p4, .ref p6, .int (-4)]) ∧ H3 p1 = some (.tup [.int 1, .str "x"]) ∧ H3 p2 = some (.lst [.int 2]) ∧ H3 p3 = some (.lst [.int 1, .ref p2]) ∧ H3 p4 = some (.dK oneA) ∧ H3 p5 = some (.tup [.int 1, .bl true]) ∧ H3 p6 = some (.tup [.ref p5, .int 0]) ∧
          (∀ p ∈ [l, p1, p2, p3, p4, p5, p6], p ≠ st ∧ p ≠ c), ?_, ?_⟩
        · refine ⟨_, _, rfl, rfl, ⟨by decide, by decide, by decide⟩, by show 2 ≤ sizeLine; decide, fun p1 n1 => ⟨by show 1 ≤ sizeLine; decide, fun p2 n2 => ⟨by show 2 ≤ sizeLine; decide, fun p3 n3 => ?_⟩⟩⟩
          have e1 := same_upd (o := HO.tup [V.int 1, V.str "x"]) n1
          have h1 : upd H1 p1 (.tup [V.int 1, V.str "x"]) p1 = some (.tup [V.int 1, V.str "x"]) := upd_same
          have a1 := S.notfree n1
          have s1 := S.same e1
          have t1 := T.ext e1
          generalize upd H1 p1 (.tup [V.int 1, V.str "x"]) = G1 at e1 h1 s1 t1 n2 n3 ⊢
          have e2 := same_upd (o := HO.lst [V.int 2]) n2
          have h2 : upd G1 p2 (.lst [V.int 2]) p2 = some (.lst [V.int 2]) := upd_same
          have a2 := s1.notfree n2
          have s2 := s1.same e2
          have t2 := t1.ext e2
          generalize upd G1 p2 (.lst [V.int 2]) = G2 at e2 h2 s2 t2 n3 ⊢
          have e3 := same_upd (o := HO.lst [V.int 1, V.ref p2]) n3
          have h3 : upd G2 p3 (.lst [V.int 1, V.ref p2]) p3 = some (.lst [V.int 1, V.ref p2]) := upd_same
          have a3 := s2.notfree n3
          have s3 := s2.same e3
          have t3 := t2.ext e3
          generalize upd G2 p3 (.lst [V.int 1, V.ref p2]) = G3 at e3 h3 s3 t3 ⊢
          refine fun p4 n4 => ⟨upd_same, [(.inr "a", .int 1)], rfl, by decide, ?_⟩
          have e4 := Same.grow (o := HO.dK oneA) (same_upd (o := HO.dK []) n4) n4
          have h4 : upd (upd G3 p4 (.dK [])) p4 (.dK oneA) p4 = some (.dK oneA) := upd_same
          have a4 := s3.notfree n4
          have s4 := s3.same e4
          have t4 := t3.ext e4
          have em : (mergeK [] [(Sum.inr (Str.ofString "a"), V.int 1)] : List (Key × V)) = oneA := rfl
          rw [em]
          generalize upd (upd G3 p4 (.dK [])) p4 (.dK oneA) = G4 at e4 h4 s4 t4 ⊢
          refine ⟨by show 2 ≤ sizeLine; decide, fun p5 n5 => ⟨by show 2 ≤ sizeLine; decide, fun p6 n6 => ?_⟩⟩
          have e5 := same_upd (o := HO.tup [V.int 1, V.bl true]) n5
          have h5 : upd G4 p5 (.tup [V.int 1, V.bl true]) p5 = some (.tup [V.int 1, V.bl true]) := upd_same
          have a5 := s4.notfree n5
          have s5 := s4.same e5
          have t5 := t4.ext e5
          generalize upd G4 p5 (.tup [V.int 1, V.bl true]) = G5 at e5 h5 s5 t5 n6 ⊢
          have e6 := same_upd (o := HO.tup [V.ref p5, V.int 0]) n6
          have h6 : upd G5 p6 (.tup [V.ref p5, V.int 0]) p6 = some (.tup [V.ref p5, V.int 0]) := upd_same
          have a6 := s5.notfree n6
          have s6 := s5.same e6
          have t6 := t5.ext e6
          generalize upd G5 p6 (.tup [V.ref p5, V.int 0]) = G6 at e6 h6 s6 t6 ⊢
          refine ⟨_, rfl, by show 9 ≤ sizeLine; decide, fun l n7 => ?_⟩
          have e7 := same_upd (o := HO.lst [.int (10 ^ 11), .str "some", .ref p1, .non, .bl true, .ref p3, .ref p4, .ref p6, .int (-4)]) n7
          have h7 : upd G6 l (HO.lst [.int (10 ^ 11), .str "some", .ref p1, .non, .bl true, .ref p3, .ref p4, .ref p6, .int (-4)]) l = some (HO.lst [.int (10 ^ 11), .str "some", .ref p1, .non, .bl true, .ref p3, .ref p4, .ref p6, .int (-4)]) := upd_same
          have a7 := s6.notfree n7
          exact ⟨l, p1, p2, p3, p4, p5, p6, rfl, s6.same e7, t6.ext e7, h7, e7 _ _ (e6 _ _ (e5 _ _ (e4 _ _ (e3 _ _ (e2 _ _ h1))))), e7 _ _ (e6 _ _ (e5 _ _ (e4 _ _ (e3 _ _ h2)))), e7 _ _ (e6 _ _ (e5 _ _ (e4 _ _ h3))), e7 _ _ (e6 _ _ (e5 _ _ h4)), e7 _ _ (e6 _ _ h5), e7 _ _ h6,
            fc a7 (fc a1 (fc a2 (fc a3 (fc a4 (fc a5 (fc a6 (fun y m => nomatch m)))))))⟩
        rintro σ3 H3 ⟨l, p1, p2, p3, p4, p5, p6, rfl, S3, T3, h7, h1, h2, h3, h4, h5, h6, off⟩
        -- the place
        refine ⟨fun σ4 H4 => ∃ (k : Nat), k < 9 ∧ σ4 = [some (.ref a), some (.ref st), some (.int (0 + (i : Int))), some (.ref l), some (.int (k : Int)), v5, v6, v7, v8, v9, v10, v11] ∧ Strm H4 st c (10 * i + 1) ∧ Tabs [(P0, qL)] H4 ∧ ∃ xs, H4 l = some (.lst xs) ∧ xs.length = 9 ∧ ∀ v ∈ xs, Thing57 K H4 v, ?_, ?_⟩
        · refine ⟨_, rfl, _, rfl, .ref l, 9, rfl, .inl ⟨_, SqL.of h7, rfl⟩, st, c, 10 * i, 9, rfl, S3, by omega, by decide, by decide, fun d H4 d0 d1 S4 k4 => ?_⟩
          have kp : ∀ {p : Addr} {o : HO}, p ∈ [l, p1, p2, p3, p4, p5, p6] → H3 p = some o → H4 p = some o := fun m e => k4 _ _ (off _ m).1 (off _ m).2 e
          refine ⟨d.toNat, by omega, ?_, S4, Bk.Tabs.kept T3 S3 k4, _, kp (by simp) h7, rfl, ?_⟩
          · rw [show ((d.toNat : Nat) : Int) = d by omega]
            rfl
          have g1 := kp (by simp) h1
          have g2 := kp (by simp) h2
          have g3 := kp (by simp) h3
          have g4 := kp (by simp) h4
          have g5 := kp (by simp) h5
          have g6 := kp (by simp) h6
          refine fc (th_of (.int _) ?_ ?_ ?_ ?_) (fc (th_of (.str _) ?_ ?_ ?_ ?_) (fc (th_of (.tup (SqT.of g1) (.cons (.int 1) (.cons (.str "x") .nil))) ?_ ?_ ?_ ?_) (fc (th_of .non ?_ ?_ ?_ ?_) (fc (th_of (.bl true) ?_ ?_ ?_ ?_)
            (fc (th_of (.lst (SqL.of g3) (.cons (.int 1) (.cons (.lst (SqL.of g2) (.cons (.int 2) .nil)) .nil))) ?_ ?_ ?_ ?_) (fc (.inr ⟨p4, rfl, g4⟩) (fc (th_of (.tup (SqT.of g6) (.cons (.tup (SqT.of g5) (.cons (.int 1) (.cons (.bl true) .nil))) (.cons (.int 0) .nil))) ?_ ?_ ?_ ?_) (fc (th_of (.int _) ?_ ?_ ?_ ?_) (fun y m => nomatch m)))))))))
          all_goals (simp [frzD, frzAll, PyData.depth, PyData.depthAll, wide, wideAll])
        rintro σ4 H4 ⟨k, hk, rfl, S4, T4, xs, hl4, len, th⟩
        -- the thing, the other one
        refine ⟨fun σ5 H5 => ∃ (y z : V), σ5 = [some (.ref a), some (.ref st), some (.int (0 + (i : Int))), some (.ref l), some (.int (k : Int)), some y, some z, v7, v8, v9, v10, v11] ∧ Strm H5 st c (10 * i + 1) ∧ Tabs [(P0, qL)] H5 ∧ Thing57 K H5 y ∧ Thing57 K H5 z, ?_, ?_⟩
        · have hk2 : k < xs.length := by omega
          obtain ⟨z, mz, ez⟩ := at_before len hk
          exact ⟨_, rfl, _, rfl, l, xs, (k : Int), _, rfl, rfl, SqL.of hl4, atI_nat (List.getElem?_eq_getElem hk2), _, rfl, _, rfl, _, _, rfl, rfl, l, xs, _, z, rfl, rfl, SqL.of hl4, ez, _, _, rfl, _, z, rfl, S4, T4, th _ (List.getElem_mem hk2), th z mz⟩
        rintro σ5 H5 ⟨y, z, rfl, S5, T5, ty, tz⟩
        refine ⟨_, rfl, y, rfl, T5, fun D1 us1 H6 e6 t6 n6 d1 tr1 => ⟨_, rfl, z, rfl, t6, fun D2 us2 H7 e7 t7 n7 d2 tr2 => ⟨D1, D2, us1, us2, rfl, .inl ⟨SqL.of (e7.ext _ _ d1 fun _ z => nomatch z), SqL.of d2, ?_⟩⟩⟩⟩
        have e57 := (e6.trans e7).ext
        have S7 := Bk.Strm.extN S5 e57
        have ty7 := ty.extN e57
        have tz7 := tz.extN e57
        have tr1 := tr1.extN e7.ext
        have hl1 : us1.length = 17 := tr1.1
        have hl2 : us2.length = 17 := tr2.1
        refine for_it (walk_zip (xs := us1) (ys := us2) (n := 17) (by omega)) (fun j σ' H' => ∃ w7 w8 w9 w10 w11, σ' = [some (.ref a), some (.ref st), some (.int (0 + (i : Int))), some (.ref l), some (.int (k : Int)), some y, some z, w7, w8, w9, w10, w11] ∧ Same H7 H') ?_
          (fun j σ' H' _ ⟨_, _, _, _, _, _, e⟩ => ⟨SqL.of (e _ _ (e7.ext _ _ d1 fun _ z => nomatch z)), SqL.of (e _ _ d2)⟩) ?_ ?_
        · exact ⟨v7, v8, v9, v10, v11, rfl, Same.refl _⟩
        · rintro j x σ' H8 H9 hj ⟨w7, w8, w9, w10, w11, rfl, e8⟩ ⟨tp, u1, u2, rfl, ntp, rfl, g1, g2⟩
          have etp := same_upd (o := HO.tup [u1, u2]) ntp
          refine ⟨tp, _, rfl, SqT.of upd_same, rfl, _, _, rfl, _, _, rfl, rfl, ?_⟩
          have e9 := Same.trans e8 etp
          generalize upd H8 tp (HO.tup [u1, u2]) = H9 at e9 etp ⊢
          have g1 : us1[j]? = some u1 := g1
          have g2 : us2[j]? = some u2 := g2
          have hje : j < errL.length := hj
          obtain ⟨e, he⟩ : ∃ e, errL[j]? = some e := ⟨_, List.getElem?_eq_getElem hje⟩
          have me := kind_of e (List.mem_of_getElem? he)
          obtain ⟨t1, a1, b1, a2, b2, fl1, F1, rfl, k1, k2, k3, k4, k5, k6, k7, L1⟩ := (tr1.2 j u1 e g1 he).extN (ExtN.of e9)
          obtain ⟨t2, a3, b3, a4, b4, fl2, F2, rfl, m1, m2, m3, m4, m5, m6, m7, L2⟩ := (tr2.2 j u2 e g2 he).extN (ExtN.of e9)
          have ty9 := ty7.extN (ExtN.of e9)
          have tz9 := tz7.extN (ExtN.of e9)
          -- the field's reader
          refine ⟨_, rfl, t1, _, 2, _, rfl, rfl, SqT.of k1, atI_nat rfl, ?_⟩
          -- the inner list
          refine ⟨_, rfl, t1, _, 0, _, rfl, rfl, SqT.of k1, atI_nat rfl, _, rfl, by show 2 ≤ sizeLine; decide, fun q1 nq1 => ?_⟩
          have f1 := same_upd (o := HO.tup [V.ref a1, y]) nq1
          have c1 : upd H9 q1 (.tup [V.ref a1, y]) q1 = some (.tup [V.ref a1, y]) := upd_same
          generalize upd H9 q1 (.tup [V.ref a1, y]) = J1 at f1 c1 ⊢
          refine ⟨_, rfl, t1, _, 1, _, rfl, rfl, SqT.of (f1 _ _ k1), atI_nat rfl, _, rfl, by show 2 ≤ sizeLine; decide, fun q2 nq2 => ?_⟩
          have f2 := same_upd (o := HO.tup [V.ref a2, y]) nq2
          have c2 : upd J1 q2 (.tup [V.ref a2, y]) q2 = some (.tup [V.ref a2, y]) := upd_same
          generalize upd J1 q2 (.tup [V.ref a2, y]) = J2 at f2 c2 ⊢
          have f12 := Same.trans f1 f2
          refine ⟨_, rfl, t2, _, 0, _, rfl, rfl, SqT.of (f12 _ _ m1), atI_nat rfl, _, rfl, by show 2 ≤ sizeLine; decide, fun q3 nq3 => ?_⟩
          have f3 := same_upd (o := HO.tup [V.ref a3, z]) nq3
          have c3 : upd J2 q3 (.tup [V.ref a3, z]) q3 = some (.tup [V.ref a3, z]) := upd_same
          generalize upd J2 q3 (.tup [V.ref a3, z]) = J3 at f3 c3 ⊢
          have f13 := Same.trans f12 f3
          refine ⟨_, rfl, t2, _, 1, _, rfl, rfl, SqT.of (f13 _ _ m1), atI_nat rfl, _, rfl, by show 2 ≤ sizeLine; decide, fun q4 nq4 => ?_⟩
          have f4 := same_upd (o := HO.tup [V.ref a4, z]) nq4
          have c4 : upd J3 q4 (.tup [V.ref a4, z]) q4 = some (.tup [V.ref a4, z]) := upd_same
          generalize upd J3 q4 (.tup [V.ref a4, z]) = J4 at f4 c4 ⊢
          have f14 := Same.trans f13 f4
          refine ⟨by show 4 ≤ sizeLine; decide, fun ll nll => ?_⟩
          have f5 := same_upd (o := HO.lst [V.ref q1, V.ref q2, V.ref q3, V.ref q4]) nll
          have c5 : upd J4 ll (.lst [V.ref q1, V.ref q2, V.ref q3, V.ref q4]) ll = some (.lst [V.ref q1, V.ref q2, V.ref q3, V.ref q4]) := upd_same
          generalize upd J4 ll (.lst [V.ref q1, V.ref q2, V.ref q3, V.ref q4]) = J5 at f5 c5 ⊢
          have f15 := Same.trans f14 f5
          have els : ∀ x ∈ [V.ref q1, V.ref q2, V.ref q3, V.ref q4], Elem57 K J5 (cA e.1) e.2 x := by
            have xy := ty9.extN (ExtN.of f15)
            have xz := tz9.extN (ExtN.of f15)
            refine fc ⟨q1, a1, b1, y, rfl, f5 _ _ (f4 _ _ (f3 _ _ (f2 _ _ c1))), f15 _ _ k2, f15 _ _ k3, xy⟩ (fc ⟨q2, a2, b2, y, rfl, f5 _ _ (f4 _ _ (f3 _ _ c2)), f15 _ _ k4, f15 _ _ k5, xy⟩ (fc ⟨q3, a3, b3, z, rfl, f5 _ _ (f4 _ _ c3), f15 _ _ m2, f15 _ _ m3, xz⟩ (fc ⟨q4, a4, b4, z, rfl, f5 _ _ c4, f15 _ _ m4, f15 _ _ m5, xz⟩ (fun y m => nomatch m))))
          have kfl := f15 _ _ k6
          have kfc := f15 _ _ k7
          have e15 := Same.trans e9 f15
          refine ⟨ll, rfl, ⟨_, SqL.of c5⟩, for_it (walk_list (xs := [V.ref q1, V.ref q2, V.ref q3, V.ref q4])) (fun n σ' H' => ∃ w10 w11, σ' = [some (.ref a), some (.ref st), some (.int (0 + (i : Int))), some (.ref l), some (.int (k : Int)), some y, some z, some (.ref t1), some (.ref t2), some (.ref fl1), w10, w11] ∧ Same J5 H') ?_ (fun n σ' H' _ ⟨_, _, _, e⟩ => SqL.of (e _ _ c5)) ?_ ?_⟩
          · exact ⟨w10, w11, rfl, Same.refl _⟩
          · rintro n x σ' H10 H11 hn ⟨w10, w11, rfl, e10⟩ ⟨rfl, hx⟩
            obtain ⟨qq, ae, de, ye, rfl, o1, o2, o3, o4⟩ := (els x (List.mem_of_getElem? hx)).same e10
            refine ⟨qq, _, rfl, SqT.of o1, rfl, _, _, rfl, _, _, rfl, rfl, ?_⟩
            have exv : ExV H11 ae (cA e.1) := .inr (.inl ⟨de, _, o2, o3⟩)
            refine isxi rfl exv (XA _ me) (kS _ me) (.own CS) ⟨_, rfl, ?_⟩
            refine iteF ?_
            refine isxi rfl exv (XA _ me) (kV _ me) (.ty "ValueError") ⟨_, rfl, ?_⟩
            refine iteF ?_
            refine ⟨_, rfl, ae, e.1, rfl, me, exv, fun H12 e12 => ?_⟩
            refine ⟨rfl, _, rfl, ?_⟩
            refine iteF ?_
            refine isxi rfl (exv.same e12) (XA _ me) (kL _ me) (.ty "LookupError") ⟨_, rfl, ?_⟩
            refine iteF ?_
            have q12 := Same.trans e10 e12
            refine ⟨fl1, F1, rfl, q12 _ _ kfl, _, rfl, F1, _, q12 _ _ kfl, q12 _ _ kfc, L1, ae, de, ye, rfl, e12 _ _ o2, e12 _ _ o3, ?_⟩
            rcases o4 with ⟨d, hd, z1, z2, z3, z4⟩ | ⟨ad, rfl, had⟩
            · refine .inl ⟨ye, d, rfl, Dp.sm e12 _ _ hd, z1, z2, fun v1 H13 e13 p1 => ?_⟩
              refine ⟨_, rfl, .inl ⟨ye, d, rfl, Dp.sm (Same.trans e12 e13) _ _ hd, z1, z2, fun v2 H14 e14 p2 => ?_⟩⟩
              refine .inl ⟨v1, v2, frzD d, rfl, Dp.sm e14 _ _ p1, p2, z3, z4, fun H15 e15 => ⟨_, rfl, ?_⟩⟩
              refine iteF ?_
              exact ⟨_, _, rfl, Same.trans q12 (Same.trans e13 (Same.trans e14 e15))⟩
            · refine .inr ⟨ad, rfl, by decide, e12 _ _ had, fun x1 H13 e13 p1 => ?_⟩
              refine ⟨_, rfl, .inr ⟨ad, rfl, by decide, (Same.trans e12 e13) _ _ had, fun x2 H14 e14 p2 => ?_⟩⟩
              refine .inr ⟨x1, x2, oneA, rfl, e14 _ _ p1, p2, fun p mp => ?_, fun H15 e15 => ⟨_, rfl, ?_⟩⟩
              · rcases List.mem_cons.mp mp with rfl | mp
                · exact ⟨rfl, rfl⟩
                · cases mp
              refine iteF ?_
              exact ⟨_, _, rfl, Same.trans q12 (Same.trans e13 (Same.trans e14 e15))⟩
          · rintro σ' H10 ⟨w10, w11, rfl, e10⟩
            exact ⟨some (.ref t1), some (.ref t2), some (.ref fl1), w10, w11, rfl, Same.trans e15 e10⟩
        · rintro σ' H8 ⟨w7, w8, w9, w10, w11, rfl, e8⟩
          exact ⟨_, _, _, _, _, _, _, _, _, _, rfl, (S7.same e8).more (by omega), t7.ext e8⟩
      · rintro σ' H1 ⟨v2, v3, v4, v5, v6, v7, v8, v9, v10, v11, rfl, _⟩
        exact ⟨_, _, _, _, _, _, _, _, _, _, rfl⟩
    rintro σ2 H2 ⟨v2, v3, v4, v5, v6, v7, v8, v9, v10, v11, rfl⟩
    refine fun a1 n1 a2 n2 => ⟨by show 2 ≤ sizeLine; decide, fun t nt => ?_⟩
    have e1 := same_upd (o := ExO (.ref (cA "UnlikeFolders")) a1) n1
    have h1 : upd H2 a1 (ExO (.ref (cA "UnlikeFolders")) a1) a1 = some (ExO (.ref (cA "UnlikeFolders")) a1) := upd_same
    generalize upd H2 a1 (ExO (.ref (cA "UnlikeFolders")) a1) = G1 at e1 h1 n2 nt ⊢
    have e2 := same_upd (o := ExO (.ref (cA "NoDeed")) a2) n2
    have h2 : upd G1 a2 (ExO (.ref (cA "NoDeed")) a2) a2 = some (ExO (.ref (cA "NoDeed")) a2) := upd_same
    generalize upd G1 a2 (ExO (.ref (cA "NoDeed")) a2) = G2 at e2 h2 nt ⊢
    have e3 := same_upd (o := HO.tup [V.ref a1, V.ref a2]) nt
    have h3 : upd G2 t (.tup [V.ref a1, V.ref a2]) t = some (.tup [V.ref a1, V.ref a2]) := upd_same
    generalize upd G2 t (.tup [V.ref a1, V.ref a2]) = G3 at e3 h3 ⊢
    have els : ∀ x ∈ [V.ref a1, V.ref a2], ∃ (b : Addr) (y : Str), x = .ref b ∧ y ∈ kindL ∧ ExV G3 b (cA y) :=
      fc ⟨a1, "UnlikeFolders", rfl, by decide +kernel, .inr (.inr (e3 _ _ (e2 _ _ h1)))⟩ (fc ⟨a2, "NoDeed", rfl, by decide +kernel, .inr (.inr (e3 _ _ h2))⟩ (fun y m => nomatch m))
    refine ⟨t, rfl, ⟨_, SqT.of h3⟩, for_it (walk_tup (xs := [V.ref a1, V.ref a2])) (fun n σ' H' => ∃ w10, σ' = [some (.ref a), some (.ref st), v2, v3, v4, v5, v6, v7, v8, v9, w10, v11] ∧ Same G3 H') ?_ (fun n σ' H' _ ⟨_, _, e⟩ => SqT.of (e _ _ h3)) ?_ ?_⟩
    · exact ⟨v10, rfl, Same.refl _⟩
    · rintro n x σ' H10 H11 hn ⟨w10, rfl, e10⟩ ⟨rfl, hx⟩
      obtain ⟨b, y, rfl, me, ex⟩ := els x (List.mem_of_getElem? hx)
      have exv := ex.same e10
      refine isxi rfl exv (XA _ me) (kS _ me) (.own CS) ⟨_, rfl, ?_⟩
      refine iteF ?_
      refine isxi rfl exv (XA _ me) (kV _ me) (.ty "ValueError") ⟨_, rfl, ?_⟩
      refine iteF ?_
      refine ⟨_, rfl, b, y, rfl, me, exv, fun H12 e12 => ?_⟩
      refine ⟨rfl, _, rfl, ?_⟩
      refine iteF ?_
      exact ⟨_, rfl, Same.trans e10 e12⟩
    · rintro σ' H10 ⟨w10, rfl, e10⟩
      exact q H10
end
end Bk

set_option maxHeartbeats 0
namespace Bk
open PySem PySem.Spec PyProof.Rows L2 LamX NdefX
def gd (x : Str) (st : Stmt) : He.DefD := ⟨(x, none), x, x, defArgs st, defBody st, defScope st, [], []⟩
def md (c m q : Str) (st : Stmt) (kws : List (Str × He.Dv)) : He.DefD := ⟨(c, some m), m, q, defArgs st, defBody st, defScope st, [], kws⟩
def fnL : List He.DefD := [gd "_law_start" (topS 22), gd "_law_draw" (topS 23), gd "_law_same" (topS 24), gd "_law_frozen" (topS 25), gd "_law_pairs" (topS 26), gd "_law_kinds" (topS 27), gd "law" (topS 28), md "BadFolders" "__init__" "BadFolders.__init__" (inClass (topS 2) 0) [], md "BadName" "__init__" "BadName.__init__" (inClass (topS 3) 0) [], md "BadLot" "__init__" "BadLot.__init__" (inClass (topS 4) 0) [], md "BadSize" "__init__" "BadSize.__init__" (inClass (topS 5) 0) [], md "BadNumber" "__init__" "BadNumber.__init__" (inClass (topS 6) 0) [], md "NoFolder" "__init__" "NoFolder.__init__" (inClass (topS 7) 0) [], md "Taken" "__init__" "Taken.__init__" (inClass (topS 8) 0) [], md "Lacking" "__init__" "Lacking.__init__" (inClass (topS 10) 0) [], md "NotStore" "__init__" "NotStore.__init__" (inClass (topS 11) 0) [], md "BadTelling" "__init__" "BadTelling.__init__" (inClass (topS 12) 0) [], md "NotTold" "__init__" "NotTold.__init__" (inClass (topS 13) 0) [], md "Wrong" "__init__" "Wrong.__init__" (inClass (topS 14) 0) [], md "NoMoment" "__init__" "NoMoment.__init__" (inClass (topS 15) 0) [], md "BadDeed" "__init__" "BadDeed.__init__" (inClass (topS 16) 0) [], md "BadText" "__init__" "BadText.__init__" (inClass (topS 18) 0) [], md "Held" "__init__" "Held.__init__" (inClass (topS 19) 0) [], md "NotHeld" "__init__" "NotHeld.__init__" (inClass (topS 20) 0) []]
def faL : List He.Fa := [.glo "_law_start", .glo "_law_draw", .glo "_law_same", .glo "_law_frozen", .glo "_law_pairs", .glo "_law_kinds", .glo "law", .glo "BadFolders", .glo "BadName", .glo "BadLot", .glo "BadSize", .glo "BadNumber", .glo "NoFolder", .glo "Taken", .glo "UnlikeFolders", .glo "Lacking", .glo "NotStore", .glo "BadTelling", .glo "NotTold", .glo "Wrong", .glo "NoMoment", .glo "BadDeed", .glo "NoDeed", .glo "BadText", .glo "Held", .glo "NotHeld", .glo "ShareError", .meth "BadFolders" "__init__", .noat "BadFolders" "index", .exm "BadFolders" "BadFolders" true, .meth "BadName" "__init__", .noat "BadName" "name", .exm "BadName" "BadName" true, .meth "BadLot" "__init__", .noat "BadLot" "lot", .exm "BadLot" "BadLot" true, .meth "BadSize" "__init__", .noat "BadSize" "size", .exm "BadSize" "BadSize" true, .meth "BadNumber" "__init__", .noat "BadNumber" "number", .exm "BadNumber" "BadNumber" true, .meth "NoFolder" "__init__", .noat "NoFolder" "name", .exm "NoFolder" "NoFolder" true, .meth "Taken" "__init__", .noat "Taken" "name", .exm "Taken" "Taken" true, .meth "Lacking" "__init__", .noat "Lacking" "lot", .exm "Lacking" "Lacking" true, .meth "NotStore" "__init__", .noat "NotStore" "lot", .exm "NotStore" "NotStore" true, .meth "BadTelling" "__init__", .noat "BadTelling" "ends", .exm "BadTelling" "BadTelling" true, .meth "NotTold" "__init__", .noat "NotTold" "question", .exm "NotTold" "NotTold" true, .meth "Wrong" "__init__", .noat "Wrong" "weights", .exm "Wrong" "Wrong" true, .meth "NoMoment" "__init__", .noat "NoMoment" "moment", .exm "NoMoment" "NoMoment" true, .meth "BadDeed" "__init__", .noat "BadDeed" "deed", .exm "BadDeed" "BadDeed" true, .meth "BadText" "__init__", .noat "BadText" "line", .exm "BadText" "BadText" true, .meth "Held" "__init__", .noat "Held" "name", .exm "Held" "Held" true, .meth "NotHeld" "__init__", .noat "NotHeld" "name", .exm "NotHeld" "NotHeld" true, .exc "UnlikeFolders", .exc "NoDeed", .free "len", .free "list", .free "tuple", .free "isinstance", .free "all", .free "any", .free "zip", .free "enumerate", .free "range", .free "int", .free "str", .free "bool", .free "dict", .free "abs", .free "ValueError", .free "LookupError"]
def tfL : List He.Defn := [("_law_pairs", none)]
def exL (K : PySem.W.Frag) : Bool := (errL.all fun e => errB K (He.ga K e.1) (He.ma K (He.ga K e.1) "__init__")) && ((kindL.all fun x => xfB K (He.ga K x) && insB K (He.ga K x)) && ((kindL.all fun x => kindL.all fun y => decide (PySem.W.kitOne K (.ref (He.ga K x)) (.ref (He.ga K y)) = some (decide (x = y)))) &&
  (kindL.all fun x => decide (PySem.W.kitOne K (.ref (He.ga K x)) (.ref (He.ga K "ShareError")) = some true) && (decide (PySem.W.kitOne K (.ref (He.ga K x)) (.type "ValueError") = some true) && decide (PySem.W.kitOne K (.ref (He.ga K x)) (.type "LookupError") = some false)))))
abbrev RowL : PySem.W.OpenRow := PySem.W.OpenLaw.row PySem.Challenge.rw_blockshares_k57_errors_made
abbrev hkL : PySem.W.Hook := He.hookX 4 faL fnL [] tfL exL
def obL (s : PySem.W.SharedT) : He.AlX := He.obsX 4 faL fnL [] tfL exL (HandSHeadRun.getT s)
theorem obL_eq (s : PySem.W.SharedT) : obL s = hkL.obs s.abs := He.obsX_eq (HandSHeadRun.getT_eq s)
theorem runL (w : World) : HandSHeadRun.RunEq RowL (PySem.W.view RowL.prog [28]) hkL obL 8000 ["__name__", "ShareError", "BadFolders", "BadName", "BadLot", "BadSize", "BadNumber", "NoFolder", "Taken", "UnlikeFolders", "Lacking", "NotStore", "BadTelling", "NotTold", "Wrong", "NoMoment", "BadDeed", "NoDeed", "BadText", "Held", "NotHeld", "_law_start", "_law_draw", "_law_same", "_law_frozen", "_law_pairs", "_law_kinds"] w := by
  intro os
  kernel_rfl
end Bk

namespace Bk
open PySem PySem.Spec PyProof.Rows L2 LamX NdefX
theorem factsL {P : Program} {w w' : World} {K : PySem.W.Frag} {h h' : Heap} {mg : Str → Option Value} {f : Addr} (X : K.In h) (G : h.Ns mainGlobals mg) (hfa : mg ("law" : Str) = some (.ref f)) (cx : He.SaysX faL fnL [] tfL exL w' h' K) :
    ∃ fd : FuncData, (∀ (s : Shared) (v : Value), BindsTo s fd ⟨[v], []⟩ [("_law_script", v)]) ∧ ∀ base : Heap, K.In base → base.Ns mainGlobals mg → TabB base mg (He.cT K ("_law_pairs", none)).1 (He.cT K ("_law_pairs", none)).2 → FnOk P w K mg base CX0 6 f fd ["_law_script"] (spLaw57 K [((He.cT K ("_law_pairs", none)).2, qL)]) := by
  have c := He.SaysT.d cx.t
  obtain ⟨m1, m⟩ := Bool.and_eq_true_iff.mp cx.more
  obtain ⟨m2, m⟩ := Bool.and_eq_true_iff.mp m
  obtain ⟨m3, m4⟩ := Bool.and_eq_true_iff.mp m
  have glo : ∀ (i : Nat) (x : Str), faL[i]? = some (.glo x) → mg x = some (.ref (He.ga K x)) := fun i x e => He.glo_ok X G (c.fact i e)
  have fr : ∀ (i : Nat) (x : Str), faL[i]? = some (.free x) → mg x = none := fun i x e => He.free_ok X G (c.fact i e)
  have B : Bi mg := ⟨fr 80 _ rfl, fr 81 _ rfl, fr 82 _ rfl, fr 83 _ rfl, fr 84 _ rfl, fr 85 _ rfl, fr 86 _ rfl, fr 87 _ rfl, fr 88 _ rfl, fr 89 _ rfl, fr 90 _ rfl, fr 91 _ rfl, fr 92 _ rfl, fr 93 _ rfl⟩
  obtain ⟨fd0, D0⟩ := c.def_ 0 (d := gd "_law_start" (topS 22)) rfl
  obtain ⟨fd1, D1⟩ := c.def_ 1 (d := gd "_law_draw" (topS 23)) rfl
  obtain ⟨fd2, D2⟩ := c.def_ 2 (d := gd "_law_same" (topS 24)) rfl
  obtain ⟨fd3, D3⟩ := c.def_ 3 (d := gd "_law_frozen" (topS 25)) rfl
  obtain ⟨fd4, D4⟩ := c.def_ 4 (d := gd "_law_pairs" (topS 26)) rfl
  obtain ⟨fd5, D5⟩ := c.def_ 5 (d := gd "_law_kinds" (topS 27)) rfl
  obtain ⟨fd6, D6⟩ := c.def_ 6 (d := gd "law" (topS 28)) rfl
  obtain ⟨fd7, D7⟩ := c.def_ 7 (d := md "BadFolders" "__init__" "BadFolders.__init__" (inClass (topS 2) 0) []) rfl
  obtain ⟨fd8, D8⟩ := c.def_ 8 (d := md "BadName" "__init__" "BadName.__init__" (inClass (topS 3) 0) []) rfl
  obtain ⟨fd9, D9⟩ := c.def_ 9 (d := md "BadLot" "__init__" "BadLot.__init__" (inClass (topS 4) 0) []) rfl
  obtain ⟨fd10, D10⟩ := c.def_ 10 (d := md "BadSize" "__init__" "BadSize.__init__" (inClass (topS 5) 0) []) rfl
  obtain ⟨fd11, D11⟩ := c.def_ 11 (d := md "BadNumber" "__init__" "BadNumber.__init__" (inClass (topS 6) 0) []) rfl
  obtain ⟨fd12, D12⟩ := c.def_ 12 (d := md "NoFolder" "__init__" "NoFolder.__init__" (inClass (topS 7) 0) []) rfl
  obtain ⟨fd13, D13⟩ := c.def_ 13 (d := md "Taken" "__init__" "Taken.__init__" (inClass (topS 8) 0) []) rfl
  obtain ⟨fd14, D14⟩ := c.def_ 14 (d := md "Lacking" "__init__" "Lacking.__init__" (inClass (topS 10) 0) []) rfl
  obtain ⟨fd15, D15⟩ := c.def_ 15 (d := md "NotStore" "__init__" "NotStore.__init__" (inClass (topS 11) 0) []) rfl
  obtain ⟨fd16, D16⟩ := c.def_ 16 (d := md "BadTelling" "__init__" "BadTelling.__init__" (inClass (topS 12) 0) []) rfl
  obtain ⟨fd17, D17⟩ := c.def_ 17 (d := md "NotTold" "__init__" "NotTold.__init__" (inClass (topS 13) 0) []) rfl
  obtain ⟨fd18, D18⟩ := c.def_ 18 (d := md "Wrong" "__init__" "Wrong.__init__" (inClass (topS 14) 0) []) rfl
  obtain ⟨fd19, D19⟩ := c.def_ 19 (d := md "NoMoment" "__init__" "NoMoment.__init__" (inClass (topS 15) 0) []) rfl
  obtain ⟨fd20, D20⟩ := c.def_ 20 (d := md "BadDeed" "__init__" "BadDeed.__init__" (inClass (topS 16) 0) []) rfl
  obtain ⟨fd21, D21⟩ := c.def_ 21 (d := md "BadText" "__init__" "BadText.__init__" (inClass (topS 18) 0) []) rfl
  obtain ⟨fd22, D22⟩ := c.def_ 22 (d := md "Held" "__init__" "Held.__init__" (inClass (topS 19) 0) []) rfl
  obtain ⟨fd23, D23⟩ := c.def_ 23 (d := md "NotHeld" "__init__" "NotHeld.__init__" (inClass (topS 20) 0) []) rfl
  have E0 : Fun K "_law_start" "_law_start" (topS 22) _ fd0 := fun_of D0
  have E1 : Fun K "_law_draw" "_law_draw" (topS 23) _ fd1 := fun_of D1
  have E2 : Fun K "_law_same" "_law_same" (topS 24) _ fd2 := fun_of D2
  have E3 : Fun K "_law_frozen" "_law_frozen" (topS 25) _ fd3 := fun_of D3
  have E4 : Fun K "_law_pairs" "_law_pairs" (topS 26) _ fd4 := fun_of D4
  have E5 : Fun K "_law_kinds" "_law_kinds" (topS 27) _ fd5 := fun_of D5
  have E6 : Fun K "law" "law" (topS 28) _ fd6 := fun_of D6
  have E7 : Fun K "__init__" "BadFolders.__init__" (inClass (topS 2) 0) _ fd7 := fun_of D7
  have E8 : Fun K "__init__" "BadName.__init__" (inClass (topS 3) 0) _ fd8 := fun_of D8
  have E9 : Fun K "__init__" "BadLot.__init__" (inClass (topS 4) 0) _ fd9 := fun_of D9
  have E10 : Fun K "__init__" "BadSize.__init__" (inClass (topS 5) 0) _ fd10 := fun_of D10
  have E11 : Fun K "__init__" "BadNumber.__init__" (inClass (topS 6) 0) _ fd11 := fun_of D11
  have E12 : Fun K "__init__" "NoFolder.__init__" (inClass (topS 7) 0) _ fd12 := fun_of D12
  have E13 : Fun K "__init__" "Taken.__init__" (inClass (topS 8) 0) _ fd13 := fun_of D13
  have E14 : Fun K "__init__" "Lacking.__init__" (inClass (topS 10) 0) _ fd14 := fun_of D14
  have E15 : Fun K "__init__" "NotStore.__init__" (inClass (topS 11) 0) _ fd15 := fun_of D15
  have E16 : Fun K "__init__" "BadTelling.__init__" (inClass (topS 12) 0) _ fd16 := fun_of D16
  have E17 : Fun K "__init__" "NotTold.__init__" (inClass (topS 13) 0) _ fd17 := fun_of D17
  have E18 : Fun K "__init__" "Wrong.__init__" (inClass (topS 14) 0) _ fd18 := fun_of D18
  have E19 : Fun K "__init__" "NoMoment.__init__" (inClass (topS 15) 0) _ fd19 := fun_of D19
  have E20 : Fun K "__init__" "BadDeed.__init__" (inClass (topS 16) 0) _ fd20 := fun_of D20
  have E21 : Fun K "__init__" "BadText.__init__" (inClass (topS 18) 0) _ fd21 := fun_of D21
  have E22 : Fun K "__init__" "Held.__init__" (inClass (topS 19) 0) _ fd22 := fun_of D22
  have E23 : Fun K "__init__" "NotHeld.__init__" (inClass (topS 20) 0) _ fd23 := fun_of D23
  have e := hfa.symm.trans (glo 6 "law" rfl)
  cases e
  have mE : ∀ e ∈ errL, errB K (He.ga K e.1) (He.ma K (He.ga K e.1) "__init__") = true := fun e me => List.all_eq_true.mp m1 e me
  have XA : ∀ x ∈ kindL, ExcC K (He.ga K x) := fun x mx => by
    obtain ⟨h1, h2⟩ := Bool.and_eq_true_iff.mp (List.all_eq_true.mp m2 x mx)
    have z := xfB_ok h1
    unfold insB at h2
    obtain ⟨h3, h2⟩ := Bool.and_eq_true_iff.mp h2
    obtain ⟨h4, h2⟩ := Bool.and_eq_true_iff.mp h2
    obtain ⟨h5, h6⟩ := Bool.and_eq_true_iff.mp h2
    exact ⟨z.ga, z.gg, z.exC, z.hdC, of_decide_eq_true h3, of_decide_eq_true h4, of_decide_eq_true h5, of_decide_eq_true h6⟩
  have kE : ∀ x ∈ kindL, ∀ y ∈ kindL, PySem.W.kitOne K (.ref (He.ga K x)) (.ref (He.ga K y)) = some (decide (x = y)) := fun x mx y my => of_decide_eq_true (List.all_eq_true.mp (List.all_eq_true.mp m3 x mx) y my)
  have k4 : ∀ x ∈ kindL, _ := fun x mx => Bool.and_eq_true_iff.mp (List.all_eq_true.mp m4 x mx)
  have gE : ∀ x ∈ kindL, mg x = some (.ref (He.ga K x)) := fc (glo 7 "BadFolders" rfl) (fc (glo 8 "BadName" rfl) (fc (glo 9 "BadLot" rfl) (fc (glo 10 "BadSize" rfl) (fc (glo 11 "BadNumber" rfl) (fc (glo 12 "NoFolder" rfl) (fc (glo 13 "Taken" rfl) (fc (glo 14 "UnlikeFolders" rfl) (fc (glo 15 "Lacking" rfl) (fc (glo 16 "NotStore" rfl) (fc (glo 17 "BadTelling" rfl) (fc (glo 18 "NotTold" rfl) (fc (glo 19 "Wrong" rfl) (fc (glo 20 "NoMoment" rfl) (fc (glo 21 "BadDeed" rfl) (fc (glo 22 "NoDeed" rfl) (fc (glo 23 "BadText" rfl) (fc (glo 24 "Held" rfl) (fc (glo 25 "NotHeld" rfl) (fun _ m => nomatch m)))))))))))))))))))
  have bl : ∀ (s : Shared) (v : Value), BindsTo s fd6 ⟨[v], []⟩ [("_law_script", v)] := fun s v => FunD.bindsA (ps := ["_law_script"]) D6 (fun _ _ _ _ _ _ us hl => match us, hl with | [_], _ => rfl) s [v] rfl
  refine ⟨fd6, bl, fun base _ _ TBp => ?_⟩
  have eF : ∀ e ∈ errL, ErrF P w K mg base e.1 e.2 (He.ga K e.1) := by
    have M0 := He.meth_ok (c.fact 27 (f := .meth "BadFolders" "__init__") rfl)
    have T0 : ExT K mg "BadFolders" _ _ "index" := errB_ok (mE ("BadFolders", "index") (by decide +kernel)) (glo 7 "BadFolders" rfl) (He.noat_ok (c.fact 28 (f := .noat "BadFolders" "index") rfl)) M0.at_ (He.exm_ok (c.fact 29 (f := .exm "BadFolders" "BadFolders" true) rfl))
    have M1 := He.meth_ok (c.fact 30 (f := .meth "BadName" "__init__") rfl)
    have T1 : ExT K mg "BadName" _ _ "name" := errB_ok (mE ("BadName", "name") (by decide +kernel)) (glo 8 "BadName" rfl) (He.noat_ok (c.fact 31 (f := .noat "BadName" "name") rfl)) M1.at_ (He.exm_ok (c.fact 32 (f := .exm "BadName" "BadName" true) rfl))
    have M2 := He.meth_ok (c.fact 33 (f := .meth "BadLot" "__init__") rfl)
    have T2 : ExT K mg "BadLot" _ _ "lot" := errB_ok (mE ("BadLot", "lot") (by decide +kernel)) (glo 9 "BadLot" rfl) (He.noat_ok (c.fact 34 (f := .noat "BadLot" "lot") rfl)) M2.at_ (He.exm_ok (c.fact 35 (f := .exm "BadLot" "BadLot" true) rfl))
    have M3 := He.meth_ok (c.fact 36 (f := .meth "BadSize" "__init__") rfl)
    have T3 : ExT K mg "BadSize" _ _ "size" := errB_ok (mE ("BadSize", "size") (by decide +kernel)) (glo 10 "BadSize" rfl) (He.noat_ok (c.fact 37 (f := .noat "BadSize" "size") rfl)) M3.at_ (He.exm_ok (c.fact 38 (f := .exm "BadSize" "BadSize" true) rfl))
    have M4 := He.meth_ok (c.fact 39 (f := .meth "BadNumber" "__init__") rfl)
    have T4 : ExT K mg "BadNumber" _ _ "number" := errB_ok (mE ("BadNumber", "number") (by decide +kernel)) (glo 11 "BadNumber" rfl) (He.noat_ok (c.fact 40 (f := .noat "BadNumber" "number") rfl)) M4.at_ (He.exm_ok (c.fact 41 (f := .exm "BadNumber" "BadNumber" true) rfl))
    have M5 := He.meth_ok (c.fact 42 (f := .meth "NoFolder" "__init__") rfl)
    have T5 : ExT K mg "NoFolder" _ _ "name" := errB_ok (mE ("NoFolder", "name") (by decide +kernel)) (glo 12 "NoFolder" rfl) (He.noat_ok (c.fact 43 (f := .noat "NoFolder" "name") rfl)) M5.at_ (He.exm_ok (c.fact 44 (f := .exm "NoFolder" "NoFolder" true) rfl))
    have M6 := He.meth_ok (c.fact 45 (f := .meth "Taken" "__init__") rfl)
    have T6 : ExT K mg "Taken" _ _ "name" := errB_ok (mE ("Taken", "name") (by decide +kernel)) (glo 13 "Taken" rfl) (He.noat_ok (c.fact 46 (f := .noat "Taken" "name") rfl)) M6.at_ (He.exm_ok (c.fact 47 (f := .exm "Taken" "Taken" true) rfl))
    have M7 := He.meth_ok (c.fact 48 (f := .meth "Lacking" "__init__") rfl)
    have T7 : ExT K mg "Lacking" _ _ "lot" := errB_ok (mE ("Lacking", "lot") (by decide +kernel)) (glo 15 "Lacking" rfl) (He.noat_ok (c.fact 49 (f := .noat "Lacking" "lot") rfl)) M7.at_ (He.exm_ok (c.fact 50 (f := .exm "Lacking" "Lacking" true) rfl))
    have M8 := He.meth_ok (c.fact 51 (f := .meth "NotStore" "__init__") rfl)
    have T8 : ExT K mg "NotStore" _ _ "lot" := errB_ok (mE ("NotStore", "lot") (by decide +kernel)) (glo 16 "NotStore" rfl) (He.noat_ok (c.fact 52 (f := .noat "NotStore" "lot") rfl)) M8.at_ (He.exm_ok (c.fact 53 (f := .exm "NotStore" "NotStore" true) rfl))
    have M9 := He.meth_ok (c.fact 54 (f := .meth "BadTelling" "__init__") rfl)
    have T9 : ExT K mg "BadTelling" _ _ "ends" := errB_ok (mE ("BadTelling", "ends") (by decide +kernel)) (glo 17 "BadTelling" rfl) (He.noat_ok (c.fact 55 (f := .noat "BadTelling" "ends") rfl)) M9.at_ (He.exm_ok (c.fact 56 (f := .exm "BadTelling" "BadTelling" true) rfl))
    have M10 := He.meth_ok (c.fact 57 (f := .meth "NotTold" "__init__") rfl)
    have T10 : ExT K mg "NotTold" _ _ "question" := errB_ok (mE ("NotTold", "question") (by decide +kernel)) (glo 18 "NotTold" rfl) (He.noat_ok (c.fact 58 (f := .noat "NotTold" "question") rfl)) M10.at_ (He.exm_ok (c.fact 59 (f := .exm "NotTold" "NotTold" true) rfl))
    have M11 := He.meth_ok (c.fact 60 (f := .meth "Wrong" "__init__") rfl)
    have T11 : ExT K mg "Wrong" _ _ "weights" := errB_ok (mE ("Wrong", "weights") (by decide +kernel)) (glo 19 "Wrong" rfl) (He.noat_ok (c.fact 61 (f := .noat "Wrong" "weights") rfl)) M11.at_ (He.exm_ok (c.fact 62 (f := .exm "Wrong" "Wrong" true) rfl))
    have M12 := He.meth_ok (c.fact 63 (f := .meth "NoMoment" "__init__") rfl)
    have T12 : ExT K mg "NoMoment" _ _ "moment" := errB_ok (mE ("NoMoment", "moment") (by decide +kernel)) (glo 20 "NoMoment" rfl) (He.noat_ok (c.fact 64 (f := .noat "NoMoment" "moment") rfl)) M12.at_ (He.exm_ok (c.fact 65 (f := .exm "NoMoment" "NoMoment" true) rfl))
    have M13 := He.meth_ok (c.fact 66 (f := .meth "BadDeed" "__init__") rfl)
    have T13 : ExT K mg "BadDeed" _ _ "deed" := errB_ok (mE ("BadDeed", "deed") (by decide +kernel)) (glo 21 "BadDeed" rfl) (He.noat_ok (c.fact 67 (f := .noat "BadDeed" "deed") rfl)) M13.at_ (He.exm_ok (c.fact 68 (f := .exm "BadDeed" "BadDeed" true) rfl))
    have M14 := He.meth_ok (c.fact 69 (f := .meth "BadText" "__init__") rfl)
    have T14 : ExT K mg "BadText" _ _ "line" := errB_ok (mE ("BadText", "line") (by decide +kernel)) (glo 23 "BadText" rfl) (He.noat_ok (c.fact 70 (f := .noat "BadText" "line") rfl)) M14.at_ (He.exm_ok (c.fact 71 (f := .exm "BadText" "BadText" true) rfl))
    have M15 := He.meth_ok (c.fact 72 (f := .meth "Held" "__init__") rfl)
    have T15 : ExT K mg "Held" _ _ "name" := errB_ok (mE ("Held", "name") (by decide +kernel)) (glo 24 "Held" rfl) (He.noat_ok (c.fact 73 (f := .noat "Held" "name") rfl)) M15.at_ (He.exm_ok (c.fact 74 (f := .exm "Held" "Held" true) rfl))
    have M16 := He.meth_ok (c.fact 75 (f := .meth "NotHeld" "__init__") rfl)
    have T16 : ExT K mg "NotHeld" _ _ "name" := errB_ok (mE ("NotHeld", "name") (by decide +kernel)) (glo 25 "NotHeld" rfl) (He.noat_ok (c.fact 76 (f := .noat "NotHeld" "name") rfl)) M16.at_ (He.exm_ok (c.fact 77 (f := .exm "NotHeld" "NotHeld" true) rfl))
    exact fc (errF_BadFolders T0 (XA "BadFolders" (by decide +kernel)) E7) (fc (errF_BadName T1 (XA "BadName" (by decide +kernel)) E8) (fc (errF_BadLot T2 (XA "BadLot" (by decide +kernel)) E9) (fc (errF_BadSize T3 (XA "BadSize" (by decide +kernel)) E10) (fc (errF_BadNumber T4 (XA "BadNumber" (by decide +kernel)) E11) (fc (errF_NoFolder T5 (XA "NoFolder" (by decide +kernel)) E12) (fc (errF_Taken T6 (XA "Taken" (by decide +kernel)) E13) (fc (errF_Lacking T7 (XA "Lacking" (by decide +kernel)) E14) (fc (errF_NotStore T8 (XA "NotStore" (by decide +kernel)) E15) (fc (errF_BadTelling T9 (XA "BadTelling" (by decide +kernel)) E16) (fc (errF_NotTold T10 (XA "NotTold" (by decide +kernel)) E17) (fc (errF_Wrong T11 (XA "Wrong" (by decide +kernel)) E18) (fc (errF_NoMoment T12 (XA "NoMoment" (by decide +kernel)) E19) (fc (errF_BadDeed T13 (XA "BadDeed" (by decide +kernel)) E20) (fc (errF_BadText T14 (XA "BadText" (by decide +kernel)) E21) (fc (errF_Held T15 (XA "Held" (by decide +kernel)) E22) (fc (errF_NotHeld T16 (XA "NotHeld" (by decide +kernel)) E23) (fun _ m => nomatch m)))))))))))))))))
  have hcd : fd4.code = .ref (He.cT K ("_law_pairs", none)).1 := by
    obtain ⟨oc, od, kV, doc, pm, an, cdv, ct, osl, rfl, lk, hc⟩ := E4.ex
    obtain ⟨c, rfl⟩ := He.codeIn_ref hc
    have e := He.codeOf_eq (p := ("_law_pairs", none)) lk rfl
    show Value.ref c = .ref (He.codeOf K ("_law_pairs", none))
    rw [e]
  have c_start : Cal P w K mg base CX0 1 "_law_start" _ fd0 ["_law_script"] (spStart K) := ⟨ok_start B E0, glo 0 _ rfl, E0.kp, E0.binds (fun _ _ _ _ _ _ us hl => match us, hl with | [_], _ => rfl)⟩
  have c_draw : Cal P w K mg base CX0 1 "_law_draw" _ fd1 ["_law_stream", "_law_many"] spDraw := ⟨ok_draw B E1, glo 1 _ rfl, E1.kp, E1.binds (fun _ _ _ _ _ _ us hl => match us, hl with | [_, _], _ => rfl)⟩
  have bs : Binds K fd2 ["_law_found", "_law_due"] [] := E2.binds (fun _ _ _ _ _ _ us hl => match us, hl with | [_, _], _ => rfl)
  have c_same : Cal P w K mg base CX0 5 "_law_same" _ fd2 ["_law_found", "_law_due"] (spSameD K 4) := ⟨ok_same B E2 (glo 2 _ rfl) bs 4, glo 2 _ rfl, E2.kp, bs⟩
  have bz : Binds K fd3 ["_law_thing"] [] := E3.binds (fun _ _ _ _ _ _ us hl => match us, hl with | [_], _ => rfl)
  have c_frz : Cal P w K mg base CX0 5 "_law_frozen" _ fd3 ["_law_thing"] (spFrz K 4) := ⟨ok_frz B E3 (glo 3 _ rfl) bz 4, glo 3 _ rfl, E3.kp, bz⟩
  have c_pairs : Cal P w K mg base CX0 3 "_law_pairs" _ fd4 ["_law_x"] (spPairs P w K mg base (fun x => He.ga K x) [((He.cT K ("_law_pairs", none)).2, qL)]) := ⟨ok_pairs B (cA := fun x => He.ga K x) TBp hcd eF E4, glo 4 _ rfl, E4.kp, E4.binds (fun _ _ _ _ _ _ us hl => match us, hl with | [_], _ => rfl)⟩
  have c_kinds : Cal P w K mg base CX0 1 "_law_kinds" _ fd5 ["_law_e"] (spKinds K (fun x => He.ga K x)) := ⟨ok_kinds B (cA := fun x => He.ga K x) gE XA kE E5, glo 5 _ rfl, E5.kp, E5.binds (fun _ _ _ _ _ _ us hl => match us, hl with | [_], _ => rfl)⟩
  have xu := He.exc_ok (c.fact 78 (f := .exc "UnlikeFolders") rfl)
  have xn := He.exc_ok (c.fact 79 (f := .exc "NoDeed") rfl)
  exact ok_law B (cA := fun x => He.ga K x) (fr 94 _ rfl) (fr 95 _ rfl) (glo 26 "ShareError" rfl) (glo 14 "UnlikeFolders" rfl) (glo 22 "NoDeed" rfl) xu.1 xn.1 xu.2.1 xn.2.1 XA (fun x mx => of_decide_eq_true (k4 x mx).1) (fun x mx => of_decide_eq_true (Bool.and_eq_true_iff.mp (k4 x mx).2).1) (fun x mx => of_decide_eq_true (Bool.and_eq_true_iff.mp (k4 x mx).2).2) c_start c_draw c_pairs c_kinds c_frz c_same E6
end Bk

open PySem PySem.W PySem.Calls PyProof.Rows
theorem PySem.Challenge.cw_blockshares_k57_errors_made_holds : PySem.Challenge.rw_blockshares_k57_errors_made.Holds := by
  w_on; o_law
  refine HandSHeadRun.head_any (r := Bk.RowL) (q := view Bk.RowL.prog [28]) (H := Bk.hkL) (ob := Bk.obL) (M := 8000) (d := HandSHeadRun.topDef Bk.RowL.prog 28) (kwd := []) Bk.obL_eq
    (by kernel_rfl) (fun s => by kernel_rfl) Bk.runL (by kernel_rfl) (by kernel_rfl) (by kernel_rfl) (by rfl) (by first | assumption | decide +kernel) (by decide +kernel) ⟨rfl, rfl, rfl, rfl, rfl, by decide +kernel⟩ ?hw ?hc
  case hw => w_witness2
  case hc =>
    refine LamX.walk_ofTsE (l := PySem.Challenge.rw_blockshares_k57_errors_made) (n := 63) (k := 6) (x := "_law_script") (CX := fun _ => L2.CX0) rfl (by decide) (by kernel_rfl) ⟨rfl, by decide, by decide⟩ ?F (fun _ _ _ _ _ z => z)
    intro w mg fa h Y G hmg0
    obtain ⟨K, KX, c⟩ := Y
    have hmg : mg ("law" : PySem.Str) = some (.ref fa) := by
      have e : (HandSHeadRun.topDef Bk.RowL.prog 28).name = ("law" : PySem.Str) := by kernel_rfl
      rw [← e]
      exact hmg0
    obtain ⟨fd, hb, hF⟩ := Bk.factsL (P := (PySem.Challenge.rw_blockshares_k57_errors_made).prog) (w := w) KX G hmg c
    have mp : (("_law_pairs", none) : He.Defn) ∈ Bk.tfL := List.mem_singleton.mpr rfl
    refine ⟨K, KX, fd, [He.cT K ("_law_pairs", none)], Bk.spLaw57 K [((He.cT K ("_law_pairs", none)).2, Bk.qL)], fun p hp => ?_, fun p hp => ?_, fun p hp => ?_, hb, fun H a ns hl _ hH hS => ⟨a, ns, rfl, hS, fun p hp => ?_, fun _ => rfl⟩, fun base b1 b2 b3 => hF base b1 b2 (b3 _ (List.mem_singleton.mpr rfl))⟩
    · rw [List.mem_singleton.mp hp]
      exact c.empty _ mp
    · rw [List.mem_singleton.mp hp]
      exact c.out _ mp
    · rw [List.mem_singleton.mp hp]
      exact PySem.W.codeHd_of_K KX (c.hd _ mp)
    · rw [List.mem_singleton.mp hp]
      exact LamX.TabS.nil (hH _ (List.mem_singleton.mpr rfl))
