import PyProof.Rows.All
import Wide.All
import OpenK.AllK
import Wide.FinOn
import HandS.ForMost
import KE.GoesMore
import KE.GoesEnum
import PyProof.Draws
import HandS.DictComp
import HandS.ForExc
import HandS.IsInst
import HandS.Conv
import HandS.MakeKwOnly
import HandS.TupAny
import HandS.Flow
import HandS.Steps
import HandS.Defaults
import HandS.Evl
import HandS.Walk
import HandS.Zip
import HandS.Style
import HandS.ExcInit
import HandS.ExcField
import HandS.Head0
import HandS.Head1
import HandS.Head2
import HandS.HeadEnd
import HandS.HeadHook1
import HandS.HeadHook2
import HandS.HeadHook3
import HandS.HeadHook4
import HandS.Base
import HandS.Call
import HandS.List
import HandS.OwnEq
import HandS.Words
import HandS.WordsExc
import PyProof.EqKinds
import PyProof.SeqRoads2
import PyProof.InstNe
import HandS.ExcIs
import HandS.ExcValue
import HandS.MakeKw
import HandS.Lambda
import HandS.Nested
import HandS.Iter
import HandS.Dict
import HandS.HeadWalk
import PyProof.FactsAll.dict
import KE.KDictPairs
import KE.KDictZip
import KE.KEqDict
import HandS.More
import HandS.DictTup
import HandS.Comp
import HandS.Hot
import HandS.HotCalls
import HandS.ExcInitHot
import KE.KOpsOwn
import PyProof.SeqRoads
import PyProof.FactsAll.int
import HandS.ExcCtx
import PyProof.FactsAll.bool_2
import KE.KDictDisplayH
import HandS.ListEq
import HandS.Wide
import HandS.TryOnly
import KE.KDictWalk
import PyProof.P3Eq
import HandS.CallSlots
import KE.GoesZip
import HandS.Star
import PySem.Challenge.RW_blockshares_k07_whole_questions_in_all_s
set_option Elab.async false
set_option linter.all false
set_option maxRecDepth 100000
set_option maxHeartbeats 2000000
/-! enumerate over a tuple, in a for or a comprehension: my own rule beside the layer's for lists -/
namespace Bk
open PySem PySem.Spec PyProof.Rows L2
theorem two_le {b n : Nat} (hb : b ∈ [n + 1, n]) : n ≤ b := by
  simp at hb
  omega
/-- a new enumerate object over the iterator at p -/
abbrev enumO (p : Addr) : Obj := { cls := .type "enumerate", data := .fields #[.none, .bool false, .ref p, rawInt 0, .none, .none] }
theorem meets_enum1 {v : Value} {o : Obj} {G : Heap → Prop} (B : Begins v o G) :
    Meets (Builtin.«enumerate.__new__» ⟨[.type "enumerate", v], []⟩) (fun _ R s => G s.heap ∧ R (.ok (.ret (.ref (s.heap.push o).objs.size))) { s with heap := (s.heap.push o).push (enumO s.heap.objs.size) }) := by
  refine .of_wp fun prog w A R s hh => ?_
  obtain ⟨hp, gs, dr, tk, os⟩ := s
  obtain ⟨hG, hR⟩ := hh
  have sb := sub_enumerate
  have it1 : ∀ {A1 : Around} {E1 Q1 : Value → Shared → Prop}, Q1 (.ref hp.objs.size) ⟨hp.push o, gs, dr, tk, os⟩ → wpAny (model prog w) A1 (pyIter v) Q1 E1 ⟨hp, gs, dr, tk, os⟩ := fun z => B.iter prog w _ _ ⟨hp, gs, dr, tk, os⟩ _ hG z
  wp_walk using it1
  refine wpAny_stack_any fun st => wpAny_pure ?_
  split
  · rename_i c _ _ _ _ _
    cases (c == Value.type "enumerate") <;> (wp_walk using it1; exact ⟨_, rfl, hR⟩)
  · wp_walk using it1
    exact ⟨_, rfl, hR⟩
theorem call_enum1 {prog : Program} {w : World} {A : Around} {E : Value → Shared → Prop} {s : Shared} {v : Value} {o : Obj} {G : Heap → Prop} {Q : Value → Shared → Prop} (B : Begins v o G) (hG : G s.heap)
    (h : Q (.ref (s.heap.objs.size + 1)) { s with heap := (s.heap.push o).push (enumO s.heap.objs.size) }) : wpAny (model prog w) A (call (.type "enumerate") [v]) Q E s := by
  refine callType_new F.called_enumerate (by decide) (F.typeCall_enumerate_1 _) (F.newCall_enumerate_1 _) (fun obj => F.args_object_init_2 obj _) F.entry_enumerate_new (meets_enum1 B) ⟨hG, ?_⟩
  have hz : (s.heap.push o).objs.size = s.heap.objs.size + 1 := Heap.size_push ..
  show _ ∧ _
  rw [hz]
  exact ⟨⟨_, by rw [← hz]; exact Heap.get?_push_size _ rfl, rfl⟩, h⟩
/-- the tuple at a as it stands at each turn, each item in a new pair -/
def IteT (K : PySem.W.Frag) (a : Addr) : It :=
  ⟨fun i H => ∃ (xs : List V) (x : V), SqT K H a xs ∧ xs[i]? = some x,
    fun i H v H' => ∃ T x, v = .ref T ∧ H T = none ∧ H' = upd H T (.tup [.int (i : Nat), x]) ∧ ∀ xs, SqT K H a xs → xs[i]? = some x,
    fun i H => ∃ xs : List V, SqT K H a xs ∧ xs.length = i⟩
theorem tup_iter_ne {h : Heap} {a it : Addr} {its : Array Value} {i : Nat} (t : h.IsTuple a its) (u : h.IsTupleIter it a i) : a ≠ it := by
  rintro rfl
  obtain ⟨o, e, c, _⟩ := t
  obtain ⟨o', e', c', _⟩ := u
  rw [e] at e'
  cases e'
  rw [c] at c'
  exact absurd c' (by decide)
theorem turn_enumT {P : Program} {w : World} {K : PySem.W.Frag} {elts : List Expr} {kk : Nat} {tpos : Pos} (a e it : Addr) :
    Turn P w K (.Tuple elts kk tpos) (IteT K a) [e, it] e (fun i h => (∃ old, IsEnum h e it ((i : Nat) : Int) old) ∧ h.IsTupleIter it a i ∧ e ≠ it) where
  mem := List.mem_cons_self
  obj := fun i h st b hb => by
    obtain ⟨⟨old, he⟩, ⟨o, ho, hc, hd⟩, _⟩ := st
    rcases List.mem_cons.mp hb with rfl | hb
    · exact ⟨_, he, fun v q => nomatch q⟩
    · obtain rfl := List.mem_singleton.mp hb
      exact ⟨o, ho, fun v q => by rw [hd] at q; cases q⟩
  keep := fun i h h' st k => ⟨st.1.imp fun old he => k e List.mem_cons_self _ he, st.2.1.at fun o q => k it (List.mem_cons_of_mem _ List.mem_cons_self) o q, st.2.2⟩
  item := by
    rintro X rfl rfl rfl hc i pins s σ H E I hf ⟨⟨old, he⟩, hit, hne⟩ ⟨xs, x, hq, hx⟩
    obtain ⟨its, rv, p, hz⟩ := I.tuple hq
    have p' : s.heap.IsTuple a its.toArray := p
    have hai := tup_iter_ne p' hit
    have hl : i < its.toArray.size := by
      have l1 := rv.length
      have l2 := (List.getElem?_eq_some_iff.mp hx).1
      simp only [List.size_toArray]
      omega
    have hea : e ≠ a := by
      rintro rfl
      obtain ⟨o, e1, c, _⟩ := p'
      rw [show s.heap.get? e = _ from he] at e1
      obtain rfl := Option.some.inj e1
      exact absurd c (show ¬ Value.type "enumerate" = Value.type "tuple" by decide)
    have D := Draws.tuple (prog := X.prog) (w := X.w) (A := X.A.in1) (I.ok.hd hc) it a hai its.toArray
    refine wpAny_pyNext_enum_itemD D he ⟨hit, p'⟩ hl hne (by simp [hne, hea]) fun u h' tk hu ho st' hT hsz hk => ?_
    have ru : RelV x u := by
      obtain ⟨u', hu', ru⟩ := rv.get hx
      have : its[i]? = some u := by simpa using hu
      rw [hu'] at this
      cases this
      exact ru
    have hel : e < s.heap.objs.size := Heap.lt_size he
    have hil : it < s.heap.objs.size := by
      obtain ⟨_, q, _⟩ := hit
      exact Heap.lt_size q
    refine ⟨_, rfl, wpAny_letOwnedTupleGo_enum (s := { s with heap := h', toks := tk + 1 }) ho fun h2 he2 sb => ?_⟩
    have hT2 : h2.get? s.heap.objs.size = some { cls := .type "tuple", data := .seq #[.int i tk, u] } := (sb.2 _ (Nat.ne_of_gt hel)).trans hT
    have new : ObjOk X.prog X.w (upd H s.heap.objs.size (.tup [.int (i : Nat), x])) h2 s.heap.objs.size (.tup [.int (i : Nat), x]) :=
      ⟨by show 2 ≤ sizeLine; decide, [.int i tk, u], .cons ⟨_, rfl⟩ (.cons ru .nil), ⟨_, hT2, rfl, _, rfl⟩⟩
    have I1 := I.turnedNew (t' := tk + 1) (ch := [e, it]) (fun b ob hb q => (sb.2 b (fun z => hb (by simp [z]))).trans (hk b ob (fun z => hb (by simp [z])) (fun z => hb (by simp [z])) q)) hf (Nat.le_refl _) new
    refine ⟨.ref s.heap.objs.size, _, I1, rfl, ⟨_, x, rfl, I.hok.fresh (Nat.le_refl _), rfl, fun ys hy => by rw [I.tuple_inj hy hq]; exact hx⟩, ⟨⟨u, ?_⟩, st'.1.at fun o q => (sb.2 it (Ne.symm hne)).trans q, hne⟩, fun b hb => ?_⟩
    · rw [show ((i + 1 : Nat) : Int) = (i : Int) + 1 by omega]
      exact he2
    · have hlt : b < s.heap.objs.size := by
        rcases List.mem_cons.mp hb with rfl | hb
        · exact hel
        · rw [List.mem_singleton.mp hb]
          exact hil
      rw [upd_ne (Nat.ne_of_lt hlt)]
      exact (hf b hb).1
  done := by
    rintro X rfl rfl rfl hc i pins s σ H E I hf ⟨⟨old, he⟩, hit, hne⟩ ⟨xs, hq, hx⟩
    obtain ⟨its, rv, p, hz⟩ := I.tuple hq
    have p' : s.heap.IsTuple a its.toArray := p
    obtain ⟨f0, f1, f2, f3, f4, f5⟩ := hf it (List.mem_cons_of_mem _ List.mem_cons_self)
    have l1 := rv.length
    have en : i = its.toArray.size := by
      simp only [List.size_toArray]
      omega
    have hit' : s.heap.IsTupleIter it a its.toArray.size := en ▸ hit
    have D := Draws.tuple (prog := X.prog) (w := X.w) (A := X.A.in1) (I.ok.hd hc) it a (tup_iter_ne p' hit) its.toArray
    exact wpAny_pyNext_enum_endD D he ⟨hit', p'⟩ fun h' eb => ⟨rfl, I.turned (t' := s.toks) (fun b o hb q => eb b o hb q) f0 f1 f3 f4 f5⟩
  self := fun A i s Q E st h => wpAny_pyIter_enum st.1.choose_spec h
/-- enumerate(xs), xs a list or a tuple -/
def iEnS (K : PySem.W.Frag) (ta : TA) : TI := fun σ H R => ta σ H fun vs H1 => ∃ a, vs = [.ref a] ∧ ((∃ xs, SqL K H1 a xs ∧ R (Ite K a) H1) ∨ (∃ xs, SqT K H1 a xs ∧ R (IteT K a) H1))
theorem pi_enS {X : Cx} {e : Expr} {ta : TA} {p pos tpos : Pos} {elts : List Expr} {kk : Nat} (hg : Gl X "enumerate") (hm : X.mg "enumerate" = none) (ha : PA X [e] ta) (hs : starEach [e] X.env = [(false, eval e X.env)] := by rfl) :
    PI X (.Tuple elts kk tpos) (.Call (.Name "enumerate" p) [e] [] pos) (iEnS X.K ta) := by
  refine ⟨fun pins s σ H R I h => Call_ (ld_blt I hg hm boot_enumerate (PyProof.Rows.callWith_type1 (thn (ha.run pos pins s σ H _ I h) fun us s1 ⟨vs, H1, I1, r1, a, ev, q⟩ => ?_) hs rfl))⟩
  subst ev
  obtain ⟨u, rfl, r⟩ : ∃ u, us = [u] ∧ RelV (.ref a) u := by
    cases r1 with
    | cons r rr => cases rr; exact ⟨_, rfl, r⟩
  cases (show u = Value.ref a from r)
  rcases q with ⟨xs, hq, q⟩ | ⟨xs, hq, q⟩
  · obtain ⟨its, rv, p', hz⟩ := I1.list hq
    refine call_enumerate_list p'.isList fun h' he hit hsz hk => wpAny_pyIter_enum he ?_
    have I2 : Inv X pins σ H1 { s1 with heap := h' } := I1.kept (t' := s1.toks) hk
    refine ⟨s1.heap.objs.size + 1, [s1.heap.objs.size + 1, s1.heap.objs.size], _, _, H1, rfl, I2, turn_enum a _ s1.heap.objs.size, ⟨⟨.none, he⟩, hit, Nat.succ_ne_self _⟩, fun b hb => ?_, q⟩
    have hle : s1.heap.objs.size ≤ b := two_le hb
    exact I1.fpOk hle (I1.hok.fresh hle)
  · obtain ⟨its, rv, p', hz⟩ := I1.tuple hq
    have pt : s1.heap.IsTuple a its.toArray := p'
    generalize ho : ({ cls := .type "tuple_iterator", data := .fields #[.ref a, .int 0 0] } : Obj) = oi
    have hz1 : (s1.heap.push oi).objs.size = s1.heap.objs.size + 1 := Heap.size_push ..
    have kk1 : ∀ b o, s1.heap.get? b = some o → ((s1.heap.push oi).push (enumO s1.heap.objs.size)).get? b = some o := fun b o x => Heap.get?_push_of_some _ (Heap.get?_push_of_some _ x)
    have he : IsEnum ((s1.heap.push oi).push (enumO s1.heap.objs.size)) (s1.heap.objs.size + 1) s1.heap.objs.size ((0 : Nat) : Int) .none := by
      rw [← hz1]
      exact Heap.get?_push_size _ rfl
    have hit : ((s1.heap.push oi).push (enumO s1.heap.objs.size)).IsTupleIter s1.heap.objs.size a 0 := by
      refine ⟨oi, Heap.get?_push_of_some _ (Heap.get?_push_size _ (by rw [← ho]; rfl)), ?_, ?_⟩ <;> rw [← ho] <;> rfl
    have I2 : Inv X pins σ H1 { s1 with heap := (s1.heap.push oi).push (enumO s1.heap.objs.size) } := I1.kept (t' := s1.toks) kk1
    refine call_enum1 (o := oi) (ho ▸ begins_tuple a its.toArray) pt (wpAny_pyIter_enum he ?_)
    refine ⟨s1.heap.objs.size + 1, [s1.heap.objs.size + 1, s1.heap.objs.size], _, _, H1, rfl, I2, turn_enumT a _ s1.heap.objs.size, ⟨⟨.none, he⟩, hit, Nat.succ_ne_self _⟩, fun b hb => ?_, q⟩
    have hle : s1.heap.objs.size ≤ b := two_le hb
    exact I1.fpOk hle (I1.hok.fresh hle)
end Bk

set_option maxHeartbeats 4000000
/-! a dict comprehension whose keys are tuples (of ints and texts): beside the layer's, whose keys are ints and texts -/
namespace Bk
open PySem PySem.Spec PyProof.Rows L2
/-- a comprehension's store, by a key that is a tuple -/
theorem put_tup {X : Cx} {pins : List (Addr × Obj)} {σ : L2.St} {H : Hp} {s : Shared} {E : Value → Shared → Prop} {D b : Addr} {kvs : List (List Key × V)} {k : List Key} {v : V} {u r : Value} {Q : Unit → Shared → Prop} (hu : X.A.units < cLine) (I : Inv X pins σ H s)
    (hD : H D = some (.dT kvs)) (hz : kvs.length < sizeLine) (hb : H b = some (.tup (k.map kV))) (ry : RelV (.ref b) u) (rv : RelV v r) (h : ∀ s', Inv X pins σ (upd H D (.dT (putK kvs k v))) s' → Q () s') : wpAny (model X.prog X.w) X.A (dictSet D u r) Q E s := by
  cases (show u = Value.ref b from ry)
  obtain ⟨z, hd, xs, rel, dd⟩ := dt_of I.hok hD
  have len1 : xs.length ≤ sizeLine := (Paired.length rel) ▸ z
  have len2 := length_putK kvs k v
  refine wpAny_dictSet_heap (hsz := len1) (knd := tupleKind (mixKind X.prog X.w)) hu (key_of I.hok hb) dd fun h' dd' same => h _ ?_
  obtain ⟨q, es, ep, hq, h2, h3, h4, _, h5⟩ := dd'
  refine d_write I (by rw [hD]; exact True.intro) same ⟨q, hq⟩ ⟨by omega, hd, _, (rel.put k hb rv).keeps fun c ys ec => ?_, q, es, ep, hq, h2, h3, h4, h5⟩
  rwa [upd_ne (ne_of ec hD (fun z => nomatch z))]
section
variable {X : Cx}
/-- {k: v for target in iter}, the keys tuples: D the new dict -/
def tDcT (wi : TI) (g : TG) (tk tv : TE) (vs : List Nat) : TE := fun σ H Q => wi σ H fun J H1 => ∀ D, H1 D = none → ∃ W : Nat → Nat → Hp → Prop, (∃ m, W 0 m (upd H1 D (.dT []))) ∧ ∀ i m H, W i m H →
  (J.stop i H ∧ Q (.ref D) H) ∨ (J.go i H ∧ ∃ Nx : Hp → Prop, (∀ H', Nx H' → ∃ m', m' < m ∧ W (i + 1) m' H') ∧ ∀ x H', J.yld i H x H' → g x (wipe σ vs) H' fun σ2 H2 => wipe σ2 vs = wipe σ vs ∧
    tk σ2 H2 fun y H4 => tv σ2 H4 fun z H5 => ∃ kvs k b, y = .ref b ∧ H5 b = some (.tup (k.map kV)) ∧ H5 D = some (.dT kvs) ∧ kvs.length < sizeLine ∧ Nx (upd H5 D (.dT (putK kvs k z))))
theorem pe_dcT {kx vx tg iter : Expr} {scope : Scope} {own : List (Str × Nat)} {pos : Pos} {wi : TI} {g : TG} {tk tv : TE} (hu : X.A.units < cLine) (hc : X.calm = true) (hN : X.N.Nodup) (hi : PI X tg iter wi) (ok : BlkOk X.N X.env.scope scope own)
    (hg : ∀ (s : Shared) (H : Hp) (C : Addr) (cl : List (Str × Addr)) (fp : List Addr), PG (X.blk s H scope (compEnvC scope cl C X.env) fp) tg g)
    (hk : ∀ (s : Shared) (H : Hp) (C : Addr) (cl : List (Str × Addr)) (fp : List Addr), PE (X.blk s H scope (compEnvC scope cl C X.env) fp) kx tk)
    (he : ∀ (s : Shared) (H : Hp) (C : Addr) (cl : List (Str × Addr)) (fp : List Addr), PE (X.blk s H scope (compEnvC scope cl C X.env) fp) vx tv) (hs : ∀ x, foldedSetIterable iter X.env x = pure x := by intro _; rfl) :
    PE X (.DictComp kx vx [⟨tg, iter, [], 0⟩] scope pos) (tDcT wi g tk tv (own.map (·.2))) := by
  refine ⟨fun pins s σ H Q I h => ?_⟩
  rw [arm_eval_DictComp]
  have fr : ∀ y ∈ scope.names, y.2 = .free → ∃ c, X.env.cells.lookup y.1 = some c := fun y hy e => (ok.free y hy e).elim (fun k => I.ok.has _ (.inl k)) fun k => I.ok.has _ (.inr k)
  refine wpAny_comprehension_free rfl hs (closure_ok fr) ok.kind (fun y hy e => by rw [ok.uniq y hy, e]) (thn (hi.run pins s σ H _ I h) fun xv s1 hx => thn hx fun itv s2 h2 => ?_)
  obtain ⟨it, fp, tn, J, H2, rfl, I2, T, st2, f2, q⟩ := h2
  refine wpAny_newObj_type (newEnv_comp ?_)
  -- the new dict stands at D
  obtain ⟨D, hD⟩ : ∃ D, D = s2.heap.objs.size := ⟨_, rfl⟩
  obtain ⟨W, ⟨m0, w0⟩, turn⟩ := q D (I2.hok.fresh (Nat.le_of_eq hD.symm))
  obtain ⟨s3, hs3⟩ : ∃ s3 : Shared, s3 = { s2 with heap := s2.heap.push { cls := .type "dict", data := .dict #[] } } := ⟨_, rfl⟩
  have hh3 : s3.heap = s2.heap.push { cls := .type "dict", data := .dict #[] } := by rw [hs3]
  have k3 : ∀ b o, s2.heap.get? b = some o → s3.heap.get? b = some o := fun b o e => by rw [hh3]; exact Heap.get?_push_of_some _ e
  have I3 : Inv X pins σ (upd H2 D (.dT [])) s3 := by
    subst hs3 hD
    exact I2.laid (t' := s2.toks) (fun b o e => Heap.get?_push_of_some _ e) (Nat.le_refl _) (dt_empty s2.heap I2.big)
  have young : ∀ b ∈ fp, b < s2.heap.objs.size := fun b hb => (T.obj _ _ st2 b hb).elim fun o e => Heap.lt_size e.1
  have f3 : ∀ b ∈ fp, FpOk X pins (upd H2 D (.dT [])) b ∧ b < s3.heap.objs.size := fun b hb => by
    refine ⟨⟨?_, (f2 b hb).2⟩, by rw [hh3, Heap.size_push]; exact Nat.lt_succ_of_lt (young b hb)⟩
    rw [upd_ne (by rw [hD]; exact Nat.ne_of_lt (young b hb))]
    exact (f2 b hb).1
  have st3 : tn 0 s3.heap := T.keep _ _ _ st2 fun b _ => k3 b
  rw [← hs3]
  obtain ⟨H3, hH3⟩ : ∃ H3, H3 = upd H2 D (.dT []) := ⟨_, rfl⟩
  rw [← hH3] at I3 f3 w0
  have I4 := block_start I3 ok hN f3
  let cl := cellsFrom (s3.heap.objs.size + 1) scope.names (cloFrom X.env.cells scope.names [])
  have pg := hg s3 H3 s3.heap.objs.size cl fp
  have pk := hk s3 H3 s3.heap.objs.size cl fp
  have pe := he s3 H3 s3.heap.objs.size cl fp
  show codeAny _ _ (.compStart (.DictComp kx vx [⟨tg, iter, [], 0⟩] scope pos) 0 (.ref it) (.ref s2.heap.objs.size) (compEnvC scope cl s3.heap.objs.size X.env)) (compPost (model X.prog X.w) X.A X.xe none _ (.ref s2.heap.objs.size) s3.heap.objs.size) { s3 with heap := pushCells (s3.heap.push { cls := .type "dict", data := .dict #[] }) scope.names }
  rw [← hD]
  obtain ⟨ce, hce⟩ : ∃ ce, ce = compEnvC scope cl s3.heap.objs.size X.env := ⟨_, rfl⟩
  have cL : ce.locals = s3.heap.objs.size := by rw [hce]; rfl
  have I4' : Inv (X.blk s3 H3 scope ce fp) [] (wipe σ (own.map (·.2))) H3 { s3 with heap := pushCells (s3.heap.push { cls := .type "dict", data := .dict #[] }) scope.names } := by rw [hce]; exact I4
  rw [← hce] at pg pk pe ⊢
  clear I4
  obtain ⟨s4, hs4⟩ : ∃ s4 : Shared, s4 = { s3 with heap := pushCells (s3.heap.push { cls := .type "dict", data := .dict #[] }) scope.names } := ⟨_, rfl⟩
  rw [← hs4] at I4' ⊢
  have st4 : tn 0 s4.heap := T.keep _ _ _ st3 fun b _ o e => by rw [hs4]; exact pushCells_keeps _ _ _ _ (Heap.get?_push_of_some _ e)
  have stat : ∀ {σ' : L2.St} {H' : Hp} {s' : Shared}, Inv (X.blk s3 H3 scope ce fp) [] σ' H' s' → (∀ b ∈ fp, H' b = none) → ∀ b ∈ fp, FpOk (X.blk s3 H3 scope ce fp) [] H' b := fun I' hn b hb =>
    ⟨hn b hb, (I'.ok.exf b hb).1, I'.ok.exfs b hb, .inl hb, fun x c e => (I'.ok.exf b hb).2 x c e, fun p hp => by simp at hp⟩
  suffices loop : codeAny (model X.prog X.w) X.A (.compLoop (.DictComp kx vx [⟨tg, iter, [], 0⟩] scope pos) 0 (.ref it) (.ref D) ce) (compPost (model X.prog X.w) X.A X.xe none (EP X pins σ Q) (.ref D) s3.heap.objs.size) s4 from
    codeAny_compStart_dict loop (T.self X.A 0 _ _ _ st4 loop)
  refine compLoop_anyD (fun n s' => ∃ i H', Inv (X.blk s3 H3 scope ce fp) [] (wipe σ (own.map (·.2))) H' s' ∧ tn i s'.heap ∧ (∀ b ∈ fp, H' b = none) ∧ W i n H') ?_ m0 ⟨0, H3, I4', st4, fun b hb => (f3 b hb).1.1, w0⟩
  rintro n s5 ⟨i, H5, I5, st5, n5, w5⟩
  rcases turn i n H5 w5 with ⟨stop, qq⟩ | ⟨go, Nx, hNx, step⟩
  · refine thnF (T.done (X.blk s3 H3 scope ce fp) rfl rfl rfl hc i [] s5 _ H5 (fun _ _ => False) I5 (stat I5 n5) st5 stop) fun r s6 ⟨hr, I6⟩ => ?_
    subst hr
    have I7 : Inv X pins σ H5 s6 := I3.call' (ch := fp) I6.os I6.base I6.hok I6.bare fun b hb => ⟨(f3 b hb).1.2.2.2.1, (f3 b hb).1.2.1, (f3 b hb).1.2.2.2.2.1, (f3 b hb).1.2.2.2.2.2⟩
    obtain ⟨m, hn, _⟩ := I6.loc
    refine ⟨m, by rw [← cL]; exact hn, fun h'' sb => ?_⟩
    obtain ⟨g0, g1, g2, g3, g4, g5⟩ := I3.fpOk (H' := H5) (Nat.le_refl _) (by rw [← cL]; exact I6.free)
    exact ⟨.ref D, H5, I7.turned (t' := s6.toks) (fun b o hb e => (sb.2 b hb).trans e) g0 g1 g3 g4 g5, rfl, qq⟩
  · refine thnF (T.item (X.blk s3 H3 scope ce fp) rfl rfl rfl hc i [] s5 _ H5 (fun _ _ => False) I5 (stat I5 n5) st5 go) fun r s6 ⟨u, hr, h6⟩ => ?_
    subst hr
    refine thnF h6 fun _ s7 ⟨x, H7, I7, r7, y7, st7, n7⟩ => ?_
    have I7' := I7.pinned (stat I7 n7) (T.obj _ _ st7)
    refine thnF (pg.run _ s7 _ H7 x u _ I7' r7 (step x H7 y7)) fun _ s8 ⟨σ8, H8, I8, hw8, q8⟩ => ?_
    refine wpAny_tests_nil ?_
    simp only [if_true]
    refine thnF (pk.run _ s8 σ8 H8 _ I8 q8) fun z s10 ⟨yk, H10, I10, r10, q10⟩ => ?_
    refine thnF (pe.run _ s10 σ8 H10 _ I10 q10) fun z2 s11 ⟨yv, H11, I11, r11, kvs, k, b, ek, hb11, hD11, hz11, nx⟩ => ?_
    subst ek
    refine put_tup (X := X.blk s3 H3 scope ce fp) hu I11 hD11 hz11 hb11 r10 r11 fun s12 I12 => ?_
    obtain ⟨m', hm, w'⟩ := hNx _ nx
    have pin' : ∀ b ∈ fp, ∀ o, s7.heap.get? b = some o → s12.heap.get? b = some o ∧ (upd H11 D (.dT (putK kvs k yv))) b = none := fun b hb o e =>
      have z := I12.pin (b, o) (List.mem_append_right _ (List.mem_append_right _ (mem_pinsAt hb e)))
      ⟨z.1, z.2.1⟩
    refine ⟨m', hm, i + 1, _, (I12.unpinned (pins := [])).weak (by rw [← hw8, wipe_length]) (fun j v e => ?_), T.keep _ _ _ st7 fun b hb o e => (pin' b hb o e).1, fun b hb => ?_, w'⟩
    · rw [← hw8] at e
      exact (wipe_some e).1
    · obtain ⟨o, e, _⟩ := T.obj _ _ st7 b hb
      exact (pin' b hb o e).2
end
end Bk

namespace Bk
open PySem PySem.Spec PyProof.Rows L2
/-! ### heaps -/
theorem same_upd {H : Hp} {p : Addr} {o : HO} (h : H p = none) : Same H (upd H p o) := fun b x e => by
  rw [upd_ne (ne_of_none e h)]
  exact e
theorem Same.sqt {K : PySem.W.Frag} {H H' : Hp} {a : Addr} {xs : List V} (e : Same H H') (h : SqT K H a xs) : SqT K H' a xs := by
  rcases h with (h | ⟨o, h⟩) | h
  · exact .inl (.inl (e _ _ h))
  · exact .inl (.inr ⟨o, e _ _ h⟩)
  · exact .inr h
/-- a new object grows while all else stays -/
theorem Same.grow {H H' : Hp} {p : Addr} {o : HO} (e : Same H H') (h : H p = none) : Same H (upd H' p o) := fun b x q => by
  rw [upd_ne (ne_of_none q h)]
  exact e b x q
/-- all but the stream is as it was -/
def Kept (st c : Addr) (H H' : Hp) : Prop := ∀ b o, b ≠ st → b ≠ c → H b = some o → H' b = some o
theorem Kept.refl (st c : Addr) (H : Hp) : Kept st c H H := fun _ _ _ _ e => e
theorem Kept.trans {st c : Addr} {H H1 H2 : Hp} (a : Kept st c H H1) (b : Kept st c H1 H2) : Kept st c H H2 := fun x o n m e => b x o n m (a x o n m e)
theorem Same.kept {st c : Addr} {H H' : Hp} (a : Same H H') : Kept st c H H' := fun x o _ _ e => a x o e
/-! ### the stream of drawn numbers: at st, its cells at c; n bounds the draws so far -/
structure Strm (H : Hp) (st c : Addr) (n : Nat) : Prop where
  ne : c ≠ st
  ex : ∃ (cells : List Int) (a k m : Int), H c = some (.lst (cells.map V.int)) ∧ H st = some (.lst [.ref c, .int a, .int k, .int m]) ∧ 0 ≤ a ∧ 0 ≤ k ∧ k ≤ (n : Int) ∧ 0 ≤ m ∧ m < 2147483647
theorem Strm.more {H : Hp} {st c : Addr} {n n' : Nat} (S : Strm H st c n) (h : n ≤ n') : Strm H st c n' := by
  obtain ⟨ne, cells, a, k, m, h1, h2, h3, h4, h5, h6, h7⟩ := S
  exact ⟨ne, cells, a, k, m, h1, h2, h3, h4, by omega, h6, h7⟩
theorem Strm.same {H H' : Hp} {st c : Addr} {n : Nat} (S : Strm H st c n) (h : Same H H') : Strm H' st c n := by
  obtain ⟨ne, cells, a, k, m, h1, h2, h3⟩ := S
  exact ⟨ne, cells, a, k, m, h _ _ h1, h _ _ h2, h3⟩
theorem Strm.notfree {H : Hp} {st c : Addr} {n : Nat} (S : Strm H st c n) {p : Addr} (h : H p = none) : p ≠ st ∧ p ≠ c := by
  obtain ⟨ne, cells, a, k, m, h1, h2, h3⟩ := S
  exact ⟨fun e => (ne_of_none h2 h) e.symm, fun e => (ne_of_none h1 h) e.symm⟩
/-- what was free and is tracked behind is no part of the stream -/
theorem Kept.upd {H H' : Hp} {st c : Addr} {n : Nat} {p : Addr} {o : HO} (S : Strm H st c n) (k : Kept st c H H') (h : H p = none) : Kept st c H (L2.upd H' p o) := fun b x n1 n2 e => by
  rw [upd_ne (ne_of_none e h)]
  exact k b x n1 n2 e
theorem Strm.upd {H : Hp} {st c : Addr} {n : Nat} {p : Addr} {o : HO} (S : Strm H st c n) (h1 : p ≠ st) (h2 : p ≠ c) : Strm (L2.upd H p o) st c n := by
  obtain ⟨ne, cells, a, k, m, e1, e2, e3⟩ := S
  exact ⟨ne, cells, a, k, m, by rw [upd_ne h2.symm]; exact e1, by rw [upd_ne h1.symm]; exact e2, e3⟩
theorem Kept.free {H H' : Hp} {st c p : Addr} (k : Kept st c H H') (h : H' p = none) (n1 : p ≠ st) (n2 : p ≠ c) : H p = none := by
  cases e : H p with
  | none => rfl
  | some o =>
    rw [k p o n1 n2 e] at h
    cases h
theorem Kept.grow {H H' : Hp} {st c p : Addr} {o : HO} (k : Kept st c H H') (h : H p = none) : Kept st c H (L2.upd H' p o) := fun b x n1 n2 e => by
  rw [upd_ne (ne_of_none e h)]
  exact k b x n1 n2 e
/-! ### names that the program's top leaves -/
structure Bi (mg : Str → Option Value) : Prop where
  len : mg "len" = none
  list : mg "list" = none
  tuple : mg "tuple" = none
  isinstance : mg "isinstance" = none
  all : mg "all" = none
  any : mg "any" = none
  zip : mg "zip" = none
  enumerate : mg "enumerate" = none
  range : mg "range" = none
  int : mg "int" = none
  str : mg "str" = none
  bool : mg "bool" = none
  dict : mg "dict" = none
  abs : mg "abs" = none
/-- a def that can be called by its name -/
structure Cal (P : Program) (w : World) (K : PySem.W.Frag) (mg : Str → Option Value) (base : Heap) (CX : CXT) (k : Nat) (x : Str) (f : Addr) (fd : FuncData) (ps : List Str) (sp : Sp) : Prop where
  ok : FnOk P w K mg base CX k f fd ps sp
  g : mg x = some (.ref f)
  kp : PySem.W.keepIn K (.ref f) = true
  b : Binds K fd ps []
/-! ### what is a name -/
def lettersL : List Nat := (Str.ofString "abcdefghijklmnopqrstuvwxyz").cps.toList
theorem letters_mem (c : Nat) : c ∈ lettersL ↔ 97 ≤ c ∧ c ≤ 122 := by
  rw [show lettersL = List.range' 97 26 by decide +kernel, List.mem_range'_1]
  omega
def isNameS (z : Str) : Bool := decide (1 ≤ z.length) && decide (z.length ≤ 8) && z.cps.toList.all fun c => decide (c ∈ lettersL)
def isNameB : V → Bool
  | .str z => isNameS z
  | _ => false
def isStr : V → Bool
  | .str _ => true
  | _ => false
/-- any object, as far as isinstance with str asks -/
def Itm (K : PySem.W.Frag) (H : Hp) (x : V) : Prop := ∃ t, TyX K H x t ∧ PySem.W.kitOne K t (.type "str") = some (isStr x) ∧ ∀ z, x = .str z → z.length ≤ 100000
/-- any object, as far as isinstance with (list, tuple) asks: b tells whether it is one of them -/
def Sqs (K : PySem.W.Frag) (H : Hp) (x : V) (b : Bool) : Prop := ∃ t, TyX K H x t ∧ PySem.W.kitAny K t [.type "list", .type "tuple"] = some b
theorem Itm.str {K : PySem.W.Frag} {H : Hp} {z : Str} (h : z.length ≤ 100000) : Itm K H (.str z) := ⟨.type "str", .base (.str z), kit_ty (show kitB "str" "str" = some true by decide +kernel), fun _ e => by cases e; exact h⟩
theorem TyX.same {K : PySem.W.Frag} {H H' : Hp} {x : V} {t : Value} (h : TyX K H x t) (e : Same H H') : TyX K H' x t := by
  cases h with
  | base b =>
    cases b with
    | non => exact .base .non
    | bl y => exact .base (.bl y)
    | int i => exact .base (.int i)
    | str y => exact .base (.str y)
    | flt y => exact .base (.flt y)
    | lst q => exact .base (.lst (e _ _ q))
    | frz q => exact .base (.frz (e _ _ q))
    | tup q => exact .base (.tup (e _ _ q))
    | dK q => exact .base (.dK (e _ _ q))
    | dT q => exact .base (.dT (e _ _ q))
    | ins q c1 c2 c3 c4 c5 => exact .base (.ins (e _ _ q) c1 c2 c3 c4 c5)
  | byt b => exact .byt b
  | set q => exact .set (e _ _ q)
  | kList q c => exact .kList q c
  | kTuple q c => exact .kTuple q c
  | kDict q c => exact .kDict q c
  | fTuple q => exact .fTuple (e _ _ q)
  | fDict q => exact .fDict (e _ _ q)
/-! ### promises -/
def spStart (K : PySem.W.Frag) : Sp := fun vs H Q _ => ∃ (a : Addr) (ns : List Int), vs = [.ref a] ∧ SqL K H a (ns.map V.int) ∧
  ∀ (st c : Addr) (H' : Hp), Same H H' → H st = none → H c = none → Strm H' st c 0 → Q (.ref st) H'
def spDraw : Sp := fun vs H Q _ => ∃ (st c : Addr) (n : Nat) (k : Int), vs = [.ref st, .int k] ∧ Strm H st c n ∧ n ≤ 1000000 ∧ 0 < k ∧ k < 1000000 ∧
  ∀ (d : Int) (H' : Hp), 0 ≤ d → d < k → Strm H' st c (n + 1) → Kept st c H H' → Q (.int d) H'
/-- what one may pick from: a list, a tuple, a text -/
inductive Pk (K : PySem.W.Frag) (H : Hp) (st c : Addr) : V → Nat → (Nat → V) → Prop where
  | lst {a : Addr} {xs : List V} {f : Nat → V} (h : SqL K H a xs) (n1 : a ≠ st) (n2 : a ≠ c) (e : ∀ j, j < xs.length → xs[j]? = some (f j)) : Pk K H st c (.ref a) xs.length f
  | tup {a : Addr} {xs : List V} {f : Nat → V} (h : SqT K H a xs) (n1 : a ≠ st) (n2 : a ≠ c) (e : ∀ j, j < xs.length → xs[j]? = some (f j)) : Pk K H st c (.ref a) xs.length f
  | str {z : Str} {f : Nat → V} (hz : z.length ≤ sizeLine) (e : ∀ j, j < z.length → ∃ ch, z.cps.toList[j]? = some ch ∧ f j = .str ⟨#[ch]⟩) : Pk K H st c (.str z) z.length f
def spPick (K : PySem.W.Frag) : Sp := fun vs H Q _ => ∃ (st c : Addr) (n len : Nat) (x : V) (f : Nat → V), vs = [.ref st, x] ∧ Strm H st c n ∧ n ≤ 1000000 ∧ 0 < len ∧ len < 1000000 ∧ Pk K H st c x len f ∧
  ∀ (j : Nat) (H' : Hp), j < len → Strm H' st c (n + 1) → Kept st c H H' → Q (f j) H'
def spIsList (K : PySem.W.Frag) : Sp := fun vs H Q _ => ∃ (x : V) (b : Bool), vs = [x] ∧ Sqs K H x b ∧ ∀ H', Same H H' → Q (.bl b) H'
def spIsName (K : PySem.W.Frag) : Sp := fun vs H Q _ => ∃ x : V, vs = [x] ∧ Itm K H x ∧ ∀ H', Same H H' → Q (.bl (isNameB x)) H'
def spName : Sp := fun vs H Q _ => ∃ (st c : Addr) (n : Nat), vs = [.ref st] ∧ Strm H st c n ∧ n ≤ 900000 ∧
  ∀ (z : Str) (H' : Hp), isNameS z = true → Strm H' st c (n + 9) → Kept st c H H' → Q (.str z) H'
def spNames (K : PySem.W.Frag) : Sp := fun vs H Q _ => ∃ (st c : Addr) (n many : Nat), vs = [.ref st, .int (many : Int)] ∧ Strm H st c n ∧ n ≤ 800000 ∧ many ≤ 16 ∧
  ∀ (l : Addr) (zs : List Str) (H' : Hp), H l = none → zs.length = many → zs.Nodup → (∀ z ∈ zs, isNameS z = true) → Strm H' st c (n + 200) → Kept st c H H' → H' l = some (.lst (zs.map V.str)) → Q (.ref l) H'
theorem dp_ints {K : PySem.W.Frag} {H : Hp} : ∀ l : List Int, DpAll K H (l.map V.int) (l.map PyData.int)
  | [] => .nil
  | x :: r => .cons (.int x) (dp_ints r)
theorem lay_ints : ∀ l : List Int, PyData.canLayAll0 (l.map PyData.int) = true
  | [] => by simp [PyData.canLayAll0]
  | x :: r => by
    have := lay_ints r
    simp [PyData.canLayAll0, PyData.canLay0, this]
theorem depth_ints : ∀ l : List Int, PyData.depthAll (l.map PyData.int) = 0
  | [] => by simp [PyData.depthAll]
  | x :: r => by
    have := depth_ints r
    simp [PyData.depthAll, PyData.depth, this]
theorem shaped_ints (l : List Int) : SeqAt.shaped (.list (l.map PyData.int)) = true := by
  have h1 := lay_ints l
  have h2 := depth_ints l
  simp [SeqAt.shaped, PyData.canLay0, PyData.depth, h1, h2]
theorem eqv_nil (l : List Int) : PyData.eqv (.list (l.map PyData.int)) (.list []) = l.isEmpty := by
  cases l <;> simp [PyData.eqv, PyData.eqvAll]
theorem yes2 {σ : L2.St} {H : Hp} {A B : Hp → Prop} (h : A H) : tYes σ H (fun b H3 => if b = true then A H3 else B H3) := by
  show (if true = true then A H else B H)
  rw [if_pos rfl]
  exact h
theorem take_succ_map {α β : Type} {l : List α} {f : α → β} {i : Nat} {x : α} (h : l[i]? = some x) : (l.take (i + 1)).map f = (l.take i).map f ++ [f x] := by
  obtain ⟨h1, rfl⟩ := List.getElem?_eq_some_iff.mp h
  rw [List.take_add_one, h, List.map_append]
  rfl
/-- the first turns of a comprehension that keeps each item -/
structure Upto {α : Type} (H : Hp) (D : Addr) (l : List α) (f : α → V) (i : Nat) (H' : Hp) : Prop where
  sm : Same H H'
  at_ : H' D = some (.lst ((l.take i).map f))
theorem Upto.zero {α : Type} {H : Hp} {D : Addr} {l : List α} {f : α → V} (h : H D = none) : Upto H D l f 0 (upd H D (.lst [])) := ⟨same_upd h, upd_same⟩
theorem Upto.next {α : Type} {H H' H2 : Hp} {D : Addr} {l : List α} {f : α → V} {i : Nat} {x : α} (u : Upto H D l f i H') (nD : H D = none) (hx : l[i]? = some x) (s2 : Same H' H2) (hl : l.length ≤ 100000) :
    ∃ acc, H2 D = some (.lst acc) ∧ acc.length < sizeLine ∧ Upto H D l f (i + 1) (upd H2 D (.lst (acc ++ [f x]))) := by
  have hi := (List.getElem?_eq_some_iff.mp hx).1
  refine ⟨_, s2 _ _ u.at_, Evl.sz_lt ?_, Same.grow (u.sm.trans s2) nD, ?_⟩
  · rw [List.length_map, List.length_take]
    omega
  · rw [upd_same, take_succ_map hx]
theorem Upto.all {α : Type} {H H' : Hp} {D : Addr} {l : List α} {f : α → V} {n : Nat} (u : Upto H D l f n H') (e : n = l.length) : H' D = some (.lst (l.map f)) := by
  rw [u.at_, e, List.take_length]
theorem inV_strs (z : Str) : ∀ zs : List Str, inV (.str z) (zs.map V.str) = decide (z ∈ zs)
  | [] => rfl
  | x :: r => by
    have ih := inV_strs z r
    unfold inV at ih ⊢
    rw [List.map_cons, List.any_cons, ih]
    show ((x == z) || decide (z ∈ r)) = decide (z ∈ x :: r)
    by_cases e : x = z
    · subst e
      simp
    · have e2 : ¬ z = x := fun q => e q.symm
      rw [beq_eq_false_iff_ne.mpr e, Bool.false_or]
      simp [e2]
theorem flat_strs : ∀ zs : List Str, (zs.map V.str).all flatV = true
  | [] => rfl
  | x :: r => by
    rw [List.map_cons, List.all_cons, flat_strs r]
    rfl
theorem pigeon {α : Type} [DecidableEq α] : ∀ (a b : List α), a.Nodup → (∀ x ∈ a, x ∈ b) → a.length ≤ b.length
  | [], _, _, _ => Nat.zero_le _
  | x :: r, b, hn, hs => by
    have hx := hs x List.mem_cons_self
    obtain ⟨n1, n2⟩ := List.nodup_cons.mp hn
    have ih := pigeon r (b.erase x) n2 fun y hy => (List.mem_erase_of_ne (fun (e : y = x) => n1 (e ▸ hy))).mpr (hs y (List.mem_cons_of_mem _ hy))
    rw [List.length_erase_of_mem hx] at ih
    have : 0 < b.length := List.length_pos_of_mem hx
    rw [List.length_cons]
    omega
/-- the first turns of a comprehension that keeps some items -/
structure UptoF {α : Type} (H : Hp) (D : Addr) (l : List α) (f : α → V) (p : α → Bool) (i : Nat) (H' : Hp) : Prop where
  sm : Same H H'
  at_ : H' D = some (.lst (((l.take i).filter p).map f))
theorem UptoF.zero {α : Type} {H : Hp} {D : Addr} {l : List α} {f : α → V} {p : α → Bool} (h : H D = none) : UptoF H D l f p 0 (upd H D (.lst [])) := ⟨same_upd h, upd_same⟩
theorem take_succ {α : Type} {l : List α} {i : Nat} {x : α} (h : l[i]? = some x) : l.take (i + 1) = l.take i ++ [x] := by
  rw [List.take_add_one, h]
  rfl
theorem UptoF.yes {α : Type} {H H' H2 : Hp} {D : Addr} {l : List α} {f : α → V} {p : α → Bool} {i : Nat} {x : α} (u : UptoF H D l f p i H') (nD : H D = none) (hx : l[i]? = some x) (hp : p x = true) (s2 : Same H' H2) (hl : l.length ≤ 100000) :
    ∃ acc, H2 D = some (.lst acc) ∧ acc.length < sizeLine ∧ UptoF H D l f p (i + 1) (upd H2 D (.lst (acc ++ [f x]))) := by
  have hi := (List.getElem?_eq_some_iff.mp hx).1
  refine ⟨_, s2 _ _ u.at_, Evl.sz_lt ?_, Same.grow (Same.trans u.sm s2) nD, ?_⟩
  · have := List.length_filter_le p (l.take i)
    rw [List.length_map]
    rw [List.length_take] at this
    omega
  · rw [upd_same, take_succ hx, List.filter_append, List.map_append, List.filter_cons_of_pos hp]
    rfl
theorem UptoF.no {α : Type} {H H' H2 : Hp} {D : Addr} {l : List α} {f : α → V} {p : α → Bool} {i : Nat} {x : α} (u : UptoF H D l f p i H') (hx : l[i]? = some x) (hp : p x = false) (s2 : Same H' H2) : UptoF H D l f p (i + 1) H2 :=
  ⟨Same.trans u.sm s2, by rw [take_succ hx, List.filter_append, List.filter_cons_of_neg (by rw [hp]; exact Bool.false_ne_true), List.filter_nil, List.append_nil]; exact s2 _ _ u.at_⟩
theorem UptoF.all {α : Type} {H H' : Hp} {D : Addr} {l : List α} {f : α → V} {p : α → Bool} {n : Nat} (u : UptoF H D l f p n H') (e : n = l.length) : H' D = some (.lst ((l.filter p).map f)) := by
  rw [u.at_, e, List.take_length]
/-! ### the layer's rules with K told (within a comprehension's block the reading may not speak of the block) -/
section
variable {X : Cx} (K : PySem.W.Frag)
theorem kIn (e : X.K = K := by rfl) : OpR X (compareOp .In) (rIn K false) := e ▸ op_in_seq
theorem kNotIn (e : X.K = K := by rfl) : OpR X (compareOp .NotIn) (rIn K true) := e ▸ op_notIn_seq
theorem kEqD (hu : X.A.units + 64 < cLine) (e : X.K = K := by rfl) : OpR X (compareOp .Eq) (rEqD K) := e ▸ op_eqD hu
theorem kNeD (hu : X.A.units + 64 < cLine) (e : X.K = K := by rfl) : OpR X (compareOp .NotEq) (rNeD K) := e ▸ op_neD hu
theorem kCatA (e : X.K = K := by rfl) : OpR X (binaryOp .Add) (rCatA K) := e ▸ op_catA
theorem kIxL (e : X.K = K := by rfl) : IxR X (rIxL K) := e ▸ ix_list
theorem kIxT (e : X.K = K := by rfl) : IxR X (rIxT K) := e ▸ ix_tup
theorem kIx (e : X.K = K := by rfl) : IxR X (rIx K) := e ▸ ix_seq
theorem kSlL (e : X.K = K := by rfl) : SlR X (rSlL K) := e ▸ sl_list
theorem kSlT (e : X.K = K := by rfl) : SlR X (rSlA K) := e ▸ sl_tupA
/-- len of a text, a list, a tuple -/
def rLn (K : PySem.W.Frag) : List V → Hp → VK → Prop := fun xs H Q => ∃ x n, xs = [x] ∧ LenV K x H n ∧ Q (.int n) H
theorem kLen (e : X.K = K := by rfl) : CallR X (.builtin "len") (rLn K) := e ▸ call_len
def rLs (K : PySem.W.Frag) : List V → Hp → VK → Prop := fun xs H Q => ∃ p ys, xs = [.ref p] ∧ (SqL K H p ys ∨ SqT K H p ys) ∧ ∀ l, H l = none → Q (.ref l) (upd H l (.lst ys))
theorem kList (e : X.K = K := by rfl) : CallR X (.type "list") (rLs K) := e ▸ call_list_of
theorem kAll (hc : X.calm = true) (e : X.K = K := by rfl) : CallR X (.builtin "all") (rAll K) := e ▸ cr_all hc
theorem kAny (hc : X.calm = true) (e : X.K = K := by rfl) : CallR X (.builtin "any") (rAny K) := e ▸ cr_any hc
theorem kIsi (e : X.K = K := by rfl) : CallR X (.builtin "isinstance") (rIsi K) := e ▸ call_isi
theorem kIsiT (e : X.K = K := by rfl) : CallR X (.builtin "isinstance") (rIsiT K) := e ▸ call_isiT
theorem kTupleOf {a : Expr} {ta : TE} {p pos : Pos} (hg : Gl X "tuple") (hm : X.mg "tuple" = none) (ha : PE X a ta) (e : X.K = K := by rfl) (na : starEach [a] X.env = (false, eval a X.env) :: starEach [] X.env := by rfl) : PE X (.Call (.Name "tuple" p) [a] [] pos) (tThen ta (kTup K)) := e ▸ pe_tupleOf hg hm ha na
theorem kTg (n : Nat) {es : List Expr} {k : Nat} {t : TGs} {pos : Pos} (hc : X.calm = true) (h : PGs X es t) (e : X.K = K := by rfl) (hn : (assignEach es X.env).length = n := by rfl) (hst : (assignEach es X.env).findIdx? (·.1) = none := by rfl) :
    PG X (.Tuple es k pos) (gTup K n t) := e ▸ pg_tup hc h hn hst
theorem kPiL {tg l : Expr} {tl : TE} (hl : PE X l tl) (e : X.K = K := by rfl) : PI X tg l (iList K tl) := e ▸ pi_list hl
theorem kPiT {tg l : Expr} {tl : TE} (hl : PE X l tl) (e : X.K = K := by rfl) : PI X tg l (iTup K tl) := e ▸ pi_tup hl
theorem kPiE {e1 : Expr} {ta : TA} {p pos tpos : Pos} {elts : List Expr} {kk : Nat} (hg : Gl X "enumerate") (hm : X.mg "enumerate" = none) (ha : PA X [e1] ta) (e : X.K = K := by rfl) (hs : starEach [e1] X.env = [(false, eval e1 X.env)] := by rfl) :
    PI X (.Tuple elts kk tpos) (.Call (.Name "enumerate" p) [e1] [] pos) (iEnS K ta) := e ▸ pi_enS hg hm ha hs
theorem kPiZ {e1 e2 : Expr} {ta : TA} {p pos tpos : Pos} {elts : List Expr} {kk : Nat} (hg : Gl X "zip") (hm : X.mg "zip" = none) (ha : PA X [e1, e2] ta) (e : X.K = K := by rfl)
    (hs : starEach [e1, e2] X.env = (false, eval e1 X.env) :: starEach [e2] X.env := by rfl) (hpl : (backTo pos (starEach [e2] X.env)).any (·.1) = false := by rfl) :
    PI X (.Tuple elts kk tpos) (.Call (.Name "zip" p) [e1, e2] [] pos) (RZ.iZipA K ta) := e ▸ RZ.pi_zipA hg hm ha hs hpl
end
end Bk

namespace Bk
open PySem PySem.Spec PyProof.Rows L2
def topS (i : Nat) : Stmt := PySem.Challenge.pw_blockshares_k07_whole_questions_in_all_s.main.body.getD i (.Pass ⟨0, 0, 0, 0⟩)
section
variable {P : Program} {w : World} {K : PySem.W.Frag} {mg : Str → Option Value} {base : Heap}
theorem scIsList : FnScope ["thing"] ["thing"] (defScope (topS 16)) := ⟨rfl, rfl, rfl, by decide +kernel, rfl, by decide +kernel, by decide +kernel⟩
theorem ok_is_list (B : Bi mg) {f : Addr} {fd : FuncData} (F : Fun K "is_list" "is_list" (topS 16) f fd) : FnOk P w K mg base CX0 1 f fd ["thing"] (spIsList K) := by
  refine F.ok scIsList (fun vs H Q E h => ?_) (fun cdv A outer s H vs Q E hr h => ?_)
  · obtain ⟨x, b, rfl, _⟩ := h
    rfl
  · obtain ⟨x, b, rfl, ⟨t, ty, kk⟩, q⟩ := h
    have nd := scIsList.nd
    refine ⟨_, (pss_one (ps_ret (pe_callB (kIsiT K) (by rfl) B.isinstance (by decide +kernel) (pa_cons (pv 0) (pa_cons (pe_tup (pa_cons (pe_bltn (v := .ty "list") (by rfl) B.list (by decide +kernel) rfl) (pa_cons (pe_bltn (v := .ty "tuple") (by rfl) B.tuple (by decide +kernel) rfl) pa_nil))) pa_nil))))), ?_⟩
    refine ⟨_, rfl, by show 2 ≤ sizeLine; decide, fun p np => ?_⟩
    have ty' : TyX K (upd H p (.tup [.ty "list", .ty "tuple"])) x t := TyX.same ty (same_upd np)
    exact ⟨x, p, _, t, _, b, rfl, upd_same, .cons (.ty _) (.cons (.ty _) .nil), ty', kk, q _ (same_upd np)⟩
theorem scIsName : FnScope ["thing", "letter"] ["thing"] (defScope (topS 17)) := ⟨rfl, rfl, rfl, by decide +kernel, rfl, by decide +kernel, by decide +kernel⟩
theorem ok_is_name (B : Bi mg) {f : Addr} {fd : FuncData} {t1 t2 : Tok} (g_LETTERS : mg "LETTERS" = some (.str (Str.ofString "abcdefghijklmnopqrstuvwxyz") t1)) (g_LONGEST_NAME : mg "LONGEST_NAME" = some (.int 8 t2)) (F : Fun K "is_name" "is_name" (topS 17) f fd) : FnOk P w K mg base CX0 1 f fd ["thing"] (spIsName K) := by
  refine F.ok scIsName (fun vs H Q E h => ?_) (fun cdv A outer s H vs Q E hr h => ?_)
  · obtain ⟨x, rfl, _⟩ := h
    rfl
  · obtain ⟨x, rfl, ⟨t, ty, kk, hz⟩, q⟩ := h
    have nd := scIsName.nd
    refine ⟨_, (pss_cons (ps_if (PW.pt (pw_or (pt_not (pt_val (pe_callB (kIsi K) (by rfl) B.isinstance (by decide +kernel) (pa_cons (pv 0) (pa_cons (pe_bltn (v := .ty "str") (by rfl) B.str (by decide +kernel) rfl) pa_nil))))) (pw_or1 (pt_not (pt_chain op_le op_le pe_int (pe_callB (kLen K) (by rfl) B.len PySem.boot_len (pa_cons (pv 0) pa_nil)) (pe_glob (v := .int 8) (by rfl) g_LONGEST_NAME ⟨_, rfl⟩)))))) (pss_one (ps_ret pe_bl)) pss_nil)
      (pss_one (ps_ret (pe_callB (kAll K rfl) (by rfl) B.all (by decide +kernel) (pa_cons (pe_lc (own := [("letter", 1)]) rfl nd (pi_str (pv 0)) (blkOk_by (N := ["thing", "letter"]) (sc := defScope (topS 17)) (by decide +kernel)) (fun _ _ _ _ _ => (pg_name (i := 1) nd rfl (Or.inl rfl))) (fun _ _ _ _ _ => pts_nil) (fun _ _ _ _ _ => (pe_cmpR op_in_sign (pv 1) (pe_glob (v := .str (Str.ofString "abcdefghijklmnopqrstuvwxyz")) (by rfl) g_LETTERS ⟨_, rfl⟩) rfl))) pa_nil))))), ?_⟩
    refine ⟨_, rfl, x, _, t, _, _, rfl, .ty _, ty, kk, _, rfl, ?_⟩
    cases x with
    | str z =>
      refine iteF ?_
      have hz1 : z.length ≤ sizeLine := Evl.sz_of (hz z rfl)
      refine ⟨_, rfl, _, _, rfl, ⟨hz1, rfl⟩, _, _, rfl, rfl, _, rfl, ?_⟩
      refine ite2 (fun h1 => ?_) (fun h1 => ?_)
      · refine ⟨_, _, rfl, rfl, _, rfl, ?_⟩
        refine ite2 (fun h2 => ?_) (fun h2 => ?_)
        · have e : isNameB (.str z) = false := by
            have h2 : ¬ z.length ≤ 8 := by
              intro h3
              have : decide ((z.length : Int) ≤ 8) = true := decide_eq_true (by omega)
              rw [this] at h2
              cases h2
            simp [isNameB, isNameS, h2]
          rw [e] at q
          exact q _ (Same.refl _)
        · have e : isNameB (.str z) = (z.cps.toList.map fun c => decide (c ∈ lettersL)).all id := by
            have h1 := of_decide_eq_true h1
            have h2 : z.length ≤ 8 := by
              by_cases h3 : (z.length : Int) ≤ 8
              · omega
              · rw [decide_eq_false h3] at h2
                exact (h2 rfl).elim
            simp [isNameB, isNameS, h2, show 1 ≤ z.length by omega]
          refine ⟨_, rfl, z, rfl, fun D nD => lc_it walk_str (Upto H D z.cps.toList fun c => V.bl (decide (c ∈ lettersL))) (.zero nD) (fun _ _ _ _ => trivial) ?_ ?_⟩
          · rintro i x H1 H2 hi u ⟨rfl, c, hc, rfl⟩
            have hc' : z.cps.toList[i]? = some c := by rw [← hc]; simp
            refine ⟨rfl, ?_⟩
            refine yes2 ?_
            exact ⟨_, rfl, c, _, rfl, rfl, u.next nD hc' (Same.refl _) (hz z rfl)⟩
          · intro H1 u
            have hD := u.all (by simp)
            rw [e] at q
            exact ⟨D, z.cps.toList.map fun c => decide (c ∈ lettersL), rfl, .of (by rw [List.map_map]; exact hD), q _ u.sm⟩
      · refine ⟨_, rfl, ?_⟩
        refine iteT ?_
        have e : isNameB (.str z) = false := by
          have h1 : ¬ 1 ≤ z.length := by
            intro h3
            exact h1 (decide_eq_true (by omega))
          simp [isNameB, isNameS, h1]
        rw [e] at q
        exact q _ (Same.refl _)
    | _ => exact iteT (iteT (q _ (Same.refl _)))
end
end Bk

namespace Bk
open PySem PySem.Spec PyProof.Rows L2
section
variable {K : PySem.W.Frag}
/-! ### walks -/
theorem walk_enumT {a : Addr} {xs : List V} : Walk (IteT K a) xs.length (fun H => SqT K H a xs) (YPair (fun i => some (.int (i : Nat))) (fun i => xs[i]?)) := by
  refine ⟨fun i _ hi q => ⟨xs, xs[i], q, by simp [hi]⟩, fun _ q => ⟨xs, q, rfl⟩, fun i H v H' _ q y => ?_⟩
  obtain ⟨T, x, h1, h2, h3, h4⟩ := y
  exact ⟨T, .int (i : Nat), x, h1, h2, h3, rfl, h4 xs q⟩
/-- enumerate of a list or a tuple: whichever it is -/
theorem enS_of {a : Addr} {xs : List V} {H : Hp} {R : It → Hp → Prop} (hS : SqL K H a xs ∨ SqT K H a xs)
    (h : ∀ (J : It) (G : Hp → Prop), Walk J xs.length G (YPair (fun i => some (.int (i : Nat))) (fun i => xs[i]?)) → (∀ H', Same H H' → G H') → R J H) :
    (∃ ys, SqL K H a ys ∧ R (Ite K a) H) ∨ (∃ ys, SqT K H a ys ∧ R (IteT K a) H) := by
  rcases hS with hS | hS
  · exact .inl ⟨xs, hS, h _ _ walk_enum fun H' e => e.seq hS⟩
  · exact .inr ⟨xs, hS, h _ _ walk_enumT fun H' e => Same.sqt e hS⟩
/-- for at, x in enumerate(xs), xs in the slot i: a list or a tuple -/
theorem for_enS {i : Nat} {a : Addr} {xs : List V} {g : TG} {tb : TS} {D : Ends} {σ : L2.St} {H : Hp} (hv : σ[i]? = some (some (.ref a))) (hS : SqL K H a xs ∨ SqT K H a xs) (Pv : Nat → L2.St → Hp → Prop) (h0 : Pv 0 σ H) (hG : ∀ k σ' H', Pv k σ' H' → Same H H')
    (hs : ∀ k x σ' H' H2, k < xs.length → Pv k σ' H' → YPair (fun j => some (.int (j : Nat))) (fun j => xs[j]?) k H' x H2 → g x σ' H2 fun σ2 H3 => tb { D with nx := Pv (k + 1), ct := Pv (k + 1), bk := D.nx } σ2 H3) (hd : ∀ σ' H', Pv xs.length σ' H' → D.nx σ' H') :
    tFor (iEnS K (tCons (tVar i) tNil)) g tb D σ H :=
  ⟨_, hv, a, rfl, enS_of (R := fun J H1 => ∃ W : Nat → Nat → L2.St → Hp → Prop, (∃ m, W 0 m σ H1) ∧ ∀ i m σ H, W i m σ H →
      (J.stop i H ∧ D.nx σ H) ∨ (J.go i H ∧ ∃ N : L2.St → Hp → Prop, (∀ σ' H', N σ' H' → ∃ m', m' < m ∧ W (i + 1) m' σ' H') ∧ ∀ x H', J.yld i H x H' → g x σ H' fun σ2 H2 => tb { D with nx := N, ct := N, bk := D.nx } σ2 H2))
    hS fun J G wk kG => for_it wk Pv h0 (fun k σ' H' _ p => kG H' (hG k σ' H' p)) hs hd⟩
section
variable {J : It} {n : Nat} {G : Hp → Prop} {Y : Nat → Hp → V → Hp → Prop}
/-- the inner walk of a comprehension with two fors -/
theorem inner_it (w : Walk J n G Y) {g1 : TG} {tt1 : TT} {te : TE} {σ2 : L2.St} {vs1 : List Nat} {D : Addr} {Nx : Hp → Prop} {H0 : Hp} (Pw : Nat → Hp → Prop) (h0 : Pw 0 H0) (hG : ∀ j H, j ≤ n → Pw j H → G H)
    (hs : ∀ j x H H', j < n → Pw j H → Y j H x H' → g1 x (wipe σ2 vs1) H' fun σ3 H5 => wipe σ3 vs1 = wipe σ2 vs1 ∧ tt1 σ3 H5 fun b H6 =>
      if b = true then te σ3 H6 fun y H7 => ∃ acc, H7 D = some (.lst acc) ∧ acc.length < sizeLine ∧ Pw (j + 1) (upd H7 D (.lst (acc ++ [y]))) else Pw (j + 1) H6) (hd : ∀ H, Pw n H → Nx H) :
    ∃ W1 : Nat → Nat → Hp → Prop, (∃ m, W1 0 m H0) ∧ ∀ j k H, W1 j k H →
      (J.stop j H ∧ Nx H) ∨ (J.go j H ∧ ∃ Nx1 : Hp → Prop, (∀ H', Nx1 H' → ∃ k', k' < k ∧ W1 (j + 1) k' H') ∧ ∀ x H', J.yld j H x H' → g1 x (wipe σ2 vs1) H' fun σ3 H5 => wipe σ3 vs1 = wipe σ2 vs1 ∧ tt1 σ3 H5 fun b H6 =>
        if b = true then te σ3 H6 fun y H7 => ∃ acc, H7 D = some (.lst acc) ∧ acc.length < sizeLine ∧ Nx1 (upd H7 D (.lst (acc ++ [y]))) else Nx1 H6) := by
  refine ⟨fun j k H => k = n - j ∧ j ≤ n ∧ Pw j H, ⟨n, rfl, Nat.zero_le _, h0⟩, ?_⟩
  rintro j k H ⟨rfl, hj, p⟩
  rcases Nat.lt_or_ge j n with hlt | hge
  · exact .inr ⟨w.goes j H hlt (hG j H hj p), Pw (j + 1), fun H' p' => ⟨n - (j + 1), by omega, rfl, hlt, p'⟩, fun x H' y => hs j x H H' hlt p (w.yields j H x H' hlt (hG j H hj p) y)⟩
  · obtain rfl : j = n := by omega
    exact .inl ⟨w.stops H (hG j H hj p), hd H p⟩
/-- the outer walk -/
theorem outer_it (w : Walk J n G Y) {g : TG} {tt : TT} {σ : L2.St} {vs : List Nat} {H1 : Hp} {D : Addr} {Qd : Hp → Prop} {In : L2.St → Hp → (Hp → Prop) → Prop} (Pv : Nat → Hp → Prop) (h0 : Pv 0 (upd H1 D (.lst []))) (hG : ∀ i H, i ≤ n → Pv i H → G H)
    (hs : ∀ i x H H', i < n → Pv i H → Y i H x H' → g x (wipe σ vs) H' fun σ2 H2 => wipe σ2 vs = wipe σ vs ∧ tt σ2 H2 fun b H3 => if b = true then In σ2 H3 (Pv (i + 1)) else Pv (i + 1) H3) (hd : ∀ H, Pv n H → Qd H) :
    ∃ W : Nat → Nat → Hp → Prop, (∃ m, W 0 m (upd H1 D (.lst []))) ∧ ∀ i m H, W i m H →
      (J.stop i H ∧ Qd H) ∨ (J.go i H ∧ ∃ Nx : Hp → Prop, (∀ H', Nx H' → ∃ m', m' < m ∧ W (i + 1) m' H') ∧ ∀ x H', J.yld i H x H' → g x (wipe σ vs) H' fun σ2 H2 => wipe σ2 vs = wipe σ vs ∧ tt σ2 H2 fun b H3 =>
        if b = true then In σ2 H3 Nx else Nx H3) := by
  refine ⟨fun i m H => m = n - i ∧ i ≤ n ∧ Pv i H, ⟨n, rfl, Nat.zero_le _, h0⟩, ?_⟩
  rintro i m H ⟨rfl, hi, p⟩
  rcases Nat.lt_or_ge i n with hlt | hge
  · exact .inr ⟨w.goes i H hlt (hG i H hi p), Pv (i + 1), fun H' p' => ⟨n - (i + 1), by omega, rfl, hlt, p'⟩, fun x H' y => hs i x H H' hlt p (w.yields i H x H' hlt (hG i H hi p) y)⟩
  · obtain rfl : i = n := by omega
    exact .inl ⟨w.stops H (hG i H hi p), hd H p⟩
/-- a dict comprehension by tuples -/
theorem dcT_it (w : Walk J n G Y) {g : TG} {tk tv : TE} {vs : List Nat} {σ : L2.St} {H1 : Hp} {D : Addr} {Qd : Hp → Prop} (Pv : Nat → Hp → Prop) (h0 : Pv 0 (upd H1 D (.dT []))) (hG : ∀ i H, i ≤ n → Pv i H → G H)
    (hs : ∀ i x H H', i < n → Pv i H → Y i H x H' → g x (wipe σ vs) H' fun σ2 H2 => wipe σ2 vs = wipe σ vs ∧
      tk σ2 H2 fun y H4 => tv σ2 H4 fun z H5 => ∃ kvs k b, y = .ref b ∧ H5 b = some (.tup (k.map kV)) ∧ H5 D = some (.dT kvs) ∧ kvs.length < sizeLine ∧ Pv (i + 1) (upd H5 D (.dT (putK kvs k z)))) (hd : ∀ H, Pv n H → Qd H) :
    ∃ W : Nat → Nat → Hp → Prop, (∃ m, W 0 m (upd H1 D (.dT []))) ∧ ∀ i m H, W i m H →
      (J.stop i H ∧ Qd H) ∨ (J.go i H ∧ ∃ Nx : Hp → Prop, (∀ H', Nx H' → ∃ m', m' < m ∧ W (i + 1) m' H') ∧ ∀ x H', J.yld i H x H' → g x (wipe σ vs) H' fun σ2 H2 => wipe σ2 vs = wipe σ vs ∧
        tk σ2 H2 fun y H4 => tv σ2 H4 fun z H5 => ∃ kvs k b, y = .ref b ∧ H5 b = some (.tup (k.map kV)) ∧ H5 D = some (.dT kvs) ∧ kvs.length < sizeLine ∧ Nx (upd H5 D (.dT (putK kvs k z)))) := by
  refine ⟨fun i m H => m = n - i ∧ i ≤ n ∧ Pv i H, ⟨n, rfl, Nat.zero_le _, h0⟩, ?_⟩
  rintro i m H ⟨rfl, hi, p⟩
  rcases Nat.lt_or_ge i n with hlt | hge
  · exact .inr ⟨w.goes i H hlt (hG i H hi p), Pv (i + 1), fun H' p' => ⟨n - (i + 1), by omega, rfl, hlt, p'⟩, fun x H' y => hs i x H H' hlt p (w.yields i H x H' hlt (hG i H hi p) y)⟩
  · obtain rfl : i = n := by omega
    exact .inl ⟨w.stops H (hG i H hi p), hd H p⟩
end
/-! ### slices -/
theorem sIx_nat' (n d k : Nat) (h : k ≤ n) : HT.sIx n d (some (k : Int)) = k := by
  rw [HT.sIx_nat]
  omega
theorem cut_to (xs : List V) (k : Nat) (h : k ≤ xs.length) : cutV xs none (some (k : Int)) = xs.take k := by
  unfold cutV
  rw [HT.sIx_none, sIx_nat' _ _ _ h]
  simp
theorem cut_mid (xs : List V) (i k : Nat) (h1 : i ≤ k) (h2 : k ≤ xs.length) : cutV xs (some (i : Int)) (some (k : Int)) = (xs.drop i).take (k - i) := by
  unfold cutV
  rw [sIx_nat' _ _ _ h2, sIx_nat' _ _ _ (by omega)]
/-! ### what first_wrong tells -/
def badAt (xs : List V) (most i : Nat) (x : V) : Bool := decide (i = most) || !isNameB x || inV x (xs.take i)
/-- the first place from i on that is wrong -/
def wrongFrom (xs : List V) (most : Nat) : Nat → List V → Option Nat
  | _, [] => none
  | i, x :: r => if badAt xs most i x = true then some i else wrongFrom xs most (i + 1) r
def firstWrong (xs : List V) (most : Nat) : Option Nat := if xs = [] then some 0 else wrongFrom xs most 0 xs
def optV : Option Nat → V
  | none => .non
  | some i => .int (i : Int)
theorem wrong_step {xs : List V} {most i : Nat} {x : V} (h : xs[i]? = some x) : wrongFrom xs most i (xs.drop i) = if badAt xs most i x = true then some i else wrongFrom xs most (i + 1) (xs.drop (i + 1)) := by
  obtain ⟨h1, rfl⟩ := List.getElem?_eq_some_iff.mp h
  rw [List.drop_eq_getElem_cons h1]
  rfl
theorem wrong_end {xs : List V} {most i : Nat} (h : xs.length ≤ i) : wrongFrom xs most i (xs.drop i) = none := by
  rw [List.drop_eq_nil_of_le h]
  rfl
theorem name_flat {x : V} (h : isNameB x = true) : flatV x = true := by
  cases x <;> first | rfl | cases h
theorem all_flat {xs : List V} {k : Nat} (h : ∀ j x, j < k → xs[j]? = some x → isNameB x = true) : (xs.take k).all flatV = true := by
  rw [List.all_eq_true]
  intro x hx
  obtain ⟨j, hj, e⟩ := List.mem_iff_getElem.mp hx
  rw [List.length_take] at hj
  refine name_flat (h j x (by omega) ?_)
  rw [List.getElem_take] at e
  rw [← e]
  exact List.getElem?_eq_getElem (by omega)
/-- a thing that is a list or a tuple of any objects, or neither -/
inductive Thing (K : PySem.W.Frag) (H : Hp) : V → Option (List V) → Prop where
  | seq {a : Addr} {xs : List V} (hS : SqL K H a xs ∨ H a = some (.tup xs)) (b : Sqs K H (.ref a) true) (hi : ∀ x ∈ xs, Itm K H x) (hl : xs.length ≤ 100000) : Thing K H (.ref a) (some xs)
  | no {x : V} (b : Sqs K H x false) : Thing K H x none
/-- what is wrong with a thing as the names of folders -/
def wrongOf (o : Option (List V)) (most : Nat) : Option Nat := match o with
  | none => some 0
  | some xs => firstWrong xs most
def spFirstWrong (K : PySem.W.Frag) : Sp := fun vs H Q _ => ∃ (x : V) (o : Option (List V)) (most : Nat), vs = [x, .int (most : Int)] ∧ Thing K H x o ∧ ∀ H', Same H H' → Q (optV (wrongOf o most)) H'
theorem Itm.same {H H' : Hp} {x : V} (h : Itm K H x) (e : Same H H') : Itm K H' x := let ⟨t, a, b⟩ := h; ⟨t, TyX.same a e, b⟩
theorem Sqs.same {H H' : Hp} {x : V} {b : Bool} (h : Sqs K H x b) (e : Same H H') : Sqs K H' x b := let ⟨t, a, c⟩ := h; ⟨t, TyX.same a e, c⟩
theorem Thing.same {H H' : Hp} {x : V} {o : Option (List V)} (h : Thing K H x o) (e : Same H H') : Thing K H' x o := by
  cases h with
  | seq hS b hi hl => exact .seq (hS.imp (fun z => e.seq z) fun z => e _ _ z) (b.same e) (fun x hx => (hi x hx).same e) hl
  | no b => exact .no (b.same e)
end
section
variable {K : PySem.W.Frag}
/-- a dict comprehension over enumerate(xs), xs a list in the slot i -/
theorem dcT_enL {i : Nat} {a : Addr} {xs : List V} {g : TG} {tk tv : TE} {vs : List Nat} {σ : L2.St} {H : Hp} {Q : VK} (hv : σ[i]? = some (some (.ref a))) (hS : SqL K H a xs)
    (h : ∀ D, H D = none → ∃ Pv : Nat → Hp → Prop, Pv 0 (upd H D (.dT [])) ∧ (∀ k H', Pv k H' → SqL K H' a xs) ∧
      (∀ k x H' H2, k < xs.length → Pv k H' → YPair (fun j => some (.int (j : Nat))) (fun j => xs[j]?) k H' x H2 → g x (wipe σ vs) H2 fun σ2 H3 => wipe σ2 vs = wipe σ vs ∧
        tk σ2 H3 fun y H4 => tv σ2 H4 fun z H5 => ∃ kvs k' b, y = .ref b ∧ H5 b = some (.tup (k'.map kV)) ∧ H5 D = some (.dT kvs) ∧ kvs.length < sizeLine ∧ Pv (k + 1) (upd H5 D (.dT (putK kvs k' z)))) ∧
      ∀ H', Pv xs.length H' → Q (.ref D) H') : tDcT (iEnS K (tCons (tVar i) tNil)) g tk tv vs σ H Q :=
  ⟨_, hv, a, rfl, .inl ⟨xs, hS, fun D nD => by
    obtain ⟨Pv, h0, hG, hs, hd⟩ := h D nD
    exact dcT_it walk_enum Pv h0 (fun k H' _ p => hG k H' p) hs hd⟩⟩
end
/-! ### what is none wrong -/
theorem wrongFrom_none {xs : List V} {most : Nat} : ∀ (l : List V) (i : Nat), wrongFrom xs most i l = none → ∀ j x, l[j]? = some x → badAt xs most (i + j) x = false
  | [], i, _, j, x, h => by simp at h
  | y :: r, i, hw, j, x, h => by
    have e : (if badAt xs most i y = true then some i else wrongFrom xs most (i + 1) r) = none := hw
    by_cases hb : badAt xs most i y = true
    · rw [if_pos hb] at e
      cases e
    · rw [if_neg hb] at e
      cases j with
      | zero =>
        cases h
        simpa using hb
      | succ j =>
        have := wrongFrom_none r (i + 1) e j x (by simpa using h)
        rw [show i + (j + 1) = i + 1 + j by omega]
        exact this
theorem names_of {xs : List V} (h : ∀ (j : Nat) (x : V), xs[j]? = some x → isNameB x = true) : ∃ zs : List Str, xs = zs.map V.str ∧ ∀ z ∈ zs, isNameS z = true := by
  induction xs with
  | nil => exact ⟨[], rfl, fun _ z => nomatch z⟩
  | cons x r ih =>
    obtain ⟨zs, e, hz⟩ := ih fun j y hy => h (j + 1) y (by simpa using hy)
    have hx := h 0 x rfl
    cases x with
    | str z =>
      refine ⟨z :: zs, by rw [e]; rfl, fun y hy => ?_⟩
      rcases List.mem_cons.mp hy with rfl | hy
      · exact hx
      · exact hz y hy
    | _ => cases hx
/-- what is right: unlike names, not too many -/
theorem right_names {o : Option (List V)} {most : Nat} (h : wrongOf o most = none) : ∃ zs : List Str, o = some (zs.map V.str) ∧ zs ≠ [] ∧ (∀ z ∈ zs, isNameS z = true) ∧ zs.length ≤ most ∧ zs.Nodup := by
  cases o with
  | none => cases h
  | some xs =>
    have h : firstWrong xs most = none := h
    unfold firstWrong at h
    by_cases hn : xs = []
    · rw [if_pos hn] at h
      cases h
    · rw [if_neg hn] at h
      have hb := wrongFrom_none xs 0 h
      have hb : ∀ j x, xs[j]? = some x → badAt xs most j x = false := fun j x hx => by
        have := hb j x hx
        rwa [Nat.zero_add] at this
      obtain ⟨zs, e, hz⟩ := names_of fun j x hx => by
        have := hb j x hx
        simp [badAt] at this
        exact this.1.2
      refine ⟨zs, by rw [e], fun z => hn (by rw [e, z]; rfl), hz, ?_, ?_⟩
      · rcases Nat.lt_or_ge most zs.length with hlt | hge
        · have hx : xs[most]? = some (V.str zs[most]) := by rw [e, List.getElem?_map, List.getElem?_eq_getElem hlt]; rfl
          have := hb most _ hx
          simp [badAt] at this
        · exact hge
      · rw [List.nodup_iff_pairwise_ne, List.pairwise_iff_getElem]
        intro i j hi hj hij heq
        have hx : xs[j]? = some (V.str zs[j]) := by rw [e, List.getElem?_map, List.getElem?_eq_getElem hj]; rfl
        have := hb j _ hx
        simp [badAt] at this
        have h2 := this.2
        rw [e, ← List.map_take, inV_strs] at h2
        have h2 := of_decide_eq_false h2
        exact h2 (List.mem_iff_getElem.mpr ⟨i, by rw [List.length_take]; omega, by rw [List.getElem_take]; exact heq⟩)
end Bk

namespace Bk
open PySem PySem.Spec PyProof.Rows L2
/-! ### values that are tuples, one for each of some things -/
def Ats {α : Type} (H : Hp) (g : α → List V) (vs : List V) (xs : List α) : Prop := vs.length = xs.length ∧ ∀ (i : Nat) (v : V) (x : α), vs[i]? = some v → xs[i]? = some x → ∃ b, v = .ref b ∧ H b = some (.tup (g x))
section
variable {α : Type} {g : α → List V} {H H' : Hp} {vs ws : List V} {xs ys : List α}
theorem Ats.nil : Ats H g [] [] := ⟨rfl, fun i v x h => by simp at h⟩
theorem Ats.same (a : Ats H g vs xs) (e : Same H H') : Ats H' g vs xs := ⟨a.1, fun i v x h1 h2 => let ⟨b, e1, e2⟩ := a.2 i v x h1 h2; ⟨b, e1, e _ _ e2⟩⟩
theorem Ats.updL {D : Addr} {l : List V} {o : HO} (a : Ats H g vs xs) (hD : H D = some (.lst l)) : Ats (upd H D o) g vs xs := ⟨a.1, fun i v x h1 h2 => by
  obtain ⟨b, e1, e2⟩ := a.2 i v x h1 h2
  exact ⟨b, e1, by rw [upd_ne (ne_of e2 hD (fun z => nomatch z))]; exact e2⟩⟩
theorem Ats.append (a : Ats H g vs xs) (b : Ats H g ws ys) : Ats H g (vs ++ ws) (xs ++ ys) := by
  refine ⟨by rw [List.length_append, List.length_append, a.1, b.1], fun i v x h1 h2 => ?_⟩
  by_cases hi : i < vs.length
  · rw [List.getElem?_append_left hi] at h1
    rw [List.getElem?_append_left (by rw [← a.1]; exact hi)] at h2
    exact a.2 i v x h1 h2
  · rw [List.getElem?_append_right (by omega)] at h1
    rw [List.getElem?_append_right (by rw [← a.1]; omega), ← a.1] at h2
    exact b.2 _ v x h1 h2
theorem Ats.one {b : Addr} {x : α} (e : H b = some (.tup (g x))) : Ats H g [.ref b] [x] := ⟨rfl, fun i v y h1 h2 => by
  cases i with
  | zero =>
    cases h1
    cases h2
    exact ⟨b, rfl, e⟩
  | succ i => simp at h1⟩
theorem Ats.at (a : Ats H g vs xs) {i : Nat} {x : α} (h : xs[i]? = some x) : ∃ b, vs[i]? = some (.ref b) ∧ H b = some (.tup (g x)) := by
  have hi := (List.getElem?_eq_some_iff.mp h).1
  rw [← a.1] at hi
  obtain ⟨b, e1, e2⟩ := a.2 i _ x (List.getElem?_eq_getElem hi) h
  exact ⟨b, by rw [List.getElem?_eq_getElem hi, e1], e2⟩
end
/-! ### the rows of places, as choices makes them -/
def rowV (r : List Nat) : List V := r.map fun (k : Nat) => V.int (k : Int)
def lastOf (r : List Nat) : Nat := r.getLastD 0
def growRow (n : Nat) (r : List Nat) : List (List Nat) := (List.range' (lastOf r + 1) (n - (lastOf r + 1))).map fun k => r ++ [k]
def nextRows (n : Nat) (rows : List (List Nat)) : List (List Nat) := rows.flatMap (growRow n)
def rowsFrom (n : Nat) : Nat → List (List Nat) → List (List Nat)
  | 0, _ => []
  | f + 1, rows => rows ++ rowsFrom n f (nextRows n rows)
def firstRows (n : Nat) : List (List Nat) := (List.range n).map fun k => [k]
/-- all rows of places below n, shorter ones first -/
def lotRows (n : Nat) : List (List Nat) := rowsFrom n n (firstRows n)
/-- the lots of unlike names -/
def lotsOf (zs : List Str) : List (List Str) := (lotRows zs.length).map fun r => r.map fun k => zs.getD k Str.empty
structure RowOk (n k : Nat) (r : List Nat) : Prop where
  len : r.length = k + 1
  lt : ∀ x ∈ r, x < n
  last : k ≤ lastOf r
theorem RowOk.ne {n k : Nat} {r : List Nat} (h : RowOk n k r) : r ≠ [] := fun e => by
  have := h.len
  rw [e] at this
  simp at this
theorem lastOf_mem {r : List Nat} (h : r ≠ []) : lastOf r ∈ r := by
  unfold lastOf
  rw [List.getLastD_eq_getLast?, List.getLast?_eq_some_getLast h]
  exact List.getLast_mem h
theorem RowOk.lt_last {n k : Nat} {r : List Nat} (h : RowOk n k r) : lastOf r < n := h.lt _ (lastOf_mem h.ne)
theorem lastOf_snoc (r : List Nat) (k : Nat) : lastOf (r ++ [k]) = k := by
  unfold lastOf
  rw [List.getLastD_eq_getLast?, List.getLast?_append]
  rfl
theorem firstRows_ok {n : Nat} : ∀ r ∈ firstRows n, RowOk n 0 r := by
  intro r hr
  obtain ⟨k, hk, rfl⟩ := List.mem_map.mp hr
  have := List.mem_range.mp hk
  exact ⟨rfl, fun x hx => by rw [List.mem_singleton.mp hx]; exact this, Nat.zero_le _⟩
theorem nextRows_ok {n k : Nat} {rows : List (List Nat)} (h : ∀ r ∈ rows, RowOk n k r) : ∀ r ∈ nextRows n rows, RowOk n (k + 1) r := by
  intro r hr
  obtain ⟨r0, h0, hr⟩ := List.mem_flatMap.mp hr
  obtain ⟨j, hj, rfl⟩ := List.mem_map.mp hr
  obtain ⟨j1, j2⟩ := List.mem_range'_1.mp hj
  have o := h r0 h0
  have := o.last
  refine ⟨by rw [List.length_append, o.len]; rfl, fun x hx => ?_, by rw [lastOf_snoc]; omega⟩
  rcases List.mem_append.mp hx with hx | hx
  · exact o.lt x hx
  · rw [List.mem_singleton.mp hx]
    omega
theorem flatMap_len {α β : Type} {f : α → List β} {m : Nat} : ∀ {l : List α}, (∀ x ∈ l, (f x).length ≤ m) → (l.flatMap f).length ≤ l.length * m
  | [], _ => Nat.zero_le _
  | x :: r, h => by
    have ih := flatMap_len (l := r) fun y hy => h y (List.mem_cons_of_mem _ hy)
    have h1 := h x List.mem_cons_self
    rw [List.flatMap_cons, List.length_append, List.length_cons, Nat.add_mul]
    omega
theorem growRow_len {n : Nat} {r : List Nat} : (growRow n r).length ≤ n := by
  unfold growRow
  rw [List.length_map, List.length_range']
  omega
theorem nextRows_len {n : Nat} (rows : List (List Nat)) : (nextRows n rows).length ≤ rows.length * n := flatMap_len fun _ _ => growRow_len
theorem nextRows_snoc {n : Nat} {rows : List (List Nat)} {i : Nat} {r : List Nat} (h : rows[i]? = some r) : nextRows n (rows.take (i + 1)) = nextRows n (rows.take i) ++ growRow n r := by
  unfold nextRows
  rw [take_succ h, List.flatMap_append, List.flatMap_cons, List.flatMap_nil, List.append_nil]
theorem rowsFrom_nil (n : Nat) : ∀ f, rowsFrom n f [] = []
  | 0 => rfl
  | f + 1 => by
    show [] ++ rowsFrom n f (nextRows n []) = []
    exact rowsFrom_nil n f
theorem rowsFrom_ok {n : Nat} : ∀ (f k : Nat) (rows : List (List Nat)), (∀ r ∈ rows, RowOk n k r) → ∀ r ∈ rowsFrom n f rows, ∃ k', RowOk n k' r
  | 0, _, _, _, r, hr => by cases hr
  | f + 1, k, rows, h, r, hr => by
    rcases List.mem_append.mp (show r ∈ rows ++ rowsFrom n f (nextRows n rows) from hr) with hr | hr
    · exact ⟨k, h r hr⟩
    · exact rowsFrom_ok f (k + 1) _ (nextRows_ok h) r hr
theorem lotRows_ok {n : Nat} : ∀ r ∈ lotRows n, ∃ k, RowOk n k r := rowsFrom_ok n 0 _ firstRows_ok
theorem rowV_len (r : List Nat) : (rowV r).length = r.length := List.length_map ..
theorem at_last {r : List Nat} (h : r ≠ []) : atI (rowV r) (-1) = some (V.int (lastOf r : Int)) := by
  have hl : 0 < r.length := List.length_pos_iff.mpr h
  have e1 : ixN (rowV r).length (-1) = some (r.length - 1) := by
    unfold ixN
    rw [rowV_len, if_neg (by omega), if_pos (by omega)]
    congr 1
    omega
  unfold atI
  rw [e1]
  show (rowV r)[r.length - 1]? = _
  unfold rowV lastOf
  rw [List.getElem?_map, List.getLastD_eq_getLast?, List.getLast?_eq_getElem?, List.getElem?_eq_getElem (by omega)]
  rfl
theorem growRow_at {n : Nat} {r : List Nat} {j : Nat} (hj : j < n - (lastOf r + 1)) : (growRow n r)[j]? = some (r ++ [lastOf r + 1 + j]) := by
  unfold growRow
  rw [List.getElem?_map, List.getElem?_range' hj]
  simp
theorem growRow_length (n : Nat) (r : List Nat) : (growRow n r).length = n - (lastOf r + 1) := by
  unfold growRow
  rw [List.length_map, List.length_range']
/-! ### the rows of places of so many, as choices_of makes them -/
def sttK (k : Nat) (r : List Nat) : Nat := if 0 < k then lastOf r + 1 else 0
def growK (n k : Nat) (r : List Nat) : List (List Nat) := (List.range' (sttK k r) (n - sttK k r)).map fun j => r ++ [j]
def nextK (n k : Nat) (rows : List (List Nat)) : List (List Nat) := rows.flatMap (growK n k)
def rowsK (n : Nat) : Nat → List (List Nat)
  | 0 => [[]]
  | k + 1 => nextK n k (rowsK n k)
/-- a row of k places, ascending as far as it matters -/
def RowK (n k : Nat) (r : List Nat) : Prop := (k = 0 ∧ r = []) ∨ ∃ k', k = k' + 1 ∧ RowOk n k' r
theorem RowK.len {n k : Nat} {r : List Nat} (h : RowK n k r) : r.length = k := by
  rcases h with ⟨rfl, rfl⟩ | ⟨k', rfl, o⟩
  · rfl
  · exact o.len
theorem RowK.lt {n k : Nat} {r : List Nat} (h : RowK n k r) : ∀ x ∈ r, x < n := by
  rcases h with ⟨rfl, rfl⟩ | ⟨k', rfl, o⟩
  · intro x hx
    cases hx
  · exact o.lt
theorem sttK_le {n k : Nat} {r : List Nat} (h : RowK n k r) : sttK k r ≤ n := by
  unfold sttK
  rcases h with ⟨rfl, rfl⟩ | ⟨k', rfl, o⟩
  · rw [if_neg (by omega)]
    exact Nat.zero_le _
  · rw [if_pos (by omega)]
    exact o.lt_last
theorem nextK_ok {n k : Nat} {rows : List (List Nat)} (h : ∀ r ∈ rows, RowK n k r) : ∀ r ∈ nextK n k rows, RowK n (k + 1) r := by
  intro r hr
  obtain ⟨r0, h0, hr⟩ := List.mem_flatMap.mp hr
  obtain ⟨j, hj, rfl⟩ := List.mem_map.mp hr
  obtain ⟨j1, j2⟩ := List.mem_range'_1.mp hj
  have o := h r0 h0
  have hs := sttK_le o
  refine .inr ⟨k, rfl, by rw [List.length_append, o.len]; rfl, fun x hx => ?_, ?_⟩
  · rcases List.mem_append.mp hx with hx | hx
    · exact o.lt x hx
    · rw [List.mem_singleton.mp hx]
      omega
  · rw [lastOf_snoc]
    rcases o with ⟨rfl, rfl⟩ | ⟨k', rfl, o⟩
    · exact Nat.zero_le _
    · have := o.last
      unfold sttK at j1
      rw [if_pos (by omega)] at j1
      omega
theorem rowsK_ok (n : Nat) : ∀ k, ∀ r ∈ rowsK n k, RowK n k r
  | 0 => fun r hr => .inl ⟨rfl, List.mem_singleton.mp hr⟩
  | k + 1 => nextK_ok (rowsK_ok n k)
theorem nextK_snoc {n k : Nat} {rows : List (List Nat)} {i : Nat} {r : List Nat} (h : rows[i]? = some r) : nextK n k (rows.take (i + 1)) = nextK n k (rows.take i) ++ growK n k r := by
  unfold nextK
  rw [take_succ h, List.flatMap_append, List.flatMap_cons, List.flatMap_nil, List.append_nil]
theorem growK_at {n k : Nat} {r : List Nat} {j : Nat} (hj : j < n - sttK k r) : (growK n k r)[j]? = some (r ++ [sttK k r + j]) := by
  unfold growK
  rw [List.getElem?_map, List.getElem?_range' hj]
  simp
theorem growK_length (n k : Nat) (r : List Nat) : (growK n k r).length = n - sttK k r := by
  unfold growK
  rw [List.length_map, List.length_range']
/-! how many there are -/
def potOf (n k : Nat) (rows : List (List Nat)) : Nat := (rows.map fun r => 2 ^ (n - sttK k r)).sum
theorem pot_range (n : Nat) : ∀ (m s : Nat), m + s = n → ((List.range' s m).map fun j => 2 ^ (n - (j + 1))).sum + 1 = 2 ^ m
  | 0, _, _ => rfl
  | m + 1, s, h => by
    have ih := pot_range n m (s + 1) (by omega)
    rw [List.range'_succ, List.map_cons, List.sum_cons, Nat.add_assoc, ih, show n - (s + 1) = m by omega, Nat.pow_succ]
    omega
theorem pot_grow {n k : Nat} {r : List Nat} (h : sttK k r ≤ n) : potOf n (k + 1) (growK n k r) + 1 = 2 ^ (n - sttK k r) := by
  unfold potOf growK
  rw [List.map_map]
  have e : (List.map ((fun r => 2 ^ (n - sttK (k + 1) r)) ∘ fun j => r ++ [j]) (List.range' (sttK k r) (n - sttK k r))) = ((List.range' (sttK k r) (n - sttK k r)).map fun j => 2 ^ (n - (j + 1))) := by
    apply List.map_congr_left
    intro j _
    show 2 ^ (n - sttK (k + 1) (r ++ [j])) = _
    unfold sttK
    rw [if_pos (by omega), lastOf_snoc]
  rw [e]
  exact pot_range n _ _ (by omega)
theorem pot_append (n k : Nat) (a b : List (List Nat)) : potOf n k (a ++ b) = potOf n k a + potOf n k b := by
  unfold potOf
  rw [List.map_append, List.sum_append]
theorem pot_next {n k : Nat} : ∀ {rows : List (List Nat)}, (∀ r ∈ rows, RowK n k r) → potOf n (k + 1) (nextK n k rows) ≤ potOf n k rows
  | [], _ => Nat.le_refl _
  | r :: t, h => by
    have ih := pot_next (rows := t) fun x hx => h x (List.mem_cons_of_mem _ hx)
    have g := pot_grow (sttK_le (h r List.mem_cons_self))
    have e : nextK n k (r :: t) = growK n k r ++ nextK n k t := List.flatMap_cons ..
    have e2 : potOf n k (r :: t) = 2 ^ (n - sttK k r) + potOf n k t := List.sum_cons ..
    rw [e, pot_append, e2]
    omega
theorem pot_rows (n : Nat) : ∀ k, potOf n k (rowsK n k) ≤ 2 ^ n
  | 0 => by
    show (2 ^ (n - sttK 0 []) + 0) ≤ _
    unfold sttK
    rw [if_neg (by omega)]
    exact Nat.le_refl _
  | k + 1 => Nat.le_trans (pot_next (rowsK_ok n k)) (pot_rows n k)
theorem len_pot (n k : Nat) : ∀ rows : List (List Nat), rows.length ≤ potOf n k rows
  | [] => Nat.zero_le _
  | r :: t => by
    have ih := len_pot n k t
    have e2 : potOf n k (r :: t) = 2 ^ (n - sttK k r) + potOf n k t := List.sum_cons ..
    have : 0 < 2 ^ (n - sttK k r) := Nat.pow_pos (by omega)
    rw [e2, List.length_cons]
    omega
theorem rowsK_len (n k : Nat) : (rowsK n k).length ≤ 2 ^ n := Nat.le_trans (len_pot n k _) (pot_rows n k)
theorem take_pot {n k : Nat} (rows : List (List Nat)) (i : Nat) : potOf n k (rows.take i) ≤ potOf n k rows := by
  have h := pot_append n k (rows.take i) (rows.drop i)
  rw [List.take_append_drop] at h
  omega
theorem nextK_take_len {n k : Nat} (i : Nat) : (nextK n k ((rowsK n k).take i)).length ≤ 2 ^ n :=
  Nat.le_trans (len_pot n (k + 1) _) (Nat.le_trans (pot_next fun r hr => rowsK_ok n k r (List.mem_of_mem_take hr)) (Nat.le_trans (take_pot _ i) (pot_rows n k)))
/-! all of them are the rows of all lots -/
theorem rowsK_one (n : Nat) : rowsK n 1 = firstRows n := by
  show nextK n 0 [[]] = _
  unfold nextK growK firstRows sttK
  rw [List.flatMap_cons, List.flatMap_nil, List.append_nil, if_neg (by omega), Nat.sub_zero, List.range_eq_range']
  rfl
theorem rowsK_two (n k : Nat) : rowsK n (k + 2) = nextRows n (rowsK n (k + 1)) := by
  show nextK n (k + 1) _ = _
  have e : growK n (k + 1) = growRow n := by
    funext r
    unfold growK growRow sttK
    rw [if_pos (by omega)]
  unfold nextK nextRows
  rw [e]
theorem rowsFrom_K (n : Nat) : ∀ f k, rowsFrom n f (rowsK n (k + 1)) = (List.range' (k + 1) f).flatMap (rowsK n)
  | 0, _ => rfl
  | f + 1, k => by
    show rowsK n (k + 1) ++ rowsFrom n f (nextRows n (rowsK n (k + 1))) = _
    rw [← rowsK_two, rowsFrom_K n f (k + 1), List.range'_succ, List.flatMap_cons]
theorem lotRows_K (n : Nat) : lotRows n = (List.range' 1 n).flatMap (rowsK n) := by
  unfold lotRows
  rw [← rowsK_one, rowsFrom_K]
theorem lotRows_few (n : Nat) : (lotRows n).length ≤ n * 2 ^ n := by
  rw [lotRows_K]
  have h := flatMap_len (f := rowsK n) (m := 2 ^ n) (l := List.range' 1 n) fun x _ => rowsK_len n x
  rw [List.length_range'] at h
  exact h
/-- rows that lie in range tell the choices of so many of the things, which lie in the heap -/
def subsOf (xs : List V) (rows : List (List Nat)) : List (List V) := rows.map fun r => r.map fun k => xs.getD k V.non
def spChoicesOf (K : PySem.W.Frag) : Sp := fun vs H Q _ => ∃ (a : Addr) (xs : List V) (m : Nat), vs = [.ref a, .int (m : Int)] ∧ (SqL K H a xs ∨ SqT K H a xs) ∧ xs.length ≤ 12 ∧ m ≤ 12 ∧
  ∀ (D : Addr) (ws : List V) (H' : Hp), H D = none → Same H H' → H' D = some (.lst ws) → Ats H' (fun l => l) ws (subsOf xs (rowsK xs.length m)) → Q (.ref D) H'
def spChoices (K : PySem.W.Frag) : Sp := fun vs H Q _ => ∃ (a : Addr) (xs : List V), vs = [.ref a] ∧ (SqL K H a xs ∨ SqT K H a xs) ∧ xs.length ≤ 12 ∧
  ∀ (D : Addr) (ws : List V) (H' : Hp), H D = none → Same H H' → H' D = some (.lst ws) → Ats H' (fun l => l) ws (subsOf xs (lotRows xs.length)) → Q (.ref D) H'
theorem subsOf_map {rows : List (List Nat)} (zs : List Str) (h : ∀ r ∈ rows, ∀ x ∈ r, x < zs.length) : subsOf (zs.map V.str) rows = (rows.map fun r => r.map fun k => zs.getD k Str.empty).map fun l => l.map V.str := by
  unfold subsOf
  rw [List.map_map]
  apply List.map_congr_left
  intro r hr
  show _ = (r.map fun k => zs.getD k Str.empty).map V.str
  rw [List.map_map]
  apply List.map_congr_left
  intro k hk
  have hkn := h r hr k hk
  show (zs.map V.str).getD k V.non = V.str (zs.getD k Str.empty)
  rw [List.getD_eq_getElem?_getD, List.getD_eq_getElem?_getD, List.getElem?_map, List.getElem?_eq_getElem hkn]
  rfl
theorem Ats.ofMap {α β : Type} {H : Hp} {g : β → List V} {f : α → β} {vs : List V} {xs : List α} (a : Ats H g vs (xs.map f)) : Ats H (fun x => g (f x)) vs xs := ⟨by rw [a.1, List.length_map], fun i v x h1 h2 => a.2 i v (f x) h1 (by rw [List.getElem?_map, h2]; rfl)⟩
/-- what choices tells of names are the lots -/
theorem lots_of_choices {H : Hp} {ws : List V} {zs : List Str} (a : Ats H (fun l => l) ws (subsOf (zs.map V.str) (lotRows (zs.map V.str).length))) : Ats H (fun l => l.map V.str) ws (lotsOf zs) := by
  rw [List.length_map, subsOf_map zs (fun r hr => (lotRows_ok r hr).choose_spec.lt)] at a
  exact a.ofMap
/-! ### the lots of a chain -/
def longRows (zs : List Str) (l : Nat) : List (List Str) := (List.range (zs.length - l)).map fun i => (zs.drop i).take (l + 1)
def chainLots (zs : List Str) : List (List Str) := (List.range zs.length).flatMap (longRows zs)
theorem longRows_len (zs : List Str) (l : Nat) : (longRows zs l).length = zs.length - l := by
  unfold longRows
  rw [List.length_map, List.length_range]
theorem longRows_at {zs : List Str} {l j : Nat} (h : j < zs.length - l) : (longRows zs l)[j]? = some ((zs.drop j).take (l + 1)) := by
  unfold longRows
  rw [List.getElem?_map, List.getElem?_range h]
  rfl
def spNeigh : Sp := fun vs H Q _ => ∃ (a : Addr) (zs : List Str), vs = [.ref a] ∧ H a = some (.tup (zs.map V.str)) ∧ zs.length ≤ 100 ∧
  ∀ (D : Addr) (ws : List V) (H' : Hp), H D = none → Same H H' → H' D = some (.lst ws) → Ats H' (fun l => l.map V.str) ws (chainLots zs) → Q (.ref D) H'
end Bk

namespace Bk
open PySem PySem.Spec PyProof.Rows L2
/-! ### an own error with one field -/
def spExcInit (C : Addr) (f : Str) : Sp := fun vs H Q _ => ∃ (a : Addr) (v : V), vs = [.ref a, v] ∧ H a = some (exo a C none) ∧ ∀ dx, H dx = none → dx ≠ a → Q .non (upd (upd H dx (exd dx [(f, v)])) a (exo a C (some dx)))
/-- what the top has written of the error's class C, whose __init__ stands at fI and stores f -/
structure ExT (K : PySem.W.Frag) (mg : Str → Option Value) (x : Str) (C fI : Addr) (f : Str) : Prop where
  g : mg x = some (.ref C)
  o : OexC K C
  xf : XfC K C
  noF : PySem.W.findIn K (.ref C) f = some none
  iC : PySem.W.findIn K (.ref C) "__init__" = some (some (.ref fI))
  tI : PySem.W.typeIn K (.ref fI) = some (.type "function")
  te : PySem.W.exmOne K (.ref C) (.ref C) = some true
/-- the heap behind the making of an error that carries v under f in its dict d -/
def ExcAt (H : Hp) (d : Addr) (f : Str) (v : V) (H' : Hp) : Prop := H d = none ∧ Same H H' ∧ H' d = some (.xd [(f, v)])
/-- raise C(e): the reading, made easy -/
theorem mkO_of {C : Addr} {f : Str} {ta : TA} {σ : L2.St} {H : Hp} {Q : XK} {v : V} {H1 : Hp} (ha : ∀ R : List V → Hp → Prop, R [v] H1 → ta σ H R) (h : ∀ d H', ExcAt H1 d f v H' → Q (.ref C) (some d) H') : tMkO C (spExcInit C f) [] ta σ H Q := by
  refine ha _ ⟨show 1 ≤ 1000 by decide, fun a na => ⟨a, v, rfl, upd_same, fun dx ndx hne => ⟨rfl, dx, [(f, v)], upd_same, ?_, ?_, ?_⟩⟩⟩
  · rw [upd_ne hne, upd_same]
  · rw [upd_ne hne] at ndx
    exact ndx
  · rw [upd_ne hne] at ndx
    refine h dx _ ⟨ndx, fun b o e => ?_, upd_same⟩
    have nb : b ≠ dx := ne_of_none e ndx
    have na' : b ≠ a := ne_of_none e na
    rw [upd_ne nb, del_ne na', upd_ne na', upd_ne nb, upd_ne na']
    exact e
/-! ### Folders as an object -/
def placesOf (ls : List (List Str)) : List (List Key × V) := ls.zipIdx.foldl (fun acc (p : List Str × Nat) => putK acc (p.1.map Sum.inr) (V.int (p.2 : Int))) []
theorem places_snoc {ls : List (List Str)} {i : Nat} {l : List Str} (h : ls[i]? = some l) : placesOf (ls.take (i + 1)) = putK (placesOf (ls.take i)) (l.map Sum.inr) (V.int (i : Int)) := by
  have hi := (List.getElem?_eq_some_iff.mp h).1
  unfold placesOf
  rw [take_succ h, List.zipIdx_append, List.foldl_append]
  have e : (ls.take i).length = i := by rw [List.length_take]; omega
  rw [e, Nat.zero_add]
  rfl
theorem places_len : ∀ ls : List (List Str), (placesOf ls).length ≤ ls.length := by
  intro ls
  have h : ∀ (l : List (List Str × Nat)) (acc : List (List Key × V)), (l.foldl (fun acc (p : List Str × Nat) => putK acc (p.1.map Sum.inr) (V.int (p.2 : Int))) acc).length ≤ acc.length + l.length := by
    intro l
    induction l with
    | nil => intro acc; exact Nat.le_refl _
    | cons x r ih =>
      intro acc
      have h1 := ih (putK acc (x.1.map Sum.inr) (V.int (x.2 : Int)))
      have h2 := length_putK acc (x.1.map Sum.inr) (V.int (x.2 : Int))
      show (r.foldl _ (putK acc (x.1.map Sum.inr) (V.int (x.2 : Int)))).length ≤ acc.length + (r.length + 1)
      omega
  have := h ls.zipIdx []
  rw [List.length_zipIdx] at this
  simpa [placesOf] using this
def foldersF (t pd : Addr) (ch : Bool) : List (Str × V) := [("names", .ref t), ("chain", .bl ch), ("places", .ref pd)]
def lotsFor (ch : Bool) (zs : List Str) : List (List Str) := if ch then chainLots zs else lotsOf zs
def mostFor (ch : Bool) : Nat := if ch then 12 else 5
/-- Folders of the names zs stand at x -/
def FoldersAt (C : Addr) (H : Hp) (x : Addr) (zs : List Str) (ch : Bool) : Prop := ∃ dx t pd, H x = some (.ins C dx (foldersF t pd ch)) ∧ H t = some (.tup (zs.map V.str)) ∧ H pd = some (.dT (placesOf (lotsFor ch zs)))
def spFolders (K : PySem.W.Frag) (C CB : Addr) : Sp := fun vs H Q E => ∃ (x dx : Addr) (nm : V) (o : Option (List V)) (ch : Bool), vs = [.ref x, nm, .bl ch] ∧ H x = some (.ins C dx []) ∧ Thing K H nm o ∧
  (∀ i d H', wrongOf o (mostFor ch) = some i → ExcAt H d "index" (.int (i : Int)) H' → E (.ref CB) (some d) H') ∧
  (∀ zs H', wrongOf o (mostFor ch) = none → o = some (zs.map V.str) → zs.Nodup → FoldersAt C H' x zs ch → (∀ b u, b ≠ x → H b = some u → H' b = some u) → Q .non H')
structure FolT (K : PySem.W.Frag) (mg : Str → Option Value) (C fI : Addr) : Prop where
  g : mg "Folders" = some (.ref C)
  cl : Cls K C
  nN : NoAttr K C "names"
  nC : NoAttr K C "chain"
  nP : NoAttr K C "places"
  make : Mk K C fI
theorem put1 (v : V) : putF "names" v [] = ([("names", v)] : List (Str × V)) := rfl
theorem put2 (v c : V) : putF "chain" c ([("names", v)] : List (Str × V)) = ([("names", v), ("chain", c)] : List (Str × V)) := by
  have h : ¬ (("names" : Str) = "chain") := by decide +kernel
  simp [putF, h]
theorem put3 (v c p : V) : putF "places" p ([("names", v), ("chain", c)] : List (Str × V)) = ([("names", v), ("chain", c), ("places", p)] : List (Str × V)) := by
  have h : ¬ (("names" : Str) = "places") := by decide +kernel
  have h2 : ¬ (("chain" : Str) = "places") := by decide +kernel
  simp [putF, h, h2]
theorem look_n2 (t : Addr) (c : V) : List.lookup ("names" : Str) ([("names", .ref t), ("chain", c)] : List (Str × V)) = some (.ref t) := by
  simp [List.lookup]
theorem look_names (t pd : Addr) (ch : Bool) : (foldersF t pd ch).lookup ("names" : Str) = some (.ref t) := by
  show List.lookup ("names" : Str) [(("names" : Str), V.ref t), ("chain", .bl ch), ("places", .ref pd)] = _
  simp [List.lookup]
/-- all but the object at x stays -/
def But (x : Addr) (H H' : Hp) : Prop := ∀ b u, b ≠ x → H b = some u → H' b = some u
theorem But.trans {x : Addr} {H H1 H2 : Hp} (a : But x H H1) (b : But x H1 H2) : But x H H2 := fun c u n e => b c u n (a c u n e)
theorem But.same {x : Addr} {H H' : Hp} (a : Same H H') : But x H H' := fun c u _ e => a c u e
theorem But.upd {x : Addr} {H : Hp} {o : HO} : But x H (L2.upd H x o) := fun c u n e => by rw [upd_ne n]; exact e
theorem rows_few : ∀ n, n < 6 → (lotRows n).length ≤ 31 := by decide +kernel
theorem lots_few {ch : Bool} {zs : List Str} (h : zs.length ≤ mostFor ch) : (lotsFor ch zs).length ≤ 2000 := by
  cases ch with
  | true =>
    have h : zs.length ≤ 12 := h
    have := flatMap_len (f := longRows zs) (m := 100) (l := List.range zs.length) fun x _ => by rw [longRows_len]; omega
    rw [List.length_range] at this
    show (chainLots zs).length ≤ 2000
    unfold chainLots
    omega
  | false =>
    have h : zs.length ≤ 5 := h
    have := rows_few zs.length (by omega)
    show (lotsOf zs).length ≤ 2000
    unfold lotsOf
    rw [List.length_map]
    omega
end Bk

namespace Bk
open PySem PySem.Spec PyProof.Rows L2
section
variable {K : PySem.W.Frag} {H H' : Hp}
/-! ### data: None, truth values, ints, texts, lists and tuples of these -/
mutual
theorem Dp.sm (e : Same H H') : ∀ (d : PyData) (v : V), Dp K H v d → Dp K H' v d
  | _, _, .non => .non
  | _, _, .bl b => .bl b
  | _, _, .int i => .int i
  | _, _, .str x => .str x
  | .list ds, _, .lst h a => .lst (e.seq h) (DpAll.sm e ds _ a)
  | .tuple ds, _, .tup h a => .tup (Same.sqt e h) (DpAll.sm e ds _ a)
theorem DpAll.sm (e : Same H H') : ∀ (ds : List PyData) (vs : List V), DpAll K H vs ds → DpAll K H' vs ds
  | [], _, .nil => .nil
  | d :: ds, _, .cons a r => .cons (Dp.sm e d _ a) (DpAll.sm e ds _ r)
end
theorem DpAll.len : ∀ {vs : List V} {ds : List PyData}, DpAll K H vs ds → vs.length = ds.length
  | _, _, .nil => rfl
  | _, _, .cons _ r => congrArg (· + 1) (DpAll.len r)
theorem DpAll.get : ∀ {vs : List V} {ds : List PyData}, DpAll K H vs ds → ∀ {i : Nat} {v : V}, vs[i]? = some v → ∃ d, ds[i]? = some d ∧ Dp K H v d
  | _, _, .nil, i, v, h => by simp at h
  | _, _, .cons a r, 0, v, h => by
    cases h
    exact ⟨_, rfl, a⟩
  | _, _, .cons a r, i + 1, v, h => DpAll.get r (by simpa using h)
theorem tyx_l {a : Addr} {xs : List V} (h : SqL K H a xs) : TyX K H (.ref a) (.type "list") := by
  rcases h with (h | ⟨o, h⟩) | ⟨o, its, n, h, c, _⟩
  · exact .base (.lst h)
  · exact .base (.frz h)
  · exact .kList h c
theorem tyx_t {a : Addr} {xs : List V} (h : SqT K H a xs) : TyX K H (.ref a) (.type "tuple") := by
  rcases h with (h | ⟨o, h⟩) | ⟨o, its, n, h, c, _⟩
  · exact .base (.tup h)
  · exact .fTuple h
  · exact .kTuple h c
/-- the kind of a piece of data -/
def kindD : PyData → String
  | .none => "NoneType"
  | .bool _ => "bool"
  | .int _ => "int"
  | .str _ => "str"
  | .list _ => "list"
  | .tuple _ => "tuple"
  | .dict _ => "dict"
theorem tyx_d {v : V} {d : PyData} (h : Dp K H v d) : TyX K H v (.type (kindD d)) := by
  cases h with
  | non => exact .base .non
  | bl b => exact .base (.bl b)
  | int i => exact .base (.int i)
  | str x => exact .base (.str x)
  | lst h _ => exact tyx_l h
  | tup h _ => exact tyx_t h
theorem depth_mem : ∀ {ds : List PyData} {d : PyData}, d ∈ ds → d.depth ≤ PyData.depthAll ds
  | x :: r, d, h => by
    have e : PyData.depthAll (x :: r) = max (PyData.depth x) (PyData.depthAll r) := by simp [PyData.depthAll]
    rw [e]
    rcases List.mem_cons.mp h with rfl | h
    · exact Nat.le_max_left _ _
    · exact Nat.le_trans (depth_mem h) (Nat.le_max_right _ _)
mutual
/-- the greatest length of a list or tuple within -/
def wide : PyData → Nat
  | .list xs => max xs.length (wideAll xs)
  | .tuple xs => max xs.length (wideAll xs)
  | _ => 0
def wideAll : List PyData → Nat
  | [] => 0
  | x :: r => max (wide x) (wideAll r)
end
theorem wide_mem : ∀ {ds : List PyData} {d : PyData}, d ∈ ds → wide d ≤ wideAll ds
  | x :: r, d, h => by
    have e : wideAll (x :: r) = max (wide x) (wideAll r) := by simp [wideAll]
    rw [e]
    rcases List.mem_cons.mp h with rfl | h
    · exact Nat.le_max_left _ _
    · exact Nat.le_trans (wide_mem h) (Nat.le_max_right _ _)
/-- both read as one piece of data: they are the same -/
def spSame (K : PySem.W.Frag) : Nat → Sp
  | 0 => fun _ _ _ _ => False
  | n + 1 => fun vs H Q _ => ∃ (x y : V) (d : PyData), vs = [x, y] ∧ Dp K H x d ∧ Dp K H y d ∧ d.depth ≤ n ∧ wide d ≤ 90000 ∧ ∀ H', Same H H' → Q (.bl true) H'
end
section
variable {P : Program} {w : World} {K : PySem.W.Frag} {mg : Str → Option Value} {base : Heap}
theorem ok_never {CX : CXT} {k : Nat} {f : Addr} {fd : FuncData} {ps : List Str} : FnOk P w K mg base CX k f fd ps (fun _ _ _ _ => False) := ⟨fun _ _ _ _ z => z.elim, fun _ _ _ _ _ _ _ _ _ _ _ _ _ z => z.elim⟩
end
section
variable {K : PySem.W.Frag}
theorem walk_zipT {a b : Addr} {xs ys : List V} {n : Nat} (hn : n = min xs.length ys.length) : Walk (RZ.ItzT K a b) n (fun H => SqT K H a xs ∧ SqT K H b ys) (YPair (fun i => xs[i]?) (fun i => ys[i]?)) := by
  subst hn
  refine ⟨fun i _ hi q => ?_, fun _ q => ⟨xs, ys, q.1, q.2, by omega⟩, fun i H v H' _ q y => ?_⟩
  · have h1 : i < xs.length := by omega
    have h2 : i < ys.length := by omega
    exact ⟨xs, ys, xs[i], ys[i], q.1, q.2, by simp [h1], by simp [h2]⟩
  · obtain ⟨T, x, z, h1, h2, h3, h4, h5⟩ := y
    exact ⟨T, x, z, h1, h2, h3, h4 xs q.1, h5 ys q.2⟩
/-- a comprehension over zip(x, y), x and y both lists or both tuples of one length -/
theorem lcZ {i j : Nat} {a b : Addr} {xs ys : List V} {g : TG} {tt : TT} {te : TE} {vs : List Nat} {σ : L2.St} {H : Hp} {Q : VK} (hv1 : σ[i]? = some (some (.ref a))) (hv2 : σ[j]? = some (some (.ref b)))
    (hS : (SqL K H a xs ∧ SqL K H b ys) ∨ (SqT K H a xs ∧ SqT K H b ys)) (hl : xs.length = ys.length)
    (h : ∀ D, H D = none → ∃ Pv : Nat → Hp → Prop, Pv 0 (upd H D (.lst [])) ∧ (∀ k H', Pv k H' → Same H H') ∧
      (∀ k v H' H2, k < xs.length → Pv k H' → YPair (fun i => xs[i]?) (fun i => ys[i]?) k H' v H2 → g v (wipe σ vs) H2 fun σ2 H3 => wipe σ2 vs = wipe σ vs ∧ tt σ2 H3 fun b H4 =>
        if b = true then te σ2 H4 fun y H5 => ∃ acc, H5 D = some (.lst acc) ∧ acc.length < sizeLine ∧ Pv (k + 1) (upd H5 D (.lst (acc ++ [y]))) else Pv (k + 1) H4) ∧
      ∀ H', Pv xs.length H' → Q (.ref D) H') : tLc (RZ.iZipA K (tCons (tVar i) (tCons (tVar j) tNil))) g tt te vs σ H Q := by
  have hm : xs.length = min xs.length ys.length := by omega
  refine ⟨_, hv1, _, hv2, a, b, xs, ys, rfl, ?_⟩
  rcases hS with ⟨h1, h2⟩ | ⟨h1, h2⟩
  · refine .inl ⟨h1, h2, fun D nD => ?_⟩
    obtain ⟨Pv, p0, ps, pt, pd⟩ := h D nD
    exact lc_it (walk_zip hm) Pv p0 (fun k H' _ p => ⟨(ps k H' p).seq h1, (ps k H' p).seq h2⟩) pt pd
  · refine .inr ⟨h1, h2, fun D nD => ?_⟩
    obtain ⟨Pv, p0, ps, pt, pd⟩ := h D nD
    exact lc_it (walk_zipT hm) Pv p0 (fun k H' _ p => ⟨Same.sqt (ps k H' p) h1, Same.sqt (ps k H' p) h2⟩) pt pd
end
section
variable {K : PySem.W.Frag} {H : Hp} {σ : L2.St} {i : Nat} {v : V} {R : VK}
theorem isi1 {c : String} {t : Value} {k : Bool} (hv : σ[i]? = some (some v)) (tv : TyX K H v t) (hk : PySem.W.kitOne K t (.type c) = some k) (r : R (.bl k) H) : tCB (rIsi K) (tCons (tVar i) (tCons (tC (.ty c)) tNil)) σ H R :=
  ⟨_, hv, v, _, t, _, k, rfl, .ty c, tv, hk, r⟩
theorem isi2 {c1 c2 : String} {t : Value} {k : Bool} (hv : σ[i]? = some (some v)) (tv : TyX K H v t) (hk : PySem.W.kitAny K t [.type c1, .type c2] = some k) (r : ∀ H1, Same H H1 → R (.bl k) H1) :
    tCB (rIsiT K) (tCons (tVar i) (tCons (tTup (tCons (tC (.ty c1)) (tCons (tC (.ty c2)) tNil))) tNil)) σ H R :=
  ⟨_, hv, by show 2 ≤ sizeLine; decide, fun p np => ⟨v, p, _, t, _, k, rfl, upd_same, .cons (.ty c1) (.cons (.ty c2) .nil), TyX.same tv (same_upd np), hk, r _ (same_upd np)⟩⟩
theorem isi3 {c1 c2 c3 : String} {t : Value} {k : Bool} (hv : σ[i]? = some (some v)) (tv : TyX K H v t) (hk : PySem.W.kitAny K t [.type c1, .type c2, .type c3] = some k) (r : ∀ H1, Same H H1 → R (.bl k) H1) :
    tCB (rIsiT K) (tCons (tVar i) (tCons (tTup (tCons (tC (.ty c1)) (tCons (tC (.ty c2)) (tCons (tC (.ty c3)) tNil)))) tNil)) σ H R :=
  ⟨_, hv, by show 3 ≤ sizeLine; decide, fun p np => ⟨v, p, _, t, _, k, rfl, upd_same, .cons (.ty c1) (.cons (.ty c2) (.cons (.ty c3) .nil)), TyX.same tv (same_upd np), hk, r _ (same_upd np)⟩⟩
theorem kit2 {k c1 c2 : String} {b1 b2 : Bool} (h1 : kitB k c1 = some b1) (h2 : kitB k c2 = some b2) : PySem.W.kitAny K (.type k) [.type c1, .type c2] = some (b1 || b2) := by
  refine kitAny_cons (kit_ty h1) (fun e => ?_) (fun e => by rw [e]; rfl)
  rw [e, Bool.false_or]
  exact kitAny_cons (kit_ty h2) (fun e => by rw [e]; exact kitAny_nil) (fun e => e)
theorem kit3 {k c1 c2 c3 : String} {b1 b2 b3 : Bool} (h1 : kitB k c1 = some b1) (h2 : kitB k c2 = some b2) (h3 : kitB k c3 = some b3) : PySem.W.kitAny K (.type k) [.type c1, .type c2, .type c3] = some (b1 || (b2 || b3)) := by
  refine kitAny_cons (kit_ty h1) (fun e => ?_) (fun e => by rw [e]; rfl)
  rw [e, Bool.false_or]
  exact kit2 h2 h3
end
def isL : PyData → Bool
  | .list _ => true
  | _ => false
theorem kd_L : ∀ d : PyData, kitB (kindD d) "list" = some (isL d)
  | .none => (by decide +kernel : kitB "NoneType" "list" = some false)
  | .bool _ => (by decide +kernel : kitB "bool" "list" = some false)
  | .int _ => (by decide +kernel : kitB "int" "list" = some false)
  | .str _ => (by decide +kernel : kitB "str" "list" = some false)
  | .list _ => (by decide +kernel : kitB "list" "list" = some true)
  | .tuple _ => (by decide +kernel : kitB "tuple" "list" = some false)
  | .dict _ => (by decide +kernel : kitB "dict" "list" = some false)
def isT : PyData → Bool
  | .tuple _ => true
  | _ => false
theorem kd_T : ∀ d : PyData, kitB (kindD d) "tuple" = some (isT d)
  | .none => (by decide +kernel : kitB "NoneType" "tuple" = some false)
  | .bool _ => (by decide +kernel : kitB "bool" "tuple" = some false)
  | .int _ => (by decide +kernel : kitB "int" "tuple" = some false)
  | .str _ => (by decide +kernel : kitB "str" "tuple" = some false)
  | .list _ => (by decide +kernel : kitB "list" "tuple" = some false)
  | .tuple _ => (by decide +kernel : kitB "tuple" "tuple" = some true)
  | .dict _ => (by decide +kernel : kitB "dict" "tuple" = some false)
def isI : PyData → Bool
  | .bool _ => true
  | .int _ => true
  | _ => false
theorem kd_I : ∀ d : PyData, kitB (kindD d) "int" = some (isI d)
  | .none => (by decide +kernel : kitB "NoneType" "int" = some false)
  | .bool _ => (by decide +kernel : kitB "bool" "int" = some true)
  | .int _ => (by decide +kernel : kitB "int" "int" = some true)
  | .str _ => (by decide +kernel : kitB "str" "int" = some false)
  | .list _ => (by decide +kernel : kitB "list" "int" = some false)
  | .tuple _ => (by decide +kernel : kitB "tuple" "int" = some false)
  | .dict _ => (by decide +kernel : kitB "dict" "int" = some false)
def isB : PyData → Bool
  | .bool _ => true
  | _ => false
theorem kd_B : ∀ d : PyData, kitB (kindD d) "bool" = some (isB d)
  | .none => (by decide +kernel : kitB "NoneType" "bool" = some false)
  | .bool _ => (by decide +kernel : kitB "bool" "bool" = some true)
  | .int _ => (by decide +kernel : kitB "int" "bool" = some false)
  | .str _ => (by decide +kernel : kitB "str" "bool" = some false)
  | .list _ => (by decide +kernel : kitB "list" "bool" = some false)
  | .tuple _ => (by decide +kernel : kitB "tuple" "bool" = some false)
  | .dict _ => (by decide +kernel : kitB "dict" "bool" = some false)
theorem flat_eq {K : PySem.W.Frag} {H : Hp} {x y : V} {d : PyData} (hx : Dp K H x d) (hy : Dp K H y d) (h : (isL d || isT d) = false) : x = y ∧ scal x y = true := by
  cases hx <;> cases hy <;> first | exact ⟨rfl, rfl⟩ | cases h
theorem cb1 {r : List V → Hp → VK → Prop} {te : TE} {σ : L2.St} {H : Hp} {R : VK} (h : te σ H fun x H1 => r [x] H1 R) : tCB r (tCons te tNil) σ H R := h
theorem lt_one (a b : Nat) : decide (([a] : List Nat) < [b]) = decide (a < b) := by
  by_cases h : a < b
  · rw [decide_eq_true h]
    exact decide_eq_true (List.cons_lt_cons_iff.mpr (.inl h))
  · rw [decide_eq_false h]
    refine decide_eq_false fun z => ?_
    rcases List.cons_lt_cons_iff.mp z with z | ⟨_, z⟩
    · exact h z
    · exact absurd z (by simp)
theorem filter_all {α : Type} {p : α → Bool} : ∀ {l : List α}, (l.filter p).length = l.length ↔ l.all p = true
  | [] => by simp
  | x :: r => by
    have ih := filter_all (p := p) (l := r)
    have hle := List.length_filter_le p r
    cases h : p x with
    | true =>
      rw [List.filter_cons_of_pos h, List.all_cons, h, Bool.true_and, List.length_cons, List.length_cons, ← ih]
      omega
    | false =>
      rw [List.filter_cons_of_neg (by rw [h]; exact Bool.false_ne_true), List.all_cons, h, Bool.false_and, List.length_cons]
      constructor
      · intro e
        omega
      · intro e
        cases e
/-- the law's own look at a name -/
theorem name_by_letters {z : Str} {n : Nat} (h : n = (z.cps.toList.filter fun c => decide (c ∈ lettersL)).length) : isNameS z = (decide (0 < n) && decide (n < 9) && decide (n = z.length)) := by
  have e : z.length = z.cps.toList.length := by simp [Str.length]
  unfold isNameS
  by_cases ha : (z.cps.toList.all fun c => decide (c ∈ lettersL)) = true
  · have hn := filter_all.mpr ha
    rw [ha, Bool.and_true, e, h, hn]
    rw [decide_eq_true (rfl : z.cps.toList.length = z.cps.toList.length), Bool.and_true, decide_eq_decide.mpr (show 1 ≤ z.cps.toList.length ↔ 0 < z.cps.toList.length by omega), decide_eq_decide.mpr (show z.cps.toList.length ≤ 8 ↔ z.cps.toList.length < 9 by omega)]
  · have hn : ¬ n = z.length := fun q => ha (filter_all.mp (by rw [← h, q, e]))
    rw [decide_eq_false hn, Bool.and_false]
    have : (z.cps.toList.all fun c => decide (c ∈ lettersL)) = false := by
      cases q : z.cps.toList.all fun c => decide (c ∈ lettersL) with
      | true => exact absurd q ha
      | false => rfl
    rw [this, Bool.and_false]
end Bk

namespace Bk
open PySem PySem.Spec PyProof.Rows L2
section
variable {X : Cx} {CX : CXT} {k n : Nat} {f C : Addr} {fd : FuncData} {ps ks : List Str} {sp : Sp} {E : L2.St → XK} {x : Str} {p pos : Pos} {e : Expr} {es : List Expr} {kws : List Keyword} {t tk : TA} {g : List Value → List Value → List Value} {gV : List V → List V → List V}
/-- C(.., k = v, ..) within a try: what the making raises is wished for at the slots as they stand -/
def tMakeKS (C : Addr) (n m : Nat) (sp : Sp) (gV : List V → List V → List V) (E : L2.St → XK) (t tk : TA) : TE := fun σ H Q => t σ H fun vs H1 => tk σ H1 fun zs H2 => vs.length = n ∧ zs.length = m ∧ ∀ y dx, H2 y = none → H2 dx = none → dx ≠ y →
  sp (gV (.ref y :: vs) zs) (upd (upd H2 dx (.own y)) y (.ins C dx [])) (fun v H3 => v = .non ∧ Q (.ref y) H3) (E σ)
theorem pe_makeKS (M : Mk X.K C f) (F : FnOk X.prog X.w X.K X.mg X.base CX k f fd ps sp) (hr : Room (k + 1) X.A) (hg : Gl X x) (hm : X.mg x = some (.ref C)) (hb : KBn X.K fd ps (n + 1) ks g gV) (hx : ∀ σ, PassesAt CX X σ (E σ)) (ha : PA X (e :: es) t) (hkw : PK X kws tk)
    (hall : (backToKw pos (keywordEach kws X.env)).all (·.1.isSome) = true := by rfl) (hks : (backToKw pos (keywordEach kws X.env)).filterMap (·.1) = ks := by rfl) (hdb : (x == ("__debug__" : Str)) = false := by decide)
    (he : starEach (e :: es) X.env = (false, eval e X.env) :: starEach es X.env := by rfl) (hpl : ((backTo pos (starEach (e :: es) X.env)).any (·.1) || (backToKw pos (keywordEach kws X.env)).any (·.1.isNone)) = false := by rfl) :
    PE X (.Call (.Name x p) (e :: es) kws pos) (tMakeKS C n ks.length sp gV E t tk) := by
  refine ⟨fun pins s σ H Q I h => wpAny_Call_Name_kw (ld_glob I hg hm ?_ hdb)⟩
  refine PySem.W.callWith_KW (h₀ := X.base) I.ok.mod.kin M.kp hall (thn (ha.run pos pins s σ H _ I h) fun us s1 ⟨vs, H1, I1, r, q⟩ => ?_) hpl he
  refine thn (hkw.run pos pins s1 σ H1 _ I1 q) fun ws s2 ⟨zs, H2, I2, rz, l1, l2, q2⟩ => ⟨I2.kIn, ?_⟩
  rw [hks]
  have hq := q2 (s2.heap.objs.size + 1) s2.heap.objs.size (I2.hok.fresh (Nat.le_succ _)) (I2.hok.fresh (Nat.le_refl _)) (Nat.ne_of_lt (Nat.lt_succ_self _))
  have J := Inv.made (C := C) I2
  have rel : Vals (V.ref (s2.heap.objs.size + 1) :: vs) (Value.ref (s2.heap.objs.size + 1) :: us) := .cons rfl r
  have len1 : (Value.ref (s2.heap.objs.size + 1) :: us).length = n + 1 := by rw [List.length_cons, ← r.length, l1]
  refine wpAny_call (make_map (f := f) I2.kIn M.makes M.init (beq_iff_eq.mp M.fn) (codeAny_mono (F.run _ X.stack _ _ ⟨_, ks.zip ws⟩ _ _ _ (E σ) (hr.make C us (ks.zip ws)) (J.env0.make C us (ks.zip ws)) (hb.to _ _ ws J.kIn len1 (rz.length.symm.trans l2)) (hb.rel rel rz) hq) fun r s' hq' => ?_))
  cases r with
  | error er => exact hx σ pins _ _ er s' J hq'
  | ok fl =>
    cases fl with
    | ret u =>
      obtain ⟨v, H', J3, rv, ev, q3⟩ := J.after hq'
      subst ev
      exact ⟨rv, ⟨V.ref (s2.heap.objs.size + 1), H', J3, rfl, q3⟩⟩
    | next => exact hq'.elim
    | brk => exact hq'.elim
    | cont => exact hq'.elim
theorem kFld (K : PySem.W.Frag) {ta : TE} {fl : Str} (he : PE X e ta) (hk : X.K = K := by rfl) (hb : attributeBase e fl X.env (eval e X.env) = eval e X.env := by rfl) : PE X (.Attribute e fl pos) (tFld K ta fl) := hk ▸ pe_fld he hb
end
end Bk

namespace Bk
open PySem PySem.Spec PyProof.Rows L2
section
variable {K : PySem.W.Frag} {H H' : Hp} {st c : Addr}
theorem TyX.keep {x : V} {t : Value} (h : TyX K H x t) (e : ∀ p o, x = .ref p → H p = some o → H' p = some o) : TyX K H' x t := by
  cases h with
  | base b =>
    cases b with
    | non => exact .base .non
    | bl y => exact .base (.bl y)
    | int i => exact .base (.int i)
    | str y => exact .base (.str y)
    | flt y => exact .base (.flt y)
    | lst q => exact .base (.lst (e _ _ rfl q))
    | frz q => exact .base (.frz (e _ _ rfl q))
    | tup q => exact .base (.tup (e _ _ rfl q))
    | dK q => exact .base (.dK (e _ _ rfl q))
    | dT q => exact .base (.dT (e _ _ rfl q))
    | ins q c1 c2 c3 c4 c5 => exact .base (.ins (e _ _ rfl q) c1 c2 c3 c4 c5)
  | byt b => exact .byt b
  | set q => exact .set (e _ _ rfl q)
  | kList q c => exact .kList q c
  | kTuple q c => exact .kTuple q c
  | kDict q c => exact .kDict q c
  | fTuple q => exact .fTuple (e _ _ rfl q)
  | fDict q => exact .fDict (e _ _ rfl q)
theorem sql_keep {a : Addr} {xs : List V} (h : SqL K H a xs) (e : ∀ o, H a = some o → H' a = some o) : SqL K H' a xs := by
  rcases h with (h | ⟨o, h⟩) | h
  · exact .inl (.inl (e _ h))
  · exact .inl (.inr ⟨o, e _ h⟩)
  · exact .inr h
theorem fcons {p : V → Prop} {x : V} {l : List V} (h : p x) (r : ∀ y ∈ l, p y) : ∀ y ∈ x :: l, p y := fun y m => by
  rcases List.mem_cons.mp m with rfl | m
  · exact h
  · exact r y m
/-- not the stream's own objects -/
def Off (st c : Addr) (x : V) : Prop := ∀ p, x = .ref p → p ≠ st ∧ p ≠ c
theorem Off.ref {p : Addr} (h1 : p ≠ st) (h2 : p ≠ c) : Off st c (.ref p) := fun q e => by cases e; exact ⟨h1, h2⟩
theorem Off.flat {x : V} (h : flatV x = true) : Off st c x := fun q e => by subst e; cases h
def Far (K : PySem.W.Frag) (H : Hp) (st c : Addr) (x : V) : Prop := Itm K H x ∧ Off st c x
theorem Far.kept {x : V} (h : Far K H st c x) (k : Kept st c H H') : Far K H' st c x := by
  obtain ⟨⟨t, a, b⟩, o⟩ := h
  exact ⟨⟨t, TyX.keep a fun p u e q => k p u (o p e).1 (o p e).2 q, b⟩, o⟩
theorem Far.str {z : Str} (h : z.length ≤ 100000) : Far K H st c (.str z) := ⟨.str h, Off.flat rfl⟩
theorem itm_kit {x : V} {k : String} (t : TyX K H x (.type k)) (h : kitB k "str" = some false) (hs : isStr x = false) : Itm K H x := ⟨_, t, by rw [hs]; exact kit_ty h, fun z e => by subst e; cases hs⟩
theorem sqs_kit {x : V} {k : String} {b1 b2 : Bool} (t : TyX K H x (.type k)) (h1 : kitB k "list" = some b1) (h2 : kitB k "tuple" = some b2) : Sqs K H x (b1 || b2) := ⟨_, t, kit2 h1 h2⟩
/-- a thing of any objects, none of them the stream's -/
def ThF (K : PySem.W.Frag) (H : Hp) (st c : Addr) (x : V) (o : Option (List V)) : Prop := Thing K H x o ∧ Off st c x ∧ ∀ xs, o = some xs → ∀ y ∈ xs, Far K H st c y
theorem ThF.kept {x : V} {o : Option (List V)} (h : ThF K H st c x o) (k : Kept st c H H') : ThF K H' st c x o := by
  obtain ⟨T, off, hy⟩ := h
  refine ⟨?_, off, fun xs e y m => (hy xs e y m).kept k⟩
  have sq : ∀ {b : Bool}, Sqs K H x b → Sqs K H' x b := fun ⟨t, a, b⟩ => ⟨t, TyX.keep a fun p u e q => k p u (off p e).1 (off p e).2 q, b⟩
  cases T with
  | @seq a xs hS b hi hl =>
    have ka : ∀ o, H a = some o → H' a = some o := fun o q => k a o (off a rfl).1 (off a rfl).2 q
    exact .seq (hS.imp (fun z => sql_keep z ka) fun z => ka _ z) (sq b) (fun y m => ((hy xs rfl y m).kept k).1) hl
  | no b => exact .no (sq b)
theorem thf_lst {a : Addr} {xs : List V} (h : H a = some (.lst xs)) (h1 : a ≠ st) (h2 : a ≠ c) (hl : xs.length ≤ 100000) (hy : ∀ y ∈ xs, Far K H st c y) : ThF K H st c (.ref a) (some xs) :=
  ⟨.seq (.inl (SqL.of h)) (sqs_kit (k := "list") (b1 := true) (b2 := false) (.base (.lst h)) (by decide +kernel) (by decide +kernel)) (fun y m => (hy y m).1) hl, Off.ref h1 h2, fun ys e y m => by cases e; exact hy y m⟩
theorem thf_tup {a : Addr} {xs : List V} (h : H a = some (.tup xs)) (h1 : a ≠ st) (h2 : a ≠ c) (hl : xs.length ≤ 100000) (hy : ∀ y ∈ xs, Far K H st c y) : ThF K H st c (.ref a) (some xs) :=
  ⟨.seq (.inr h) (sqs_kit (k := "tuple") (b1 := false) (b2 := true) (.base (.tup h)) (by decide +kernel) (by decide +kernel)) (fun y m => (hy y m).1) hl, Off.ref h1 h2, fun ys e y m => by cases e; exact hy y m⟩
theorem thf_no {x : V} {k : String} (t : TyX K H x (.type k)) (h1 : kitB k "list" = some false) (h2 : kitB k "tuple" = some false) (o : Off st c x) : ThF K H st c x none := ⟨.no (sqs_kit t h1 h2), o, fun _ e => by cases e⟩
/-- what a turn of the law starts from: the stream and the list of odd things -/
structure Ground (K : PySem.W.Frag) (H : Hp) (st c od : Addr) (n : Nat) : Prop where
  S : Strm H st c n
  n1 : od ≠ st
  n2 : od ≠ c
  odd : ∃ xs, H od = some (.lst xs) ∧ xs.length = 14 ∧ ∀ x ∈ xs, Far K H st c x
theorem Ground.kept {od : Addr} {n n' : Nat} (G : Ground K H st c od n) (S : Strm H' st c n') (k : Kept st c H H') : Ground K H' st c od n' := by
  obtain ⟨xs, h1, h2, h3⟩ := G.odd
  exact ⟨S, G.n1, G.n2, xs, k _ _ G.n1 G.n2 h1, h2, fun x m => (h3 x m).kept k⟩
theorem pk_lst {a : Addr} {xs : List V} (h : SqL K H a xs) (n1 : a ≠ st) (n2 : a ≠ c) : Pk K H st c (.ref a) xs.length (fun j => xs.getD j .non) :=
  .lst h n1 n2 fun j hj => by rw [List.getD_eq_getElem?_getD, List.getElem?_eq_getElem hj]; rfl
theorem getD_mem {xs : List V} {j : Nat} (h : j < xs.length) : xs.getD j .non ∈ xs := by
  rw [List.getD_eq_getElem?_getD, List.getElem?_eq_getElem h]
  exact List.getElem_mem h
/-! ### the answers as data -/
theorem dp_strs : ∀ zs : List Str, DpAll K H (zs.map V.str) (zs.map PyData.str)
  | [] => .nil
  | x :: r => .cons (.str x) (dp_strs r)
theorem depth_strs : ∀ zs : List Str, PyData.depthAll (zs.map PyData.str) = 0
  | [] => by simp [PyData.depthAll]
  | x :: r => by
    have := depth_strs r
    simp [PyData.depthAll, PyData.depth, this]
theorem wide_strs : ∀ zs : List Str, wideAll (zs.map PyData.str) = 0
  | [] => by simp [wideAll]
  | x :: r => by
    have := wide_strs r
    simp [wideAll, wide, this]
def dMade (zs : List Str) : PyData := .tuple [.str (Str.ofString "made"), .tuple (zs.map PyData.str)]
def dBad (i : Nat) : PyData := .tuple [.str (Str.ofString "bad"), .int (i : Int)]
theorem dp_made {p t : Addr} {zs : List Str} (hp : H p = some (.tup [.str (Str.ofString "made"), .ref t])) (ht : SqT K H t (zs.map V.str)) : Dp K H (.ref p) (dMade zs) := .tup (SqT.of hp) (.cons (.str _) (.cons (.tup ht (dp_strs zs)) .nil))
theorem dp_bad {p : Addr} {i : Nat} (hp : H p = some (.tup [.str (Str.ofString "bad"), .int (i : Int)])) : Dp K H (.ref p) (dBad i) := .tup (SqT.of hp) (.cons (.str _) (.cons (.int _) .nil))
theorem made_depth (zs : List Str) : (dMade zs).depth ≤ 3 := by
  have := depth_strs zs
  simp [dMade, PyData.depth, PyData.depthAll, this]
theorem bad_depth (i : Nat) : (dBad i).depth ≤ 3 := by simp [dBad, PyData.depth, PyData.depthAll]
theorem made_wide {zs : List Str} (h : zs.length ≤ 100) : wide (dMade zs) ≤ 90000 := by
  have := wide_strs zs
  simp [dMade, wide, wideAll, this]
  omega
theorem bad_wide (i : Nat) : wide (dBad i) ≤ 90000 := by simp [dBad, wide, wideAll]
end
end Bk

namespace Bk
open PySem PySem.Spec PyProof.Rows L2
section
variable {K : PySem.W.Frag}
/-! ### the top's facts -/
theorem fun_of {x qual : Str} {st : Stmt} {f : Addr} {fd : FuncData} (F : FunD K x qual (defArgs st) (defBody st) (defScope st) [] [] f fd) : Fun K x qual st f fd := by
  obtain ⟨⟨oc, od, dV, kV, doc, pm, an, cdv, ct, osl, rfl, lk, hcd, hD, _⟩, kp⟩ := F
  rcases hD with ⟨_, rfl⟩ | ⟨e, _⟩
  · exact ⟨⟨oc, od, kV, doc, pm, an, cdv, ct, osl, rfl, lk, hcd⟩, kp⟩
  · exact absurd rfl e
def mroE (C : Addr) : List Value → Bool
  | .ref C' :: bm => decide (C' = C) && PySem.HandSPX.refsVE bm
  | _ => false
theorem mroE_ok {C : Addr} {l : List Value} (h : mroE C l = true) : ∃ bm, l = .ref C :: bm ∧ PySem.HandSPX.refsVE bm = true := by
  unfold mroE at h
  split at h
  · obtain ⟨h1, h2⟩ := Bool.and_eq_true_iff.mp h
    have e := of_decide_eq_true h1
    subst e
    exact ⟨_, rfl, h2⟩
  · cases h
def sixE : List (Option Value) → Bool
  | [_, _, _, _, some (.builtin n), _] => decide (n = "ValueError.__new__")
  | _ => false
theorem sixE_ok {l : List (Option Value)} (h : sixE l = true) : ∃ a b c d e, l = [a, b, c, d, some (.builtin "ValueError.__new__"), e] := by
  unfold sixE at h
  split at h
  · have e := of_decide_eq_true h
    subst e
    exact ⟨_, _, _, _, _, rfl⟩
  · cases h
/-- the class at C is an own error class whose maker is ValueError's -/
def ownErr (K : PySem.W.Frag) (C : Addr) : Bool := match K.lookup C with
  | some ⟨.type t, _, .cls cd, sl⟩ => decide (t = "type") && (cd.hasDict && (!cd.hasDel && (mroE C cd.mro && sixE sl.toList)))
  | _ => false
theorem ownErr_ok {C : Addr} (h : ownErr K C = true) : ∃ nm q N bs bm sn sub ab col dd k0 k1 k2 k3 k5, K.lookup C = some (excClassObj nm q C N bs bm true sn sub ab col dd k0 k1 k2 k3 k5 "ValueError.__new__") ∧ PySem.HandSPX.refsVE bm = true := by
  unfold ownErr at h
  split at h
  · rename_i t dd cd sl q
    obtain ⟨h1, h⟩ := Bool.and_eq_true_iff.mp h
    obtain ⟨h2, h⟩ := Bool.and_eq_true_iff.mp h
    obtain ⟨h3, h⟩ := Bool.and_eq_true_iff.mp h
    obtain ⟨h4, h5⟩ := Bool.and_eq_true_iff.mp h
    have e1 := of_decide_eq_true h1
    obtain ⟨bm, e4, e5⟩ := mroE_ok h4
    obtain ⟨a, b, c, d, e, e6⟩ := sixE_ok h5
    obtain ⟨l⟩ := sl
    obtain ⟨c1, c2, c3, c4, c5, c6, c7, c8, c9, c10, c11⟩ := cd
    subst e1
    simp only at h2 h3 e4 e6
    subst h2 e4 e6
    have h3 : c11 = false := by
      cases c11 with
      | true => cases h3
      | false => rfl
    subst h3
    exact ⟨c1, c5, c4, c2, bm, c7, c8, c9, c10, dd, a, b, c, d, e, q, e5⟩
  · cases h
/-- what the law asks of an own error class beyond its facts by name -/
def errB (K : PySem.W.Frag) (C f : Addr) : Bool := ownErr K C && (xfB K C && (decide (PySem.W.subIn K (.ref C) (.type "BaseException") = some true) && (decide (PySem.W.typeIn K (.ref C) = some (.type "type")) && (PySem.W.keepIn K (.ref C) && (decide (PySem.W.typeIn K (.ref f) = some (.type "function")) &&
  decide (PySem.W.findIn K (.ref C) "__setattr__" = some (some (.builtin "object.__setattr__"))))))))
theorem errB_ok {mg : Str → Option Value} {x : Str} {C fI : Addr} {f : Str} (h : errB K C fI = true) (g : mg x = some (.ref C)) (noF : PySem.W.findIn K (.ref C) f = some none) (iC : PySem.W.findIn K (.ref C) "__init__" = some (some (.ref fI))) (te : PySem.W.exmOne K (.ref C) (.ref C) = some true) : ExT K mg x C fI f := by
  obtain ⟨h1, h⟩ := Bool.and_eq_true_iff.mp h
  obtain ⟨h2, h⟩ := Bool.and_eq_true_iff.mp h
  obtain ⟨h3, h⟩ := Bool.and_eq_true_iff.mp h
  obtain ⟨h4, h⟩ := Bool.and_eq_true_iff.mp h
  obtain ⟨h5, h⟩ := Bool.and_eq_true_iff.mp h
  obtain ⟨h6, h7⟩ := Bool.and_eq_true_iff.mp h
  exact ⟨g, ⟨ownErr_ok h1, of_decide_eq_true h7, of_decide_eq_true h3, of_decide_eq_true h4, h5⟩, xfB_ok h2, noF, iC, of_decide_eq_true h6, te⟩
/-- isinstance of the instances of the class at C -/
def insB (K : PySem.W.Frag) (C : Addr) : Bool := decide (PySem.W.findIn K (.ref C) "__class__" = some (some (.builtin "object.__class__"))) && (decide (PySem.W.specialIn K (.builtin "object.__class__") "__get__" = some (some (.builtin "getset_descriptor.__get__"))) &&
  (decide (PySem.W.takesIn K (.builtin "object.__class__") = some true) && decide (PySem.W.mroIn K C (.type "object") = some true)))
theorem insB_ok {C : Addr} (h : insB K C = true) (c : Cls K C) (H : Hp) (x dx : Addr) (fs : List (Str × V)) (e : H x = some (.ins C dx fs)) : TyX K H (.ref x) (.ref C) := by
  obtain ⟨h1, h⟩ := Bool.and_eq_true_iff.mp h
  obtain ⟨h2, h⟩ := Bool.and_eq_true_iff.mp h
  obtain ⟨h3, h4⟩ := Bool.and_eq_true_iff.mp h
  exact .base (.ins e c (of_decide_eq_true h1) (of_decide_eq_true h2) (of_decide_eq_true h3) (of_decide_eq_true h4))
end
end Bk

/-! len, in, comparisons and subscripts of instances whose class says them itself: my own rules beside the layer's -/
namespace Bk
open PySem PySem.Spec PyProof.Rows L2
section
variable {X : Cx} {CX : CXT} {n : Nat} {C f : Addr} {fd : FuncData} {ps : List Str} {sp : Sp} {E : XK} {A : Around}
/-- a def of the text called from within a builtin -/
theorem own_run {pins : List (Addr × Obj)} {σ : L2.St} {H : Hp} {s : Shared} {Q : VK} {vs : List V} {us : List Value} (F : FnOk X.prog X.w X.K X.mg X.base CX n f fd ps sp) (hb : Binds X.K fd ps []) (hx : Passes CX X E) (sb : Sub X n A) (I : Inv X pins σ H s) (r : Vals vs us)
    (h : sp vs H Q E) : wpAny (model X.prog X.w) A (call (.ref f) us) (EP X pins σ Q) X.xe s := by
  have e := I.env0
  have e0 : Env0 X.prog X.w X.K X.mg X.base A X.stack s H := ⟨by rw [sb.fr]; exact e.frames, e.mod, e.bs, e.bsz, e.funs, e.frf, e.hok, e.bare⟩
  have hl := F.len _ _ _ _ h
  refine wpAny_call (codeAny_mono (F.run A X.stack s H ⟨us, []⟩ us vs _ E sb.room e0 (by
    have := hb s us I.kIn (by rw [List.append_nil, ← r.length, hl])
    simpa using this) r h) fun z s' hq => ?_)
  cases z with
  | error er => exact hx pins σ H s er s' I hq
  | ok fl =>
    cases fl with
    | ret w => exact I.after hq
    | next => exact False.elim hq
    | brk => exact False.elim hq
    | cont => exact False.elim hq
/-- a method that the class at C says itself, by name -/
structure Own (K : PySem.W.Frag) (C : Addr) (m : Str) (f : Addr) : Prop where
  at_ : PySem.W.findIn K (.ref C) m = some (some (.ref f))
  fn : PySem.W.isFn K (.ref f) = true
/-- len(x) -/
def rLenOwn (C : Addr) (sp : Sp) (E : XK) : List V → Hp → VK → Prop := fun xs H Q => ∃ (a dx : Addr) (fs : List (Str × V)), xs = [.ref a] ∧ H a = some (.ins C dx fs) ∧ sp [.ref a] H (fun v H' => ∃ k : Int, v = .int k ∧ 0 ≤ k ∧ k < 2 ^ 63 ∧ Q (.int k) H') E
theorem call_lenOwn (F : FnOk X.prog X.w X.K X.mg X.base CX n f fd ps sp) (hb : Binds X.K fd ps []) (hx : Passes CX X E) (hr : Room (n + 1) X.A) (m : Own X.K C "__len__" f) : CallR X (.builtin "len") (rLenOwn C sp E) := by
  intro pins s σ H xs us Q I r h
  obtain ⟨a, dx, fs, rfl, ha, hs⟩ := h
  cases r with
  | cons ra rn =>
    cases rn
    cases ra
    obtain ⟨mA, J, _⟩ := ins_get I.hok ha
    obtain ⟨od, J, _⟩ := J.look
    have sb : Sub X (n + 1) X.A := ⟨hr, rfl⟩
    obtain ⟨_, hF⟩ := I.fr
    refine PySem.W.len_K hF I.ok.mod.kin J m.at_ m.fn (wpAny_mono (own_run (vs := [.ref a]) F hb hx sb.in1 I (.cons rfl .nil) hs) (fun v s' hv => ?_) fun _ _ z => z)
    obtain ⟨x, H', I', rv, k, rfl, h0, h1, q⟩ := hv
    obtain ⟨t, rfl⟩ := rv
    exact ⟨⟨h0, h1⟩, .int k, H', I'.tok _, ⟨_, rfl⟩, q⟩
/-- x in y, y such an instance -/
def rInOwn (C : Addr) (sp : Sp) (E : XK) (neg : Bool) : R2 := fun x y H Q => ∃ (a dx : Addr) (fs : List (Str × V)), y = .ref a ∧ H a = some (.ins C dx fs) ∧ sp [.ref a, x] H (fun v H' => ∃ b : Bool, v = .bl b ∧ Q (.bl (if neg then !b else b)) H') E
theorem op_inOwn (F : FnOk X.prog X.w X.K X.mg X.base CX n f fd ps sp) (hb : Binds X.K fd ps []) (hx : Passes CX X E) (hr : Room n X.A) (m : Own X.K C "__contains__" f) : OpR X (compareOp .In) (rInOwn C sp E false) := by
  intro pins s σ H x y v u Q I rx ry h
  obtain ⟨a, dx, fs, rfl, ha, hs⟩ := h
  cases ry
  obtain ⟨mA, J, _⟩ := ins_get I.hok ha
  obtain ⟨od, J, _⟩ := J.look
  obtain ⟨_, hF⟩ := I.fr
  refine PySem.W.in_K hF I.ok.mod.kin J m.at_ m.fn (wpAny_mono (own_run (vs := [.ref a, x]) F hb hx ⟨hr, rfl⟩ I (.cons rfl (.cons rx .nil)) hs) (fun v s' hv => ?_) fun _ _ z => z)
  obtain ⟨x, H', I', rv, b, rfl, q⟩ := hv
  cases rv
  exact wpAny_truthy_bool ⟨.bl b, H', I', rfl, q⟩
theorem op_notInOwn (F : FnOk X.prog X.w X.K X.mg X.base CX n f fd ps sp) (hb : Binds X.K fd ps []) (hx : Passes CX X E) (hr : Room n X.A) (m : Own X.K C "__contains__" f) : OpR X (compareOp .NotIn) (rInOwn C sp E true) := by
  intro pins s σ H x y v u Q I rx ry h
  obtain ⟨a, dx, fs, rfl, ha, hs⟩ := h
  cases ry
  obtain ⟨mA, J, _⟩ := ins_get I.hok ha
  obtain ⟨od, J, _⟩ := J.look
  obtain ⟨_, hF⟩ := I.fr
  refine PySem.W.notIn_K hF I.ok.mod.kin J m.at_ m.fn (wpAny_mono (own_run (vs := [.ref a, x]) F hb hx ⟨hr, rfl⟩ I (.cons rfl (.cons rx .nil)) hs) (fun v s' hv => ?_) fun _ _ z => z)
  obtain ⟨x, H', I', rv, b, rfl, q⟩ := hv
  cases rv
  exact wpAny_truthy_bool ⟨.bl (!b), H', I', rfl, q⟩
end
section
variable {X : Cx} {pins : List (Addr × Obj)} {σ : L2.St} {H : Hp} {s : Shared}
theorem looks_cls {M : Model} {h : Heap} {a : Addr} {o : Obj} {t : Value} (e : h.get? a = some o) (c : o.cls = t) : PySem.W.Looks M h (typeOf (.ref a)) t := fun _ _ _ _ k q => wpAny_typeOf_ref (k _ _ e) (by rw [c]; exact q)
/-- the class of what a tracked value stands for -/
theorem type_of {x : V} {u t : Value} (I : Inv X pins σ H s) (rx : RelV x u) (ty : TyX X.K H x t) : PySem.W.Looks (model X.prog X.w) s.heap (typeOf u) t := by
  cases ty with
  | base b =>
    cases b with
    | non => cases (show u = Value.none from rx); exact PySem.W.Looks.of_pure rfl
    | bl y => cases (show u = Value.bool y from rx); exact PySem.W.Looks.of_pure rfl
    | int i => obtain ⟨t, q⟩ := (show ∃ t, u = Value.int i t from rx); cases q; exact PySem.W.Looks.of_pure rfl
    | str y => obtain ⟨t, q⟩ := (show ∃ t, u = Value.str y t from rx); cases q; exact PySem.W.Looks.of_pure rfl
    | flt y => obtain ⟨t, q⟩ := (show ∃ t, u = Value.float y t from rx); cases q; exact PySem.W.Looks.of_pure rfl
    | @lst a xs ea =>
      cases (show u = Value.ref a from rx)
      obtain ⟨_, _, n, _, h1⟩ := (show ObjOk X.prog X.w H s.heap a (.lst xs) from I.hok a _ ea)
      exact looks_cls h1 rfl
    | @frz a ob xs ea =>
      cases (show u = Value.ref a from rx)
      obtain ⟨_, _, _, n, _, h1⟩ := (show ObjOk X.prog X.w H s.heap a (.frz ob (.lst xs)) from I.hok a _ ea)
      exact looks_cls h1 rfl
    | @tup a xs ea =>
      cases (show u = Value.ref a from rx)
      obtain ⟨_, _, _, o, h1, h2, _⟩ := (show ObjOk X.prog X.w H s.heap a (.tup xs) from I.hok a _ ea)
      exact looks_cls h1 h2
    | @dK a kvs ea =>
      cases (show u = Value.ref a from rx)
      obtain ⟨_, _, vs, _, o, es, ep, h1, h2, _⟩ := (show ObjOk X.prog X.w H s.heap a (.dK kvs) from I.hok a _ ea)
      exact looks_cls h1 h2.1
    | @dT a kvs ea =>
      cases (show u = Value.ref a from rx)
      obtain ⟨_, _, xs, _, o, es, ep, h1, h2, _⟩ := (show ObjOk X.prog X.w H s.heap a (.dT kvs) from I.hok a _ ea)
      exact looks_cls h1 h2.1
    | @ins a C dx fs ea cl ha hn htk hm =>
      cases (show u = Value.ref a from rx)
      obtain ⟨mA, O, _⟩ := ins_get I.hok ea
      exact looks_cls O.obj rfl
  | byt y => obtain ⟨t, q⟩ := (show ∃ t, u = Value.bytes y t from rx); cases q; exact PySem.W.Looks.of_pure rfl
  | @set a S n ea =>
    cases (show u = Value.ref a from rx)
    obtain ⟨o, _, _, _, e, ex, _⟩ := I.hok a _ ea
    exact looks_cls e ex.1
  | @kList a o e c =>
    cases (show u = Value.ref a from rx)
    exact looks_cls (I.kIn a o e) c
  | @kTuple a o e c =>
    cases (show u = Value.ref a from rx)
    exact looks_cls (I.kIn a o e) c
  | @kDict a o e c =>
    cases (show u = Value.ref a from rx)
    exact looks_cls (I.kIn a o e) c
  | @fTuple a o xs ea =>
    cases (show u = Value.ref a from rx)
    obtain ⟨_, _, _, _, o', h1, h2, _⟩ := (show ObjOk X.prog X.w H s.heap a (.frz o (.tup xs)) from I.hok a _ ea)
    exact looks_cls h1 h2
  | @fDict a o kvs ea =>
    cases (show u = Value.ref a from rx)
    obtain ⟨_, _, _, vs, _, o', es, ep, h1, h2, _⟩ := (show ObjOk X.prog X.w H s.heap a (.frz o (.dK kvs)) from I.hok a _ ea)
    exact looks_cls h1 h2.1
end
section
variable {X : Cx} {CX : CXT} {n : Nat} {C f : Addr} {fd : FuncData} {ps : List Str} {sp : Sp} {E : XK}
/-- x op y, x an instance whose class says the comparison itself; it tells a truth value -/
def rCmpOwn (K : PySem.W.Frag) (C : Addr) (sp : Sp) (E : XK) : R2 := fun x y H Q => ∃ (a dx : Addr) (fs : List (Str × V)) (t : Value), x = .ref a ∧ H a = some (.ins C dx fs) ∧ TyX K H y t ∧ PySem.W.notFirst K C t = true ∧ sp [.ref a, y] H (fun v H' => ∃ b : Bool, v = .bl b ∧ Q (.bl b) H') E
theorem op_cmpOwn {op : CmpOp} (F : FnOk X.prog X.w X.K X.mg X.base CX n f fd ps sp) (hb : Binds X.K fd ps []) (hx : Passes CX X E) (hr : Room n X.A) (m : Own X.K C (cmpInfo op).2.1 f) (hop : compareOp op = richCompare op := by rfl) : OpR X (compareOp op) (rCmpOwn X.K C sp E) := by
  intro pins s σ H x y v u Q I rx ry h
  obtain ⟨a, dx, fs, t, rfl, ha, ty, nf, hs⟩ := h
  cases rx
  obtain ⟨mA, J, _⟩ := ins_get I.hok ha
  obtain ⟨od, J, _⟩ := J.look
  obtain ⟨_, hF⟩ := I.fr
  rw [hop]
  refine PySem.W.cmp_K (op := op) hr.units0 hF I.ok.mod.kin J (type_of I ry ty) nf m.at_ m.fn (wpAny_mono (own_run (vs := [.ref a, y]) F hb hx ⟨hr, rfl⟩ I (.cons rfl (.cons ry .nil)) hs) (fun v s' hv => ?_) fun _ _ z => z)
  obtain ⟨z, H', I', rv, b, rfl, q⟩ := hv
  cases rv
  exact ⟨.bl b, H', I', rfl, q⟩
end
end Bk

/-! == with an instance on the right whose class says == itself, and in of a tuple for such an instance -/
namespace Bk
open PySem PySem.Spec PyProof.Rows L2
open AutoSeq1 (wpAny_loadPart')
open MeetsSeq
theorem str_eq_inst (b : Str) (u : Tok) (l : Addr) (c : Value) (dd : Option Addr) (sl : Array (Option Value)) :
    Meets (Builtin.«str.__eq__» ⟨[.str b u, .ref l], []⟩) (fun _ R s => s.heap.get? l = some { cls := c, dict := dd, data := .plain, slots := sl } ∧ R (.ok (.ret .notImplemented)) s) :=
  .of_wp fun prog w A R s h => by obtain ⟨hp, g, d, tk, os⟩ := s; obtain ⟨hl, h⟩ := h; wp_walk using wpAny_loadPart' hl, wpAny_load hl; exact ⟨_, rfl, h⟩
theorem int_eq_inst (b : Int) (u : Tok) (l : Addr) (c : Value) (dd : Option Addr) (sl : Array (Option Value)) :
    Meets (Builtin.«int.__eq__» ⟨[.int b u, .ref l], []⟩) (fun _ R s => s.heap.get? l = some { cls := c, dict := dd, data := .plain, slots := sl } ∧ R (.ok (.ret .notImplemented)) s) :=
  .of_wp fun prog w A R s h => by obtain ⟨hp, g, d, tk, os⟩ := s; obtain ⟨hl, h⟩ := h; wp_walk using wpAny_loadPart' hl, wpAny_load hl; exact ⟨_, rfl, h⟩
def NotSub (C : Addr) (T : String) (s : Shared) : Prop := ∀ (M : Model) (A : Around) (E : Value → Shared → Prop) (Q : Bool → Shared → Prop), Q false s → wpAny M A (isSubtype (.ref C) (.type T)) Q E s
theorem list_eq_inst (l b C : Addr) (items : Array Value) (n : Nat) (dd db : Option Addr) (sl sb : Array (Option Value)) :
    Meets (Builtin.«list.__eq__» ⟨[.ref l, .ref b], []⟩) (fun _ R s => s.heap.get? l = some { cls := .type "list", dict := dd, data := .seq items n, slots := sl } ∧ s.heap.get? b = some { cls := .ref C, dict := db, data := .plain, slots := sb } ∧ NotSub C "list" s ∧ R (.ok (.ret .notImplemented)) s) :=
  .of_wp fun prog w A R s h => by obtain ⟨hp, g, d, tk, os⟩ := s; obtain ⟨hl, hb, hn, h⟩ := h; wp_walk using wpAny_loadPart' hl, wpAny_loadPart' hb; refine hn _ _ _ _ ?_; wp_walk; exact ⟨_, rfl, h⟩
theorem tuple_eq_inst (l b C : Addr) (items : Array Value) (n : Nat) (dd db : Option Addr) (sl sb : Array (Option Value)) :
    Meets (Builtin.«tuple.__eq__» ⟨[.ref l, .ref b], []⟩) (fun _ R s => s.heap.get? l = some { cls := .type "tuple", dict := dd, data := .seq items n, slots := sl } ∧ s.heap.get? b = some { cls := .ref C, dict := db, data := .plain, slots := sb } ∧ NotSub C "tuple" s ∧ R (.ok (.ret .notImplemented)) s) :=
  .of_wp fun prog w A R s h => by obtain ⟨hp, g, d, tk, os⟩ := s; obtain ⟨hl, hb, hn, h⟩ := h; wp_walk using wpAny_loadPart' hl, wpAny_loadPart' hb; refine hn _ _ _ _ ?_; wp_walk; exact ⟨_, rfl, h⟩
section
variable {X : Cx} {prog : Program} {w : World} {A : Around} {E : Value → Shared → Prop} {s : Shared} {K : PySem.W.Frag} {a C f : Addr} {ox : Obj} {od : Option Obj} {u : Value} {T id : String}
theorem rc_own_refl {Q : Value → Shared → Prop} (hu : A.units < cLine) (X : K.In s.heap) (ha : s.TypeIs u T) (I : PySem.W.InstAt s.heap a ox C od) (hsub : PySem.W.subIn K (.ref C) (.type T) = some false) (h1 : Slot T (cmpInfo .Eq).2.1 id)
    (hc1 : ∀ Q' : Value → Shared → Prop, Q' .notImplemented s → wpAny (model prog w) A (call (.builtin id) [u, .ref a]) Q' E s)
    (hs : PySem.W.findIn K (.ref C) "__eq__" = some (some (.ref f))) (hf : PySem.W.isFn K (.ref f) = true) (h : wpAny (model prog w) A (call (.ref f) [.ref a, u]) (PySem.W.CmpBack Q) E s) : wpAny (model prog w) A (richCompare .Eq u (.ref a)) Q E s := by
  have one : wpAny (model prog w) A (tryCompare (.ref a) (cmpInfo .Eq).2.2 u) (fun r s' => ∃ v, r = some v ∧ Q v s') E s := by
    unfold tryCompare
    refine wpAny_bind (PySem.W.ifBound_K X I hs hf (wpAny_mono h (fun v s' hv => ?_) fun _ _ e => e))
    cases v <;> first | exact hv.elim | exact wpAny_pure ⟨_, rfl, hv⟩
  rcases hi : cmpInfo CmpOp.Eq with ⟨sym, f1, r⟩
  rw [hi] at h1 one
  simp only [richCompare, hi, ha.oneThing_none]
  try with_reducible refine wpAny_holding ?_
  refine wpAny_bind (wpAny_cRoomFor_or (.inr hu) ?_)
  refine wpAny_bind (wpAny_typeOf ha (wpAny_bind (I.type.here ?_)))
  have hne : (Value.type T != Value.ref C) = true := rfl
  simp only [hne, if_true]
  refine wpAny_bind ((PySem.W.looks_subIn X hsub).here ?_)
  simp only [Bool.false_eq_true, if_false, Bool.not_false, if_true]
  refine wpAny_bind (m := tryCompare u _ (.ref a)) (wpAny_tryCompare_declines ha h1 (hc1 _ ⟨rfl, ?_⟩))
  refine wpAny_bind (m := tryCompare (.ref a) _ u) (wpAny_mono one (fun r s' z => ?_) fun _ _ e => e)
  obtain ⟨v, rfl, hq⟩ := z
  exact wpAny_pure hq
end
/-- values of the kinds whose own == knows nothing of an instance -/
inductive Bik (H : Hp) : V → String → Prop where
  | non : Bik H .non "NoneType"
  | int (i : Int) : Bik H (.int i) "int"
  | str (z : Str) : Bik H (.str z) "str"
  | lst {l : Addr} {xs : List V} (h : H l = some (.lst xs)) : Bik H (.ref l) "list"
  | tup {l : Addr} {xs : List V} (h : H l = some (.tup xs)) : Bik H (.ref l) "tuple"
section
variable {X : Cx} {CX : CXT} {n : Nat} {C f : Addr} {fd : FuncData} {ps : List Str} {sp : Sp} {E : XK}
theorem not_sub {K : PySem.W.Frag} {T : String} {s : Shared} (X : K.In s.heap) (h : PySem.W.subIn K (.ref C) (.type T) = some false) : NotSub C T s := fun M A E Q q => (PySem.W.looks_subIn X h).here q
def rEqRefl (K : PySem.W.Frag) (C : Addr) (sp : Sp) (E : XK) : R2 := fun x y H Q => ∃ (a dx : Addr) (fs : List (Str × V)) (T : String), y = .ref a ∧ H a = some (.ins C dx fs) ∧ Bik H x T ∧ PySem.W.subIn K (.ref C) (.type T) = some false ∧ sp [.ref a, x] H (fun v H' => ∃ b : Bool, v = .bl b ∧ Q (.bl b) H') E
/-- the comparison of such a value with an instance, at any place below the body -/
theorem rc_refl {A : Around} {pins : List (Addr × Obj)} {σ : L2.St} {H : Hp} {s : Shared} {x : V} {v : Value} {a dx : Addr} {fs : List (Str × V)} {T : String} {Q : VK} (FO : FnOk X.prog X.w X.K X.mg X.base CX n f fd ps sp) (hb : Binds X.K fd ps []) (hx : Passes CX X E) (sb : Sub X n A) (m : Own X.K C "__eq__" f)
    (I : Inv X pins σ H s) (rx : RelV x v) (ha : H a = some (.ins C dx fs)) (bk : Bik H x T) (hsub : PySem.W.subIn X.K (.ref C) (.type T) = some false) (hs : sp [.ref a, x] H (fun v H' => ∃ b : Bool, v = .bl b ∧ Q (.bl b) H') E) :
    wpAny (model X.prog X.w) A (richCompare .Eq v (.ref a)) (EP X pins σ Q) X.xe s := by
  obtain ⟨mA, O, _⟩ := ins_get I.hok ha
  have ob := O.obj
  obtain ⟨od, J, _⟩ := O.look
  have hu : A.units < cLine := sb.room.units0
  have fin : wpAny (model X.prog X.w) A (call (.ref f) [.ref a, v]) (PySem.W.CmpBack (EP X pins σ Q)) X.xe s := by
    refine wpAny_mono (own_run (vs := [.ref a, x]) FO hb hx sb I (.cons rfl (.cons rx .nil)) hs) (fun v s' hv => ?_) fun _ _ z => z
    obtain ⟨z, H', I', rv, b, rfl, q⟩ := hv
    cases rv
    exact ⟨.bl b, H', I', rfl, q⟩
  cases bk with
  | non =>
    cases rx
    exact rc_own_refl hu I.kIn rfl J hsub F.slot_NoneType_eq (fun _ hq => call_gives F.slot_NoneType_eq rfl F.entry_NoneType_eq (F.args_NoneType_eq_2 _ _) (SeqAt.NoneType___eq___none_ref_0 a) hq) m.at_ m.fn fin
  | int i =>
    obtain ⟨t, rfl⟩ := rx
    exact rc_own_refl hu I.kIn (typeIs_int s i t) J hsub F.slot_int_eq (fun _ hq => call_meets F.slot_int_eq (typeIs_int s i t) F.entry_int_eq (F.args_int_eq_2 _ _) (int_eq_inst i t a (.ref C) _ _) ⟨ob, hq⟩) m.at_ m.fn fin
  | str z =>
    obtain ⟨t, rfl⟩ := rx
    exact rc_own_refl hu I.kIn (typeIs_str s z t) J hsub F.slot_str_eq (fun _ hq => call_meets F.slot_str_eq (typeIs_str s z t) F.entry_str_eq (F.args_str_eq_2 _ _) (str_eq_inst z t a (.ref C) _ _) ⟨ob, hq⟩) m.at_ m.fn fin
  | @lst l xs hl =>
    cases rx
    obtain ⟨_, its, k, _, h1⟩ := (show ObjOk X.prog X.w H s.heap l (.lst xs) from I.hok l _ hl)
    exact rc_own_refl hu I.kIn ⟨_, h1, rfl⟩ J hsub F.slot_list_eq (fun _ hq => call_meets F.slot_list_eq ⟨_, h1, rfl⟩ F.entry_list_eq (F.args_list_eq_2 _ _) (list_eq_inst l a C _ _ _ _ _ _) ⟨h1, ob, not_sub I.kIn hsub, hq⟩) m.at_ m.fn fin
  | @tup l xs hl =>
    cases rx
    obtain ⟨_, its, _, o, h1, h2, k, h3⟩ := (show ObjOk X.prog X.w H s.heap l (.tup xs) from I.hok l _ hl)
    obtain ⟨cls, dd, data, sl⟩ := o
    simp only at h2 h3
    subst h2 h3
    exact rc_own_refl hu I.kIn ⟨_, h1, rfl⟩ J hsub F.slot_tuple_eq (fun _ hq => call_meets F.slot_tuple_eq ⟨_, h1, rfl⟩ F.entry_tuple_eq (F.args_tuple_eq_2 _ _) (tuple_eq_inst l a C _ _ _ _ _ _) ⟨h1, ob, not_sub I.kIn hsub, hq⟩) m.at_ m.fn fin
theorem op_eqRefl (FO : FnOk X.prog X.w X.K X.mg X.base CX n f fd ps sp) (hb : Binds X.K fd ps []) (hx : Passes CX X E) (hr : Room n X.A) (m : Own X.K C "__eq__" f) : OpR X (compareOp .Eq) (rEqRefl X.K C sp E) := by
  intro pins s σ H x y v u Q I rx ry h
  obtain ⟨a, dx, fs, T, rfl, ha, bk, hsub, hs⟩ := h
  cases ry
  show wpAny (model X.prog X.w) X.A (richCompare .Eq v (.ref a)) (EP X pins σ Q) X.xe s
  exact rc_refl FO hb hx ⟨hr, rfl⟩ m I rx ha bk hsub hs
end
end Bk

/-! in of a tuple of texts for an instance whose class says == itself -/
namespace Bk
open PySem PySem.Spec PyProof.Rows L2
open AutoSeq1 (wpAny_loadPart')
open MeetsSeq MeetsSeq2 MeetsSeq3 SeqRoads2
section
variable {prog : Program} {w : World} {A : Around} {R : Result → Shared → Prop}
theorem contains_no (l : Addr) (items : Array Value) (n : Nat) (dd : Option Addr) (sl : Array (Option Value)) (x : Value) (I : Shared → Prop)
    (turn : ∀ y, y ∈ items → ∀ s, I s → wpAny (model prog w) A.in1 (eqBool y x) (fun r s' => r = false ∧ I s') (fun e s' => R (.error e) s') s) (fin : ∀ s, I s → R (.ok (.ret (.bool false))) s)
    {s : Shared} (hl : s.heap.get? l = some { cls := .type "tuple", dict := dd, data := .seq items n, slots := sl }) (h : I s) :
    wpAny (model prog w) A.in1 (Builtin.«tuple.__contains__» ⟨[.ref l, x], []⟩) (GQ.FinOf prog w A R) (fun e s' => R (.error e) s') s := by
  have h0 := h
  obtain ⟨hp, g, d, tk, os⟩ := s
  wp_walk using wpAny_loadPart' hl, wpAny_forIn_array _ (fun rest b s' => b.1 = none ∧ (∀ y, y ∈ rest → y ∈ items) ∧ I s') _

  case turn =>
    rintro y rest b s' ⟨hb, hmem, hI⟩
    refine wpAny_bind (wpAny_mono (turn y (hmem y (List.mem_cons_self ..)) s' hI) (fun r s2 q2 => ?_) fun _ _ x => x)
    obtain ⟨hr, q2⟩ := q2
    subst hr
    wp_walk
    exact ⟨rfl, fun z hz => hmem z (List.mem_cons_of_mem _ hz), q2⟩
  case fin =>
    rintro ⟨b1, b2⟩ s' ⟨hb, -, hI⟩
    simp only at hb
    subst hb
    have hR := fin s' hI
    wp_walk
    simpa using hR
  case h =>
    exact ⟨rfl, fun y hy => by simpa using hy, h0⟩
end
section
variable {X : Cx} {CX : CXT} {n : Nat} {C f : Addr} {fd : FuncData} {ps : List Str} {sp : Sp} {E : XK}
theorem strs_vals : ∀ {zs : List Str} {us : List Value}, Vals (zs.map V.str) us → ∀ u ∈ us, ∃ z ∈ zs, RelV (.str z) u
  | [], _, r, u, hu => by cases r; cases hu
  | z :: zs, _, r, u, hu => by
    cases r with
    | cons r1 r2 =>
      rcases List.mem_cons.mp hu with rfl | hu
      · exact ⟨z, List.mem_cons_self, r1⟩
      · obtain ⟨z', m, q⟩ := strs_vals r2 u hu
        exact ⟨z', List.mem_cons_of_mem _ m, q⟩
def rInOdd (K : PySem.W.Frag) (C : Addr) (sp : Sp) (E : XK) : R2 := fun x y H Q => ∃ (a dx p : Addr) (fs : List (Str × V)) (zs : List Str), x = .ref a ∧ y = .ref p ∧ H a = some (.ins C dx fs) ∧ H p = some (.tup (zs.map V.str)) ∧ PySem.W.subIn K (.ref C) (.type "str") = some false ∧
  (∀ z ∈ zs, ∀ H', Ext H H' → sp [.ref a, .str z] H' (fun v H'' => ∃ b : Bool, v = .bl b ∧ ∃ c : Bool, V.bl b = .bl c ∧ c = false ∧ Ext H H'') E) ∧ ∀ H', Ext H H' → Q (.bl false) H'
theorem op_inOdd (FO : FnOk X.prog X.w X.K X.mg X.base CX n f fd ps sp) (hb : Binds X.K fd ps []) (hx : Passes CX X E) (hr : Room (n + 1) X.A) (m : Own X.K C "__eq__" f) : OpR X (compareOp .In) (rInOdd X.K C sp E) := by
  intro pins s σ H x y v u Q I rx ry h
  obtain ⟨a, dx, p, fs, zs, rfl, rfl, ha, hp, hsub, hs, q⟩ := h
  cases rx
  cases ry
  have sb : Sub X (n + 1) X.A := ⟨hr, rfl⟩
  obtain ⟨_, its, rv, o, h1, h2, k, h3⟩ := (show ObjOk X.prog X.w H s.heap p (.tup (zs.map V.str)) from I.hok p _ hp)
  obtain ⟨cls, dd, data, sl⟩ := o
  simp only at h2 h3
  subst h2 h3
  have turn : ∀ y, y ∈ its.toArray → ∀ s, (∃ H', Inv X pins σ H' s ∧ Ext H H') → wpAny (model X.prog X.w) X.A.in1 (eqBool y (.ref a)) (fun r s' => r = false ∧ ∃ H', Inv X pins σ H' s' ∧ Ext H H') X.xe s := by
    rintro y hy s1 ⟨H1, I1, e1⟩
    obtain ⟨z, mz, rz⟩ := strs_vals rv y (by simpa using hy)
    have rz' := rz
    obtain ⟨t, rfl⟩ := rz
    unfold eqBool
    refine wpAny_holding ?_
    refine wpAny_ite_split (fun hab => absurd (eq_of_beq hab) nofun) (fun _ => ?_)
    refine wpAny_bind (wpAny_mono (rc_refl (Q := fun v H' => ∃ b : Bool, v = .bl b ∧ b = false ∧ Ext H H') FO hb hx sb.in1 m I1 rz' (e1 _ _ ha) (.str z) hsub ?_) (fun r s' hv => ?_) fun _ _ x => x)
    · exact hs z mz H1 e1
    · obtain ⟨w, H', I', rw', b, rfl, rfl, e⟩ := hv
      cases rw'
      exact wpAny_truthy_bool ⟨rfl, H', I', e⟩
  show wpAny _ X.A (do return .bool (← contains (.ref p) (.ref a))) (EP X pins σ Q) X.xe s
  refine wpAny_bind (wpAny_contains_slot (T := "tuple") ⟨_, h1, rfl⟩ F.slot_tuple_contains (wpAny_mono (GQ.call_here (E := X.xe) (Q := fun v s' => v = .bool false ∧ ∃ H', Inv X pins σ H' s' ∧ Ext H H') F.slot_tuple_contains ⟨_, h1, rfl⟩ F.entry_tuple_contains (F.args_tuple_contains_2 _ _) (contains_no p _ _ _ _ (.ref a) (fun s' => ∃ H', Inv X pins σ H' s' ∧ Ext H H') turn (fun s' q => ⟨rfl, q⟩) h1 ⟨H, I, Ext.rfl'⟩)) (fun v s' hv => ?_) fun _ _ x => x))
  obtain ⟨rfl, H', I', e⟩ := hv
  exact wpAny_truthy_bool (wpAny_pure ⟨.bl false, H', I', rfl, q H' e⟩)
end
end Bk

/-! != of two instances of a class that says == itself and nothing of != -/
namespace Bk
open PySem PySem.Spec PyProof.Rows L2
theorem ns_some {K : PySem.W.Frag} {h : Heap} {N : Addr} {mN : Str → Option Value} {m : Str} {u : Value} (kin : K.In h) (ns : h.Ns N mN) (e : PySem.W.nsIn K N m = some (some u)) : mN m = some u := by
  obtain ⟨ob, ents, epo, atN, dat, _, look⟩ := ns
  unfold PySem.W.nsIn at e
  split at e
  · rename_i cl di ents' epo' slo lk
    have both := kin _ _ lk
    rw [atN] at both
    cases both
    cases dat
    split at e
    · rename_i ent found
      cases e
      rw [← look]
      unfold nsFind findBy
      rw [← Array.find?_toList, found]
      rfl
    · split at e <;> cases e
  · cases e
def sixB : List (Option Value) → Bool
  | [_, _, _, _, some (.builtin _), _] => true
  | _ => false
theorem sixB_ok {l : List (Option Value)} (h : sixB l = true) : ∃ a b c d n e, l = [a, b, c, d, some (.builtin n), e] := by
  unfold sixB at h
  split at h
  · exact ⟨_, _, _, _, _, _, rfl⟩
  · cases h
def eqCls (K : PySem.W.Frag) (C f : Addr) : Bool := match K.lookup C with
  | some ⟨.type t, _, .cls cd, sl⟩ => decide (t = "type") && (decide (cd.mro = [.ref C, .type "object"]) && (!cd.hasDel && (sixB sl.toList && (PySem.W.nsOkIn K cd.ns && (decide (PySem.W.nsIn K cd.ns "__eq__" = some (some (.ref f))) && decide (PySem.W.nsIn K cd.ns "__ne__" = some none))))))
  | _ => false
theorem eqCls_ok {K : PySem.W.Frag} {C f x : Addr} {h : Heap} {o : Obj} (X : K.In h) (e : eqCls K C f = true) (hf : PySem.W.isFn K (.ref f) = true) (hx : h.get? x = some o) (hc : o.cls = .ref C) : h.OwnEqNoNe x C f "object" [.type "object"] := by
  unfold eqCls at e
  split at e
  · rename_i t dd cd sl q
    obtain ⟨h1, e⟩ := Bool.and_eq_true_iff.mp e
    obtain ⟨h2, e⟩ := Bool.and_eq_true_iff.mp e
    obtain ⟨h3, e⟩ := Bool.and_eq_true_iff.mp e
    obtain ⟨h4, e⟩ := Bool.and_eq_true_iff.mp e
    obtain ⟨h5, e⟩ := Bool.and_eq_true_iff.mp e
    obtain ⟨h6, h7⟩ := Bool.and_eq_true_iff.mp e
    have e1 := of_decide_eq_true h1
    have e2 := of_decide_eq_true h2
    obtain ⟨a, b, c, d, n, e', e6⟩ := sixB_ok h4
    obtain ⟨l⟩ := sl
    obtain ⟨c1, c2, c3, c4, c5, c6, c7, c8, c9, c10, c11⟩ := cd
    subst e1
    simp only at e2 e6 h5 h6 h7
    subst e2 e6
    have h3 : c11 = false := by
      cases c11 with
      | true => cases h3
      | false => rfl
    subst h3
    have hN : h.Ns c4 (h.nsMap c4) := .of_isNs (PySem.W.isNs_of_in X h5)
    have hff : ∃ of, h.get? f = some of ∧ of.cls = .type "function" := by
      have z : (K.lookup f).map (·.cls) = some (.type "function") := beq_iff_eq.mp hf
      cases q2 : K.lookup f with
      | none =>
        rw [q2] at z
        cases z
      | some of =>
        rw [q2] at z
        exact ⟨of, X _ _ q2, Option.some.inj z⟩
    obtain ⟨of, g1, g2⟩ := hff
    exact ⟨o, of, c1, c5, c4, c2, c6, c7, c8, c9, c10, dd, a, b, c, d, e', n, h.nsMap c4, _, hx, hc, X _ _ q, hN, ns_some X hN (of_decide_eq_true h6), g1, g2, F.cmp_object.mro, F.cmp_object.eq.lookup, PySem.W.nsMap_none_of_in X h5 (of_decide_eq_true h7)⟩
  · cases e
section
variable {X : Cx} {CX : CXT} {n : Nat} {C f : Addr} {fd : FuncData} {ps : List Str} {sp : Sp} {E : XK}
def rNeOwn (C : Addr) (sp : Sp) (E : XK) : R2 := fun x y H Q => ∃ (a dx b dy : Addr) (fs gs : List (Str × V)), x = .ref a ∧ y = .ref b ∧ H a = some (.ins C dx fs) ∧ H b = some (.ins C dy gs) ∧ sp [.ref a, .ref b] H (fun v H' => ∃ r : Bool, v = .bl r ∧ Q (.bl (!r)) H') E
theorem op_neOwn (FO : FnOk X.prog X.w X.K X.mg X.base CX n f fd ps sp) (hb : Binds X.K fd ps []) (hx : Passes CX X E) (hr : Room (n + 1) X.A) (e : eqCls X.K C f = true) (hf : PySem.W.isFn X.K (.ref f) = true) : OpR X (compareOp .NotEq) (rNeOwn C sp E) := by
  intro pins s σ H x y v u Q I rx ry h
  obtain ⟨a, dx, b, dy, fs, gs, rfl, rfl, ha, hb', hs⟩ := h
  cases rx
  cases ry
  have sb : Sub X (n + 1) X.A := ⟨hr, rfl⟩
  obtain ⟨mA, OA, _⟩ := ins_get I.hok ha
  obtain ⟨mB, OB, _⟩ := ins_get I.hok hb'
  obtain ⟨hp, g, d, t, os⟩ := s
  refine compareOp_ne_ownEq F.cmp_object (eqCls_ok I.kIn e hf OA.obj rfl) OB.obj rfl (hu_of hr) (wpAny_mono (own_run (vs := [.ref a, .ref b]) FO hb hx sb.in1 I (.cons rfl (.cons rfl .nil)) hs) (fun v s' hv => ?_) fun _ _ z => z)
  obtain ⟨z, H', I', rv, r, rfl, q⟩ := hv
  cases rv
  exact ⟨r, rfl, .bl (!r), H', I', rfl, q⟩
end
end Bk

/-! an own exception made by one keyword: type.__call__, BaseException.__new__, the own __init__ -/
namespace PySem
namespace HandSPX
open Builtin Builtin.ObjectAttr
open PySem.Calls PyProof.Rows
section
variable {M : Model} {A : Around} {E : Value → Shared → Prop} {h : Heap} {g : Array GenState} {d : Drawn} {t : Nat} {os : OsState}
variable {nm q : Str} {C N : Addr} {bs bm bmB : List Value} {hdct : Bool} {sn : List Str} {sub : List Value} {ab : Bool} {col : Option Bool} {dd : Option Addr} {k0 k1 k2 k3 k5 : Option Value} {B newId initId : String}
theorem bk_check_new (F : ExcBaseFacts B newId initId bmB) (hT : ∀ X : String, bm.contains (.type X) = bmB.contains (.type X)) {kn : Str} {ku : Value} {Q : Unit → Shared → Prop}
    (hC : h.get? C = some (excClassObj nm q C N bs bm hdct sn sub ab col dd k0 k1 k2 k3 k5 newId)) (hq : Q () ⟨h, g, d, t, os⟩) : wpAny M A (checkBuiltinCall newId ⟨[.ref C], [(kn, ku)]⟩) Q E ⟨h, g, d, t, os⟩ := by
  have hcont : (Value.ref C :: bm).contains (.type B) = true := by rw [List.contains_cons, hT, F.hasB, Bool.or_true]
  have hstar := F.noStar
  simp only [checkBuiltinCall, F.newKind, F.newSplit, F.newRow]
  repeat (first | refine wpAny_loadPart_at hC ?_ | (refine wpAny_isSubtype_exc hC ?_; rw [hcont]) | refine wpAny_staticBase_exc hC ?_ | refine wpAny_madeBy_exc hC ?_ | simp only [bne_self_eq_false, Bool.false_eq_true, if_false] | wp_step)
  exact hq
end
section
variable {prog : Program} {w : World} {A : Around} {E : Value → Shared → Prop} {R : Result → Shared → Prop} {h : Heap} {g : Array GenState} {d : Drawn} {t : Nat} {os : OsState}
variable {nm q : Str} {C N : Addr} {bs bm bmB : List Value} {hdct : Bool} {sn : List Str} {sub : List Value} {ab : Bool} {col : Option Bool} {dd : Option Addr} {k0 k1 k2 k3 k5 : Option Value} {B newId initId : String}
theorem bk_new (F : ExcBaseFacts B newId initId bmB) (hT : ∀ X : String, bm.contains (.type X) = bmB.contains (.type X)) {kn : Str} {ku : Value}
    (hC : h.get? C = some (excClassObj nm q C N bs bm hdct sn sub ab col dd k0 k1 k2 k3 k5 newId))
    (hq : R (.ok (.ret (.ref (h.objs.size + 1)))) ⟨(h.push { cls := .type "tuple", data := .seq ([] : List Value).toArray }).push
      { cls := .ref C, data := .fields #[.ref h.objs.size, .none, .none, .none, .bool false, .none] }, g, d, t, os⟩) :
    codeAny (model prog w) A (.builtin newId ⟨[.ref C], [(kn, ku)]⟩) R ⟨h, g, d, t, os⟩ := by
  have hends := F.ends
  have hrest : ([] : List Value).length ≤ sizeLine := Nat.zero_le _
  have hcB : (Value.ref C :: bm).contains (.type B) = true := by rw [List.contains_cons, hT, F.hasB, Bool.or_true]
  have hcA : (Value.ref C :: bm).contains (.type "AttributeError") = false := by rw [List.contains_cons, hT, F.noAttr]; rfl
  have hcN : (Value.ref C :: bm).contains (.type "NameError") = false := by rw [List.contains_cons, hT, F.noName]; rfl
  refine codeAny_builtinAt F.entry ?_
  unfold Builtin.«BaseException.__new__»
  refine wpAt_bind ?_
  show wpAt _ _ _ (stack >>= _) _ _ _
  refine wpAt_bind (wpAt_stack fun p below => wpAt_of_wpAny ?_)
  wp_walk
  refine wpAt_of_wpAny ?_
  rw [F.owner]
  repeat (first | with_reducible refine wpAny_madeHere_exc F.canon hC ?_ | with_reducible refine wpAny_loadPart_at hC ?_ | (with_reducible refine wpAny_isSubtype_exc hC ?_; first | rw [hcB] | rw [hcA] | rw [hcN]) | wp_step)
  show R _ _
  rw [Heap.size_push]
  exact hq
theorem bk_type_call (F : ExcBaseFacts B newId initId bmB) (hT : ∀ X : String, bm.contains (.type X) = bmB.contains (.type X)) {kn : Str} {ku : Value} {fI : Addr} {Q : Fin → Shared → Prop}
    (hC : h.get? C = some (excClassObj nm q C N bs bm hdct sn sub ab col dd k0 k1 k2 k3 k5 newId))
    (hi : W.Looks (model prog w) h (typeLookup (.ref C) "__init__") (some (.ref fI))) (hb : ∀ self, W.Looks (model prog w) h (bindSpecial (.ref fI) self) (.ref fI, [self]))
    (hq : codeAny (model prog w) A (.call (.ref fI) ⟨[.ref (h.objs.size + 1)], [(kn, ku)]⟩)
      (fun r s' => match r with | .ok (.ret v) => v = .none ∧ Q (.done (.ret (.ref (h.objs.size + 1)))) s' | .ok _ => False | .error e => E e s')
      ⟨(h.push (W.kdv_tup [])).push (excO C h.objs.size), g, d, t, os⟩) :
    wpAny (model prog w) A (Builtin.«type.__call__» ⟨[.ref C], [(kn, ku)]⟩) Q E ⟨h, g, d, t, os⟩ := by
  repeat (first | with_reducible refine wpAny_loadPart_at hC ?_ | with_reducible refine wpAny_madeBy_exc hC ?_ | wp_step)
  refine codeAny_call_builtin_code (Code.quiet_builtin _ F.quiet) (bk_check_new F hT hC ?_)
  refine bk_new F hT hC ?_
  show wpAny _ _ _ _ _ _
  have k : ∀ b o, h.get? b = some o → ((h.push (W.kdv_tup [])).push (excO C h.objs.size)).get? b = some o := fun b o e => Heap.get?_push_of_some _ (Heap.get?_push_of_some _ e)
  have hC₁ := k _ _ hC
  have hget : ((h.push (W.kdv_tup [])).push (excO C h.objs.size)).get? (h.objs.size + 1) = some (excO C h.objs.size) := by heap_get
  have hcC : (Value.ref C :: bm).contains (.ref C) = true := by simp
  have i1 := hi.keeps k
  have b1 := (hb (.ref (h.objs.size + 1))).keeps k
  unfold isInstance
  repeat (first | with_reducible refine wpAny_loadPart_at hget ?_ | (with_reducible refine wpAny_isSubtype_exc hC₁ ?_; rw [hcC]) | wp_step)
  show wpAny _ _ (typeLookup (.ref C) _) _ _ _
  refine i1.at ?_
  refine wpAny_holding (wpAny_bind (b1.at ?_))
  refine wpAny_bind (wpAny_call (codeAny_mono hq fun r s' z => ?_))
  rcases r with e | (v | _ | _ | _) <;> first | exact z | exact z.elim | skip
  obtain ⟨rfl, z⟩ := z
  first
    | exact wpAny_pure (wpAny_pure z)
    | (wp_walk; exact z)
theorem bk_call_own (F : ExcBaseFacts B newId initId bmB) (hT : ∀ X : String, bm.contains (.type X) = bmB.contains (.type X)) {kn : Str} {ku : Value} {fI : Addr}
    (hC : h.get? C = some (excClassObj nm q C N bs bm hdct sn sub ab col dd k0 k1 k2 k3 k5 newId))
    (hi : W.Looks (model prog w) h (typeLookup (.ref C) "__init__") (some (.ref fI))) (hb : ∀ self, W.Looks (model prog w) h (bindSpecial (.ref fI) self) (.ref fI, [self]))
    (hq : codeAny (model prog w) (A.under (.builtin "type.__call__" ⟨[.ref C], [(kn, ku)]⟩)) (.call (.ref fI) ⟨[.ref (h.objs.size + 1)], [(kn, ku)]⟩) (W.InitBack (h.objs.size + 1) R)
      ⟨(h.push (W.kdv_tup [])).push (excO C h.objs.size), g, d, t, os⟩) :
    codeAny (model prog w) A (.call (.ref C) ⟨[], [(kn, ku)]⟩) R ⟨h, g, d, t, os⟩ := by
  have f1 := tc_lookup
  have f2 := tc_bind (.ref C)
  have hTy : (⟨h, g, d, t, os⟩ : Shared).TypeIs (.ref C) "type" := ⟨_, hC, rfl⟩
  refine codeAny_of_tree ?_
  show wpAny _ _ (callAny (.ref C) _) _ _ _
  repeat (any_goals (first | assumption | with_reducible refine wpAny_loadPart_at hC ?_ | wp_step))
  refine ⟨rfl, ?_⟩
  refine codeAny_call_builtin_at (Code.quiet_builtin _ (by decide +kernel)) entry_typeCall (wpAny_check_type_call_sub hC (bk_type_call F hT hC hi hb ?_))
  refine codeAny_mono hq fun r s' z => ?_
  rcases r with e | (v | _ | _ | _) <;> exact z
end
end HandSPX
end PySem

namespace PySem.W
open PySem PySem.Spec PySem.Calls PyProof.Rows
section
variable {prog : Program} {w : World} {A : Around} {E : Value → Shared → Prop} {s : Shared} {K : Frag} {x D : Addr} {ox : Obj} {od : Option Obj}
theorem bk_kin_class {Q : Option Value → Shared → Prop} (hga : findIn K (.ref D) "__getattribute__" = some (some (.builtin "BaseException.__getattribute__"))) (hgt : findIn K (.ref D) "__getattr__" = some none) (hsub : subIn K (.ref D) (.type "BaseException") = some true)
    (hf : findObj K D od "__class__" = some (.bind (.builtin "getset_descriptor.__get__") (.builtin "object.__class__"))) (hm : mroIn K D (.type "object") = some true)
    (X : K.In s.heap) (I : InstAt s.heap x ox D od) (h : Q (some (.ref D)) { s with toks := s.toks + 1 }) : wpAny (model prog w) A (getAttr? (.ref x) "__class__") Q E s := by
  obtain ⟨hp, g, d, t, os⟩ := s
  have L0 := I.type (M := model prog w)
  have L1 := looks_findIn (M := model prog w) X hga
  have L2 := looks_findIn (M := model prog w) X hgt
  have L3 := looks_find (M := model prog w) X I hf
  have sub : Looks (model prog w) hp (isInstance (.ref x) (.type "BaseException")) true := L0.andThen (looks_subIn X hsub)
  have hx0 : (false && onTheHeap (Value.builtin "BaseException.__getattribute__")) = false := rfl
  have hx2 : (Value.builtin "BaseException.__getattribute__" == Value.builtin "object.__getattribute__") = false := by decide +kernel
  have hx1 : (onTheHeap (Value.ref D) && Value.builtin "BaseException.__getattribute__" == Value.builtin "object.__getattribute__") = false := by rw [hx2]; rfl
  unfold getAttr? getAttrBy? getAttrBy
  refine wpAny_bind (wpAny_mkText (wpAny_bind (wpAny_attempt (wpAny_holding (wpAny_bind (L0.at (wpAny_bind (L1.at ?_))))))))
  show wpAny _ _ (if (onTheHeap (Value.ref D) && Value.builtin "BaseException.__getattribute__" == Value.builtin "object.__getattribute__") = true then _ else _) _ _ _
  rw [hx1, if_neg Bool.false_ne_true]
  unfold getAttrByItsOwn hookBefore
  refine wpAny_bind ?_
  rw [if_pos (show onTheHeap (Value.ref D) = true from rfl)]
  refine L2.at ?_
  refine wpAny_bind (wpAny_attempt (wpAny_holding ?_))
  unfold callGetattribute
  rw [hx0, if_neg Bool.false_ne_true]
  unfold boundAndCalled
  rw [PySem.F.excAttr_ValueError.ga.bind (.ref x)]
  refine wpAny_bind (wpAny_pure ?_)
  show wpAny _ _ (call (.builtin "BaseException.__getattribute__") [.ref x, .str "__class__" t]) _ _ _
  refine wpAny_call (codeAny_call_builtin PySem.F.excAttr_ValueError.ga.plain PySem.F.entry_bexc_ga ?_)
  refine @check_slot (model prog w) _ _ ⟨hp, g, d, t + 1, os⟩ "BaseException.__getattribute__" "BaseException" "__getattribute__" (.ref x) [.str "__class__" t] [] _ (by decide +kernel) (by decide +kernel) sub (PySem.F.args_bexc_ga (.ref x) (.str "__class__" t)) ?_
  unfold Builtin.«object.__getattribute__»
  refine wpAny_bind (wpAny_of_eq (a := ((Value.ref x : Value), [Value.str "__class__" t])) (by first | rfl | (simp only [slotArgs]; rfl)) ?_)
  refine wpAny_bind (wpAny_pure (wpAny_bind (L0.at (wpAny_bind (L3.at ?_)))))
  show wpAny _ _ (holding [Value.builtin "object.__class__"] (call (.builtin "getset_descriptor.__get__") [.builtin "object.__class__", .ref x, .ref D]) >>= ret) _ _ _
  refine wpAny_bind (wpAny_holding (wpAny_call (class_get (s := ⟨hp, g, d, t + 1, os⟩) (ox := ox) (od := od) X I hm ?_)))
  refine wpAny_pure ?_
  show wpAny _ _ (handedOut (.ref D)) _ _ _
  rw [handedOut_of (v := .ref D) rfl]
  first
    | exact wpAny_pure (wpAny_pure h)
    | exact wpAny_pure h
    | exact wpAny_pure (wpAny_bind (wpAny_pure (wpAny_pure h)))
theorem bk_kitx_exc (hga : findIn K (.ref D) "__getattribute__" = some (some (.builtin "BaseException.__getattribute__"))) (hgt : findIn K (.ref D) "__getattr__" = some none) (hsub : subIn K (.ref D) (.type "BaseException") = some true) (hdct : hasDictIn K D = true)
    (hf : findObj K D od "__class__" = some (.bind (.builtin "getset_descriptor.__get__") (.builtin "object.__class__"))) (hm : mroIn K D (.type "object") = some true) :
    KitX K (.ref x) (.ref D) (fun h => InstAt h x ox D od) where
  ty := fun _ _ _ I => I.type
  it := fun _ _ X _ => by
    obtain ⟨cdD, hcD, _⟩ := any_some hdct
    unfold clsIn at hcD
    split at hcD
    · rename_i c' d' cd' sl' ho
      intro A' Q' E' s' k q
      unfold isType loadHead
      exact wpAny_bind (wpAny_loadPart (k _ _ (X _ _ ho)) (wpAny_pure q))
    · cases hcD
  ne := fun h tp dd its n sl X htp => by
    obtain ⟨cdD, hcD, _⟩ := any_some hdct
    refine Bool.eq_false_iff.mpr fun q => ?_
    have e : D = tp := Value.ref.inj (beq_iff_eq.mp q)
    subst e
    unfold clsIn at hcD
    split at hcD
    · rename_i c' d' cd' sl' ho
      have z := (X _ _ ho).symm.trans htp
      cases z
    · cases hcD
  ca := fun X I k => bk_kin_class hga hgt hsub hf hm X I k
end
end PySem.W
namespace Bk
open PySem PySem.Spec PyProof.Rows L2
/-! ### making: by place, by keyword, of nothing -/
/-- C(e, ..) as a value, C's own __init__ keeping sp -/
def tOexV (C : Addr) (sp : Sp) (ta : TA) : TE := fun σ H Q => ta σ H fun vs H1 => vs.length ≤ 1000 ∧ ∀ a, H1 a = none → sp (.ref a :: vs) (upd H1 a (exo a C none)) (fun v H2 => v = .non ∧ Q (.ref a) H2) (fun _ _ _ => False)
/-- C(k = e) as a value -/
def tOexK (C : Addr) (sp : Sp) (tk : TA) : TE := fun σ H Q => tk σ H fun zs H1 => zs.length = 1 ∧ ∀ a, H1 a = none → sp (.ref a :: zs) (upd H1 a (exo a C none)) (fun v H2 => v = .non ∧ Q (.ref a) H2) (fun _ _ _ => False)
section
variable {X : Cx} {CX : CXT} {x : Str} {C fI : Addr} {k : Nat} {fd : FuncData} {ps : List Str} {sp : Sp} {e : Expr} {es : List Expr} {ta tk : TA} {kws : List Keyword} {p pos : Pos} {kn : Str}
theorem pe_oexV (T : OexC X.K C) (iC : PySem.W.findIn X.K (.ref C) "__init__" = some (some (.ref fI))) (tI : PySem.W.typeIn X.K (.ref fI) = some (.type "function"))
    (F1 : FnOk X.prog X.w X.K X.mg X.base CX k fI fd ps sp) (hr : Room (k + 1) X.A) (hb : Binds X.K fd ps []) (hx : Passes CX X (fun _ _ _ => False)) (hg : Gl X x) (hm : X.mg x = some (.ref C)) (ha : PA X (e :: es) ta)
    (hdb : (x == ("__debug__" : Str)) = false := by decide) (he : starEach (e :: es) X.env = (false, eval e X.env) :: starEach es X.env := by rfl) (hpl : (backTo pos (starEach es X.env)).any (·.1) = false := by rfl) :
    PE X (.Call (.Name x p) (e :: es) [] pos) (tOexV C sp ta) := by
  refine ⟨fun pins s σ H Q I h => ?_⟩
  obtain ⟨nm, q, N, bs, bm, sn, sub, ab, col, dd, k0, k1, k2, k3, k5, hC, hbm⟩ := T.cls
  refine wpAny_Call_Name_kw (ld_glob I hg hm ?_ hdb)
  refine PySem.W.callWith_K (h₀ := X.base) I.ok.mod.kin T.kC (thn (ha.run pos pins s σ H _ I h) fun us s1 ⟨vs, H1, I1, r1, hz, q1⟩ => ⟨I1.kIn, ?_⟩) he hpl
  show wpAny _ _ (call (.ref C) us) _ _ _
  obtain ⟨hp, g, dr, tk, os⟩ := s1
  have hsz : hp.objs.size ≤ hp.objs.size + 1 := Nat.le_succ _
  have hn : H1 (hp.objs.size + 1) = none := I1.hok.fresh hsz
  have hq := q1 (hp.objs.size + 1) hn
  have kk : ∀ b o, hp.get? b = some o → ((hp.push (PySem.W.kdv_tup us)).push (PySem.HandSPX.excO C hp.objs.size)).get? b = some o := fun b o e => Heap.get?_push_of_some _ (Heap.get?_push_of_some _ e)
  have hget : ((hp.push (PySem.W.kdv_tup us)).push (PySem.HandSPX.excO C hp.objs.size)).get? (hp.objs.size + 1) = some (PySem.HandSPX.excO C hp.objs.size) := by heap_get
  have I2 : Inv X pins σ (upd H1 (hp.objs.size + 1) (exo (hp.objs.size + 1) C none)) ⟨(hp.push (PySem.W.kdv_tup us)).push (PySem.HandSPX.excO C hp.objs.size), g, dr, tk, os⟩ :=
    I1.laid (t' := tk) (a := hp.objs.size + 1) (o := exo (hp.objs.size + 1) C none) (h' := (hp.push (PySem.W.kdv_tup us)).push (PySem.HandSPX.excO C hp.objs.size)) kk hsz (exo_ok hget)
  have r2 : Vals (V.ref (hp.objs.size + 1) :: vs) (Value.ref (hp.objs.size + 1) :: us) := .cons rfl r1
  have hl : (Value.ref (hp.objs.size + 1) :: us ++ []).length = ps.length := by
    rw [List.append_nil]
    have e := r2.length
    rw [F1.len _ _ _ _ hq] at e
    exact e.symm
  have hus : us.length ≤ sizeLine := by
    rw [← Paired.length r1, sizeLine_eq]
    omega
  refine wpAny_call (PySem.HandSPX.call_own F.excBase_ValueError (fun Y => PySem.HandSPX.refsVE_contains Y bm hbm) (I1.kIn _ _ hC) (PySem.W.looks_findIn I1.kIn iC) (fun self => PySem.W.bind_fn I1.kIn self tI) hus
    (codeAny_mono (F1.run _ X.stack _ _ ⟨Value.ref (hp.objs.size + 1) :: us, []⟩ (Value.ref (hp.objs.size + 1) :: us) _ _ (fun _ _ _ => False) (hr.make C us []) (I2.env0.make C us []) (by have z := hb _ (Value.ref (hp.objs.size + 1) :: us) I2.kIn hl; rw [List.append_nil] at z; exact z) r2 hq) fun r s' hq' => ?_))
  cases r with
  | error er => exact hx pins σ _ _ er s' I2 hq'
  | ok fl =>
    cases fl with
    | ret u =>
      obtain ⟨v, H2, I3, rv, ev, q3⟩ := I2.after hq'
      subst ev
      exact ⟨rv, ⟨V.ref (hp.objs.size + 1), H2, I3, rfl, q3⟩⟩
    | next => exact False.elim hq'
    | brk => exact False.elim hq'
    | cont => exact False.elim hq'
theorem pe_oexK (T : OexC X.K C) (iC : PySem.W.findIn X.K (.ref C) "__init__" = some (some (.ref fI))) (tI : PySem.W.typeIn X.K (.ref fI) = some (.type "function"))
    (F1 : FnOk X.prog X.w X.K X.mg X.base CX k fI fd ps sp) (hr : Room (k + 1) X.A) (hb : ∀ (s : Shared) (a v : Value), X.K.In s.heap → BindsTo s fd ⟨[a], [(kn, v)]⟩ (ps.zip [a, v])) (hx : Passes CX X (fun _ _ _ => False)) (hg : Gl X x) (hm : X.mg x = some (.ref C)) (hkw : PK X kws tk)
    (hall : (backToKw pos (keywordEach kws X.env)).all (·.1.isSome) = true := by rfl) (hks : (backToKw pos (keywordEach kws X.env)).filterMap (·.1) = [kn] := by rfl) (hdb : (x == ("__debug__" : Str)) = false := by decide)
    (hpl : ((backTo pos (starEach [] X.env)).any (·.1) || (backToKw pos (keywordEach kws X.env)).any (·.1.isNone)) = false := by rfl) :
    PE X (.Call (.Name x p) [] kws pos) (tOexK C sp tk) := by
  refine ⟨fun pins s σ H Q I h => ?_⟩
  obtain ⟨nm, q, N, bs, bm, sn, sub, ab, col, dd, k0, k1, k2, k3, k5, hC, hbm⟩ := T.cls
  refine wpAny_Call_Name_kw (ld_glob I hg hm ?_ hdb)
  refine PySem.W.callWith_KW0 (h₀ := X.base) I.ok.mod.kin T.kC hall ?_ hpl
  refine thn (hkw.run pos pins s σ H _ I h) fun us s1 ⟨zs, H1, I1, r1, hz, q1⟩ => ⟨I1.kIn, ?_⟩
  rw [hks]
  cases r1 with
  | nil => cases hz
  | @cons z0 u0 zr ur rz rr =>
  cases rr with
  | cons _ _ => cases hz
  | nil =>
  show wpAny _ _ (call (.ref C) [] [(kn, u0)]) _ _ _
  obtain ⟨hp, g, dr, tk, os⟩ := s1
  have hsz : hp.objs.size ≤ hp.objs.size + 1 := Nat.le_succ _
  have hn : H1 (hp.objs.size + 1) = none := I1.hok.fresh hsz
  have hq := q1 (hp.objs.size + 1) hn
  have kk : ∀ b o, hp.get? b = some o → ((hp.push (PySem.W.kdv_tup [])).push (PySem.HandSPX.excO C hp.objs.size)).get? b = some o := fun b o e => Heap.get?_push_of_some _ (Heap.get?_push_of_some _ e)
  have hget : ((hp.push (PySem.W.kdv_tup [])).push (PySem.HandSPX.excO C hp.objs.size)).get? (hp.objs.size + 1) = some (PySem.HandSPX.excO C hp.objs.size) := by heap_get
  have I2 : Inv X pins σ (upd H1 (hp.objs.size + 1) (exo (hp.objs.size + 1) C none)) ⟨(hp.push (PySem.W.kdv_tup [])).push (PySem.HandSPX.excO C hp.objs.size), g, dr, tk, os⟩ :=
    I1.laid (t' := tk) (a := hp.objs.size + 1) (o := exo (hp.objs.size + 1) C none) (h' := (hp.push (PySem.W.kdv_tup [])).push (PySem.HandSPX.excO C hp.objs.size)) kk hsz (exo_ok hget)
  have r2 : Vals [V.ref (hp.objs.size + 1), z0] [Value.ref (hp.objs.size + 1), u0] := .cons rfl (.cons rz .nil)
  refine wpAny_call (PySem.HandSPX.bk_call_own F.excBase_ValueError (fun Y => PySem.HandSPX.refsVE_contains Y bm hbm) (I1.kIn _ _ hC) (PySem.W.looks_findIn I1.kIn iC) (fun self => PySem.W.bind_fn I1.kIn self tI)
    (codeAny_mono (F1.run _ X.stack _ _ ⟨[Value.ref (hp.objs.size + 1)], [(kn, u0)]⟩ [Value.ref (hp.objs.size + 1), u0] _ _ (fun _ _ _ => False) (hr.make C [] [(kn, u0)]) (I2.env0.make C [] [(kn, u0)]) (hb _ _ _ I2.kIn) r2 hq) fun r s' hq' => ?_))
  cases r with
  | error er => exact hx pins σ _ _ er s' I2 hq'
  | ok fl =>
    cases fl with
    | ret u =>
      obtain ⟨v, H2, I3, rv, ev, q3⟩ := I2.after hq'
      subst ev
      exact ⟨rv, ⟨V.ref (hp.objs.size + 1), H2, I3, rfl, q3⟩⟩
    | next => exact False.elim hq'
    | brk => exact False.elim hq'
    | cont => exact False.elim hq'
/-- C(), an own exception class without an own __init__ -/
theorem pe_exc0 {bmB : List Value} {B newId initId : String} (F : ExcBaseFacts B newId initId bmB) (q : PySem.W.excIn X.K C bmB newId = true) (gC : X.mg x = some (.ref C)) (kC : PySem.W.keepIn X.K (.ref C) = true) (hg : Gl X x)
    (hdb : (x == ("__debug__" : Str)) = false := by decide) :
    PE X (.Call (.Name x p) [] [] pos) (fun σ H Q => ∀ a, H a = none → Q (.ref a) (upd H a (ExO (.ref C) a))) := by
  refine ⟨fun pins s σ H Q I h => ?_⟩
  refine wpAny_Call_Name_kw (ld_glob I hg gC ?_ hdb)
  refine PySem.W.callWith_K0 I.kIn kC ?_
  show wpAny _ _ (call (.ref C) []) _ _ _
  obtain ⟨bm, N, nm, qn, bs, hdct, sn, sub, ab, col, dd, k0, k1, k2, k3, k5, mN, hC, hN, hni, T⟩ := exc_obj I.kIn q
  refine wpAny_call_exc_subT F T hC hN hni (fun h' a hm => ?_) (Nat.zero_le _)
  have hn : H a = none := I.hok.gone hm.new
  obtain ⟨t, ht, _, _⟩ := hm.there
  exact ⟨.ref a, upd H a (ExO (.ref C) a), I.laidN hm.keeps hm.new hn (exO_ok ht ⟨rfl, rfl⟩ rfl rfl rfl (show 4 < 6 by decide)), rfl, h a hn⟩
end
/-! ### an exception that stands -/
/-- at a stands an exception of the class at C -/
def ExV (H : Hp) (a C : Addr) : Prop := H a = some (exo a C none) ∨ (∃ d fs, H a = some (exo a C (some d)) ∧ H d = some (exd d fs)) ∨ H a = some (ExO (.ref C) a)
theorem ExV.same {H H' : Hp} {a C : Addr} (x : ExV H a C) (e : ∀ b o, H b = some o → H' b = some o) : ExV H' a C := by
  rcases x with x | ⟨d, fs, x, y⟩ | x
  · exact .inl (e _ _ x)
  · exact .inr (.inl ⟨d, fs, e _ _ x, e _ _ y⟩)
  · exact .inr (.inr (e _ _ x))
theorem ExV.inst {P : Program} {w : World} {H : Hp} {h : Heap} {a C : Addr} (x : ExV H a C) (ok : HOk P w H h) : ∃ ox od, PySem.W.InstAt h a ox C od := by
  rcases x with x | ⟨d, fs, x, y⟩ | x
  · obtain ⟨t1, ho⟩ := exo_at ok x
    exact ⟨_, none, ho, rfl, rfl, trivial⟩
  · obtain ⟨t1, ho⟩ := exo_at ok x
    obtain ⟨mA, hn, _⟩ := exd_at ok y
    obtain ⟨od, hd, _⟩ := lookIn_ns hn
    exact ⟨_, some od, ho, rfl, rfl, hd⟩
  · obtain ⟨⟨oe, vs, ho, hz, hv, _⟩, _, _⟩ := (show ObjOk P w H h a (.ext fun h => ∃ (oe : Obj) (vs : Array Value), h.get? a = some oe ∧ Zc (.ref C) none oe ∧ oe.data = .fields vs ∧ vs[1]? = some .none ∧ vs[2]? = some .none ∧ 4 < vs.size) from ok a _ x)
    obtain ⟨oc, o1, o2, osl⟩ := oe
    obtain ⟨h1, h2⟩ := hz
    dsimp only at h1 h2 hv
    subst h1 h2 hv
    exact ⟨_, none, ho, rfl, rfl, trivial⟩
/-- isinstance(e, c), e such an exception -/
def rIsX (K : PySem.W.Frag) : List V → Hp → VK → Prop := fun xs H Q => ∃ (a C : Addr) (c : V) (u : Value) (b : Bool), xs = [.ref a, c] ∧ ExV H a C ∧ ExcC K C ∧ ClsV c u ∧ PySem.W.kitOne K (.ref C) u = some b ∧ Q (.bl b) H
theorem call_isX {X : Cx} {K : PySem.W.Frag} (eK : X.K = K) : CallR X (.builtin "isinstance") (rIsX K) := by
  subst eK
  intro pins s σ H xs us Q I r h
  obtain ⟨a, C, c, u, b, rfl, at_, T, k, e, q⟩ := h
  obtain ⟨u1, u2, rfl, r1, r2⟩ := vals2 r
  have e2 := k.eq r2
  subst e2
  cases (show u1 = Value.ref a from r1)
  obtain ⟨ox, od, J⟩ := at_.inst I.hok
  have hcl : (PySem.W.clsIn X.K C).isSome = true := by obtain ⟨cd, hc, _⟩ := PySem.W.any_some T.hd; rw [hc]; rfl
  have hf : PySem.W.findObj X.K C od "__class__" = some (.bind (.builtin "getset_descriptor.__get__") (.builtin "object.__class__")) := by
    cases od with
    | none => exact PySem.W.findObj_dataN hcl T.ha T.hn T.ht
    | some od => exact PySem.W.findObj_data hcl T.ha T.hn T.ht
  exact PySem.W.kia_one (PySem.W.bk_kitx_exc T.hg T.hk T.hs T.hd hf T.hm) I.kIn J e (fun z => nomatch z) fun tk => ⟨.bl b, H, I.tok tk, rfl, q⟩
/-- e.f, e such an exception, f set by its own __init__ -/
def tXfV (K : PySem.W.Frag) (f : Str) (te : TE) : TE := fun σ H Q => te σ H fun x H1 => ∃ (a C d : Addr) (fs : List (Str × V)) (v : V), x = .ref a ∧ H1 a = some (exo a C (some d)) ∧ H1 d = some (exd d fs) ∧ XfC K C ∧ PySem.W.findIn K (.ref C) f = some none ∧ fs.lookup f = some v ∧ Q v H1
theorem pe_xfV {X : Cx} {K : PySem.W.Frag} {e : Expr} {te : TE} {pos : Pos} {n : Str} (eK : X.K = K) (he : PE X e te) (hb : attributeBase e n X.env (eval e X.env) = eval e X.env := by rfl) : PE X (.Attribute e n pos) (tXfV K n te) := by
  subst eK
  refine ⟨fun pins s σ H Q I h => ?_⟩
  refine attr_of hb (thn (he.run pins s σ H _ I h) fun u s1 hh => ?_)
  obtain ⟨x, H1, I1, rx, a, C, d, fs, v, ex, ea, ed, T, hno, l, q⟩ := hh
  subst ex
  obtain rfl : u = Value.ref a := rx
  obtain ⟨t1, ho⟩ := exo_at I1.hok ea
  obtain ⟨mA, hns, hr⟩ := exd_at I1.hok ed
  obtain ⟨od, hod, hl⟩ := lookIn_ns hns
  obtain ⟨u, hu, ru⟩ := RelO.some_of (v := v) (o := mA n) (by rw [← l]; exact hr n)
  have J : PySem.W.InstAt s1.heap a ({ cls := .ref C, dict := some d, data := .fields #[.ref t1, .none, .none, .none, .bool false, .none] } : Obj) C (some od) := ⟨ho, rfl, rfl, hod⟩
  exact HandSPX.exc_get I1.kIn J T.ga T.gg T.exC (PySem.W.findObj_own T.hdC hno rfl (by rw [hl, hu])) (handed_of ru) ⟨v, H1, I1.tok _, ru, q⟩
end Bk

/-! a lambda that captures nothing, kept as a value and called later -/
namespace Bk
open PySem PySem.Spec PyProof.Rows L2 LamX NdefX
/-- all but the tables stay, and nothing that was tracked is gone -/
structure ExtM (H H' : Hp) : Prop where
  ext : ExtN H H'
  non : ∀ b, H' b = none → H b = none
theorem ExtM.trans {H H1 H2 : Hp} (a : ExtM H H1) (b : ExtM H1 H2) : ExtM H H2 := ⟨a.ext.trans b.ext, fun c e => a.non c (b.non c e)⟩
theorem ExtM.of {H H' : Hp} (e : ∀ b o, H b = some o → H' b = some o) : ExtM H H' := ⟨ExtN.of e, fun b n => by
  cases q : H b with
  | none => rfl
  | some o => rw [e b o q] at n; cases n⟩
theorem ExtM.grow {H H' : Hp} {D : Addr} {o : HO} (a : ExtM H H') (n : H D = none) : ExtM H (upd H' D o) := ⟨fun b u hb k => by
  rw [upd_ne (ne_of_none hb n)]
  exact a.ext b u hb k, fun b e => a.non b (upd_none e)⟩
/-- its words, its code object -/
structure LF where
  qual : Str
  params : Arguments
  body : Expr
  scope : Scope
  cl : List (Str × Addr)
  c : Addr
/-- the object at f is this lambda -/
def LamO (f : Addr) (F : LF) : HO := .ext fun h => ∃ pm ctv : Value, h.get? f = some (PySem.W.kla_obj "<lambda>" F.qual F.params F.body F.scope F.cl pm F.c ctv)
/-- as a nested def without a body: for the context -/
def LF.nf (F : LF) : NF := ⟨"<lambda>", F.qual, F.params, [], F.scope, F.cl, F.c⟩
theorem lamO_ne {f : Addr} {F : LF} (ps : Array Value) : LamO f F ≠ .tbl ps := fun z => by
  unfold LamO at z
  cases z
theorem lamO_at {P : Program} {w : World} {H : Hp} {h : Heap} {f : Addr} {F : LF} (hok : HOk P w H h) (e : H f = some (LamO f F)) : ∃ pm ctv : Value, h.get? f = some (PySem.W.kla_obj "<lambda>" F.qual F.params F.body F.scope F.cl pm F.c ctv) := by
  obtain ⟨z, _, _⟩ := hok f _ e
  exact z
section
variable {X : Cx} {pins : List (Addr × Obj)} {σ : L2.St} {H : Hp} {s : Shared}
theorem inv_lam {F : LF} {o : Obj} {t' : Nat} {pm ctv : Value} (I : Inv X pins σ H s) (ho : o = PySem.W.kla_obj "<lambda>" F.qual F.params F.body F.scope F.cl pm F.c ctv) :
    Inv X pins σ (upd H s.heap.objs.size (LamO s.heap.objs.size F)) { s with heap := s.heap.push o, toks := t' } := by
  subst ho
  refine I.laid (a := s.heap.objs.size) (fun b u e => Heap.get?_push_of_some _ e) (Nat.le_refl _) ?_
  have e : (s.heap.push (PySem.W.kla_obj "<lambda>" F.qual F.params F.body F.scope F.cl pm F.c ctv)).get? s.heap.objs.size = some (PySem.W.kla_obj "<lambda>" F.qual F.params F.body F.scope F.cl pm F.c ctv) := Heap.get?_push_size _ rfl
  exact ⟨⟨pm, ctv, e⟩, ⟨_, e⟩, fun h1 h2 ⟨p, t, z⟩ st => ⟨p, t, st _ z⟩⟩
/-- the lambda is made: its code object is new, or found in the table -/
theorem lam_make3 {T : List (Addr × Str)} {c P : Addr} {params : Arguments} {body : Expr} {scope : Scope} {pos : Pos} {E : Value → Shared → Prop} {Q : Value → Shared → Prop} (I : Inv X pins σ H s) (TB : TabB X.base X.mg c P) (hcode : X.env.code = .ref c)
    (hm : (P, X.env.qual ++ "<lambda>") ∈ T) (hu : ∀ p ∈ T, p.1 = P → p.2 = X.env.qual ++ "<lambda>") (hT : Tabs T H) (hdef : defaultsOf params X.env = ([], [])) (hfree : ∀ y ∈ scope.names, y.2 = .free → ∃ c, X.env.cells.lookup y.1 = some c)
    (h : ∀ (f c' : Addr) (H1 : Hp) (s' : Shared), Inv X pins σ H1 s' → ExtM H H1 → Tabs T H1 → H f = none → H1 f = some (LamO f ⟨X.env.qual ++ "<lambda>", params, body, scope, cloFrom X.env.cells scope.names [], c'⟩) → H1 c' = some (CodeO c' (X.env.qual ++ "<lambda>")) → Q (.ref f) s') :
    wpAny (model X.prog X.w) X.A (eval (.Lambda params body scope pos) X.env) Q E s := by
  obtain ⟨ps, hP, ht, ha⟩ := hT _ hm
  refine PySem.W.kla_eval hdef ?_
  have bP : s.heap.BuiltinsAt X.mg P := TB.bm.keeps I.bk
  have hP' : s.heap.get? P = some { cls := .none, data := .fields ps } := I.hok P _ hP
  cases hc : codeAmong pos ps.toList with
  | none =>
    refine PySem.W.kla_makeFunction (mg := X.mg) (c := c) (P := P) (ps := ps) (closure_ok hfree) I.ok.glob (I.mod.glob.keeps I.bk) hcode (TB.code.keeps I.bk) hP' ht hc TB.gP bP fun c' ctv h' tk hx hge hlt hrec htb => ?_
    obtain ⟨c2, oc, vs, t, e2, hoc, hd, hv⟩ := hrec
    cases e2
    have nC : H c' = none := I.hok.fresh hge
    have I1 := inv_table (t' := tk) (more := #[rawInt pos.line, rawInt pos.col, .ref c']) (h' := h') I hP (fun b o hb e => hx b o hb e) htb hge ⟨oc, vs, t, hoc, hd, hv⟩
    have hE : ExtN H (upd (upd H P (.tbl (ps ++ #[rawInt pos.line, rawInt pos.col, .ref c']))) c' (CodeO c' (X.env.qual ++ "<lambda>"))) := fun b o e n => by
      rw [upd_ne (ne_of_none e nC), upd_ne (fun z => n ps (Option.some.inj (e.symm.trans (by rw [z]; exact hP))))]
      exact e
    have eL : (ps ++ #[rawInt pos.line, rawInt pos.col, .ref c']).toList = ps.toList ++ [rawInt pos.line, rawInt pos.col, .ref c'] := by simp
    have T1 : Tabs T (upd (upd H P (.tbl (ps ++ #[rawInt pos.line, rawInt pos.col, .ref c']))) c' (CodeO c' (X.env.qual ++ "<lambda>"))) := fun p hp => by
      by_cases hb : p.1 = P
      · rw [hu p hp hb, hb]
        refine ⟨_, by rw [upd_ne (ne_of_none hP nC), upd_same], by rw [eL]; exact PySem.TriplesOk_snoc _ _ _ _ ht, fun p' cv hcv => ?_⟩
        rw [eL] at hcv
        rcases among_app _ ht hcv with z | z
        · obtain ⟨c0, e1, e2⟩ := ha p' cv z
          exact ⟨c0, e1, hE _ _ e2 codeO_ne⟩
        · exact ⟨c', z, upd_same⟩
      · obtain ⟨ps', a1, a2, a3⟩ := hT p hp
        refine ⟨ps', by rw [upd_ne (ne_of_none a1 nC), upd_ne hb]; exact a1, a2, fun p' cv hcv => ?_⟩
        obtain ⟨c0, e1, e2⟩ := a3 p' cv hcv
        exact ⟨c0, e1, hE _ _ e2 codeO_ne⟩
    have nF := I1.hok.fresh (Nat.le_refl _)
    have I2 := inv_lam (F := ⟨X.env.qual ++ "<lambda>", params, body, scope, cloFrom X.env.cells scope.names [], c'⟩) (t' := tk) (pm := (X.mg "__name__").getD .none) (ctv := ctv) I1 rfl
    refine h h'.objs.size c' _ _ I2 ⟨fun b o e n => ?_, fun b e => upd_none (upd_none (upd_none e))⟩ (T1.ext fun b o e => ?_) (I.hok.fresh (Nat.le_trans hge (Nat.le_of_lt hlt))) upd_same ?_
    · have e1 := hE b o e n
      exact (upd_ne (ne_of_none e1 nF)).trans e1
    · exact (upd_ne (ne_of_none e nF)).trans e
    · exact (upd_ne (Nat.ne_of_lt hlt)).trans upd_same
  | some cv =>
    obtain ⟨c', e, hco⟩ := ha pos cv hc
    subst e
    refine PySem.W.kla_makeFunctionHit (mg := X.mg) (c := c) (P := P) (ps := ps) (closure_ok hfree) I.ok.glob (I.mod.glob.keeps I.bk) hcode (TB.code.keeps I.bk) hP' ht hc bP fun ctv h' tk hx hsz => ?_
    have I1 : Inv X pins σ H { s with heap := h', toks := tk } := I.kept hx
    have nF : H h'.objs.size = none := I1.hok.fresh (Nat.le_refl _)
    have I2 := inv_lam (F := ⟨X.env.qual ++ "<lambda>", params, body, scope, cloFrom X.env.cells scope.names [], c'⟩) (t' := tk) (pm := (X.mg "__name__").getD .none) (ctv := ctv) I1 rfl
    refine h h'.objs.size c' _ _ I2 ⟨fun b o e n => ?_, fun b e => upd_none e⟩ (hT.ext fun b o e => ?_) nF upd_same ?_
    · exact (upd_ne (ne_of_none e nF)).trans e
    · exact (upd_ne (ne_of_none e nF)).trans e
    · exact (upd_ne (ne_of_none hco nF)).trans hco
/-- a lambda as a value -/
def tLamV (T : List (Addr × Str)) (mk : Addr → LF) : TE := fun σ H Q => Tabs T H ∧ ∀ (f c' : Addr) (H1 : Hp), ExtM H H1 → Tabs T H1 → H f = none → H1 f = some (LamO f (mk c')) → H1 c' = some (CodeO c' (mk c').qual) → Q (.ref f) H1
/-- no parameter's default, no captured name -/
structure LamN (scope : Scope) : Prop where
  free : ∀ y ∈ scope.names, y.2 ≠ .free
def lamNB (scope : Scope) : Bool := scope.names.all fun y => !decide (y.2 = .free)
theorem lamN_by {scope : Scope} (h : lamNB scope = true) : ∀ y ∈ scope.names, y.2 ≠ .free := by
  unfold lamNB at h
  simp only [Bool.not_eq_true', decide_eq_false_iff_not, List.all_eq_true] at h
  exact h
theorem clo_nil {cells : List (Str × Addr)} {names : List (Str × NameKind)} (h : ∀ y ∈ names, y.2 ≠ .free) : cloFrom cells names [] = [] := by
  cases e : cloFrom cells names [] with
  | nil => rfl
  | cons a r =>
    have m : a ∈ cloFrom cells names [] := by rw [e]; exact List.mem_cons_self
    rcases cloFrom_mem (n := a.1) (c := a.2) m with z | ⟨z, _⟩
    · cases z
    · exact absurd rfl (h _ z)
theorem pe_lam {T : List (Addr × Str)} {c P : Addr} {q : Str} {params : Arguments} {body : Expr} {scope : Scope} {pos : Pos} (eq : X.env.qual ++ "<lambda>" = q) (TB : TabB X.base X.mg c P) (hcode : X.env.code = .ref c) (hm : (P, q) ∈ T) (hu : ∀ p ∈ T, p.1 = P → p.2 = q)
    (hdef : defaultsOf params X.env = ([], []) := by rfl) (hn : lamNB scope = true := by decide +kernel) : PE X (.Lambda params body scope pos) (tLamV T fun c' => ⟨q, params, body, scope, [], c'⟩) := by
  subst eq
  refine ⟨fun pins s σ H Q I h => ?_⟩
  have hf := lamN_by hn
  refine lam_make3 I TB hcode hm hu h.1 hdef (fun y hy e => absurd e (hf y hy)) fun f c' H1 s' I1 e1 t1 n1 l1 c1 => ?_
  rw [clo_nil hf] at l1
  exact ⟨.ref f, H1, I1, rfl, h.2 f c' H1 e1 t1 n1 l1 c1⟩
end
/-! ### the call -/
structure LOk (P : Program) (w : World) (K : PySem.W.Frag) (mg : Str → Option Value) (base : Heap) (CX : CXT) (k : Nat) (f : Addr) (F : LF) (sp : Sp) : Prop where
  run : ∀ (A : Around) (outer : List Env) (s : Shared) (H : Hp) (us : List Value) (vs : List V) (Q : VK) (E : XK), Room k A → Env0 P w K mg base A outer s H → H f = some (LamO f F) → H F.c = some (CodeO F.c F.qual) →
    Vals vs us → sp vs H Q E → codeAny (model P w) A (.call (.ref f) ⟨us, []⟩) (CR CX outer P w H s Q E) s
section
variable {CX : CXT} {P : Program} {w : World} {K : PySem.W.Frag} {mg : Str → Option Value} {base : Heap} {N ps : List Str} {F : LF} {f : Addr} {k : Nat} {sp : Sp}
theorem lok_of (S : NScope N ps [] F.scope) (hcl : F.cl = []) (hb : ∀ (pm ctv : Value) (us : List Value), us.length = ps.length → bindArgs (PySem.W.kla_fn "<lambda>" F.qual F.params F.body F.scope F.cl pm (.ref F.c) ctv) ⟨us, []⟩ = pure (ps.zip us)) (len : ∀ vs H Q E, sp vs H Q E → vs.length = ps.length)
    (hbody : ∀ (A : Around) (outer : List Env) (s : Shared) (H : Hp) (vs : List V) (Q : VK) (E : XK), Room k (A.deeper (envF F.nf f s.heap.objs.size)) → sp vs H Q E → ∃ t, PE (ncx CX P w K mg base N F.nf f A outer s H E) F.body t ∧ t (startF N vs []) H Q) :
    LOk P w K mg base CX (k + 1) f F sp := by
  refine ⟨fun A outer s H us vs Q E hr e0 hf hc r hsp => ?_⟩
  have hl := len _ _ _ _ hsp
  have lim : s.heap.NoLimit := e0.mod.nolimit.keeps fun b o e => (e0.bs b o e).1
  obtain ⟨pm, ctv, ho⟩ := lamO_at e0.hok hf
  refine PySem.W.kla_callFunE hr.depth ho rfl S.co S.gen rfl (codeO_at e0.hok hc) ?_
  rw [hb pm ctv us (by rw [← r.length]; exact hl)]
  refine wpAny_pure (wpAny_newFunctionEnv S.nocell (fun ⟨n, _⟩ hy => S.par n (List.of_mem_zip hy).1) (fun h₁ hns hsb => ⟨lim.fresh _ hsb, ?_⟩) S.kind)
  show codeAny _ _ (.expr F.body (envF F.nf f s.heap.objs.size)) _ _
  have kp : ∀ b o, s.heap.get? b = some o → h₁.get? b = some o := fun b o e => hsb.extBut b o (Nat.ne_of_lt (Heap.lt_size e)) (Heap.get?_push_of_some _ e)
  obtain ⟨t, ht, hq⟩ := hbody A outer s H vs Q E (hr.deeper _) hsp
  have C : CellsAt F.nf.cl [] [] s.heap H := by
    refine ⟨rfl, fun y c e => ?_, fun x y c e1 e2 => ?_, fun i y e => ?_⟩
    · have e : F.cl.lookup y = some c := e
      rw [hcl] at e
      cases e
    · have e1 : F.cl.lookup x = some c := e1
      rw [hcl] at e1
      cases e1
    · simp at e
  have I : Inv (ncx CX P w K mg base N F.nf f A outer s H E) [] (startF N vs []) H { s with heap := h₁, toks := s.toks + (ps.zip us).length } := inv_startN (F := F.nf) (ps := ps) (fr := []) S hr.hd e0 hl r C hns kp
  refine PySem.W.kla_codeExpr (wpAny_mono (ht.run [] _ (startF N vs []) H Q I hq) (fun v s' hq => ?_) fun e s' hq => hq)
  obtain ⟨w', H', J', rv, q⟩ := hq
  exact ⟨w', H', J'.os, J'.bare, J'.base, J'.hok, rv, q⟩
end
/-- x(e, ..), x a local name that holds such a lambda -/
def tCallL (P : Program) (w : World) (K : PySem.W.Frag) (mg : Str → Option Value) (base : Heap) (CX : CXT) (k i : Nat) (E : XK) (t : TA) : TE := fun σ H Q => ∃ (f : Addr) (F0 : LF), σ[i]? = some (some (.ref f)) ∧ H f = some (LamO f F0) ∧
  t σ H fun vs H1 => ∃ (F : LF) (sp : Sp), H1 f = some (LamO f F) ∧ H1 F.c = some (CodeO F.c F.qual) ∧ LOk P w K mg base CX k f F sp ∧ sp vs H1 Q E
section
variable {X : Cx} {CX : CXT} {i j k : Nat} {x : Str} {E : XK} {t : TA} {e : Expr} {es : List Expr} {p pos : Pos}
theorem lamAt_of {pins : List (Addr × Obj)} {σ : L2.St} {H : Hp} {s : Shared} {f : Addr} {F : LF} (I : Inv X pins σ H s) (e : H f = some (LamO f F)) : PySem.W.FnAt f s.heap := by
  obtain ⟨pm, ctv, ho⟩ := lamO_at I.hok e
  exact ⟨_, none, _, #[], ho⟩
theorem pe_callL (hr : Room j X.A) (hk : k ≤ j) (hx : Passes CX X E) (hN : X.N[i]? = some x) (hv : Vis X.env.scope x) (ha : PA X (e :: es) t)
    (hd : (x == ("__debug__" : Str)) = false := by decide) (hcd : (x == ("__classdict__" : Str)) = false := by decide)
    (he : starEach (e :: es) X.env = (false, eval e X.env) :: starEach es X.env := by rfl) (hpl : (backTo pos (starEach es X.env)).any (·.1) = false := by rfl) :
    PE X (.Call (.Name x p) (e :: es) [] pos) (tCallL X.prog X.w X.K X.mg X.base CX k i E t) := by
  refine ⟨fun pins s σ H Q I h => ?_⟩
  obtain ⟨f, F0, hs, hf, ht⟩ := h
  refine wpAny_Call_Name_kw (thn ((pe_var (pos := p) hN hv hd hcd).run pins s σ H (fun v H1 => v = .ref f ∧ H1 = H) I ⟨.ref f, hs, rfl, rfl⟩) fun u s1 ⟨v, H1, I1, r1, q1⟩ => ?_)
  obtain ⟨ev, eH⟩ := q1
  subst ev
  rw [eH] at I1
  obtain rfl : u = Value.ref f := r1
  refine PySem.W.callWith_F (first := []) (lamAt_of I1 hf) (thn (ha.run pos pins s1 σ H _ I1 ht) fun us s2 ⟨vs, H2, I2, r, F, sp, h1, h2, L, q⟩ => ⟨lamAt_of I2 h1, ?_⟩) he hpl
  show wpAny _ _ (call (.ref f) us) _ _ _
  refine wpAny_call (codeAny_mono (L.run X.A X.stack s2 H2 us vs Q E (hr.mono hk) I2.env0 h1 h2 r q) fun r s' hq => ?_)
  cases r with
  | error e => exact hx pins σ H2 s2 e s' I2 hq
  | ok fl =>
    cases fl with
    | ret u => exact I2.after hq
    | next => exact False.elim hq
    | brk => exact False.elim hq
    | cont => exact False.elim hq
end
end Bk

namespace Bk
open PySem PySem.Spec PyProof.Rows L2
/-- either of two readings of what is walked -/
theorem pi_or {X : Cx} {tg l : Expr} {w1 w2 : TI} (h1 : PI X tg l w1) (h2 : PI X tg l w2) : PI X tg l (fun σ H R => w1 σ H R ∨ w2 σ H R) := ⟨fun pins s σ H R I h => h.elim (h1.run pins s σ H R I) (h2.run pins s σ H R I)⟩
/-- dict(pairs), K told -/
def rDictP (K : PySem.W.Frag) : List V → Hp → VK → Prop := fun xs H Q => ∃ (a : Addr) (ps : List Addr) (kvs : List (Key × V)), xs = [.ref a] ∧ SqL K H a (ps.map V.ref) ∧ Paired (fun p kv => SqT K H p [kV kv.1, kv.2]) ps kvs ∧ ∀ p, H p = none → Q (.ref p) (upd H p (.dK (mergeK [] kvs)))
theorem kDictP {X : Cx} {K : PySem.W.Frag} (hc : X.calm = true) (e : X.K = K := by rfl) : CallR X (.type "dict") (rDictP K) := e ▸ call_dictP hc
end Bk

namespace Bk
open PySem PySem.Spec PyProof.Rows L2 LamX NdefX
section
variable {P : Program} {w : World} {K : PySem.W.Frag} {mg : Str → Option Value} {base : Heap}
/-- as Fun.ok, for a def whose code object's address is known -/
theorem Fun.okC {x qual : Str} {st : Stmt} {f c : Addr} {fd : FuncData} {N ps : List Str} {k : Nat} {sp : Sp} (F : Fun K x qual st f fd) (hc : fd.code = .ref c) (S : FnScope N ps (defScope st)) (len : ∀ vs H Q E, sp vs H Q E → vs.length = ps.length)
    (hbody : ∀ (A : Around) (outer : List Env) (s : Shared) (H : Hp) (vs : List V) (Q : VK) (E : XK), Room k (A.deeper (envOfC qual (defScope st) s.heap.objs.size f (.ref c))) → sp vs H Q E →
      ∃ t, PSs (cxOf CX0 P w K mg base N qual (defScope st) f (.ref c) A outer s H E).nox (defBody st) t ∧ t { nx := fun _ H' => Q .non H', rt := Q } (L2.start N vs) H) : FnOk P w K mg base CX0 (k + 1) f fd ps sp := by
  obtain ⟨oc, od, kV, doc, pm, an, cdv, ct, osl, rfl, lk, hcd⟩ := F.ex
  obtain rfl : cdv = .ref c := hc
  refine fn_of lk hcd S len fun A outer s H vs Q E hr hsp => ?_
  obtain ⟨t, h, q⟩ := hbody A outer s H vs Q E hr hsp
  exact ⟨t, h.nox, q⟩
/-- one value by place, one by its name -/
theorem Fun.bindK {x qual : Str} {st : Stmt} {f : Addr} {fd : FuncData} {ps : List Str} {kn : Str} (F : Fun K x qual st f fd)
    (h : ∀ (kV doc pm : Value) (an : Option Addr) (cdv ct a v : Value), bindArgs (PySem.W.fnOf x qual (defArgs st) (defBody st) (defScope st) .none kV doc pm an cdv ct) ⟨[a], [(kn, v)]⟩ = pure (ps.zip [a, v])) :
    ∀ (s : Shared) (a v : Value), K.In s.heap → BindsTo s fd ⟨[a], [(kn, v)]⟩ (ps.zip [a, v]) := by
  obtain ⟨oc, od, kV, doc, pm, an, cdv, ct, osl, rfl, lk, hcd⟩ := F.ex
  exact fun s a v _ => BindsTo.of_looks fun M => PySem.W.Looks.of_pure (h kV doc pm an cdv ct a v)
/-- an own error class with one field: what its making and its instances ask -/
def ErrF (P : Program) (w : World) (K : PySem.W.Frag) (mg : Str → Option Value) (base : Heap) (x f : Str) (C : Addr) : Prop := ∃ (fI : Addr) (fd : FuncData), ExT K mg x C fI f ∧ ExcC K C ∧ FnOk P w K mg base CX0 1 fI fd ["self", f] (spExcInit C f) ∧ Binds K fd ["self", f] [] ∧
  ∀ (s : Shared) (a v : Value), K.In s.heap → BindsTo s fd ⟨[a], [(f, v)]⟩ (([("self" : Str), f] : List Str).zip [a, v])
/-- a lambda that reads a field -/
def spFld (K : PySem.W.Frag) (C : Addr) (f : Str) : Sp := fun vs H Q _ => ∃ (a d : Addr) (v : V), vs = [.ref a] ∧ H a = some (exo a C (some d)) ∧ H d = some (exd d [(f, v)]) ∧ Q v H
theorem lok_fld {q : Str} {params : Arguments} {scope : Scope} {c' fl C : Addr} {pn f : Str} {p1 p2 : Pos} (T : XfC K C) (hno : PySem.W.findIn K (.ref C) f = some none) (S : nscB [pn] [pn] [] scope = true)
    (hb : ∀ (pm ctv : Value) (us : List Value), us.length = [pn].length → bindArgs (PySem.W.kla_fn "<lambda>" q params (.Attribute (.Name pn p1) f p2) scope [] pm (.ref c') ctv) ⟨us, []⟩ = pure ([pn].zip us))
    (hd : (pn == ("__debug__" : Str)) = false) (hcd : (pn == ("__classdict__" : Str)) = false)
    (hab : ∀ env : Env, attributeBase (.Name pn p1) f env (eval (.Name pn p1) env) = eval (.Name pn p1) env) : LOk P w K mg base CX0 1 fl ⟨q, params, .Attribute (.Name pn p1) f p2, scope, [], c'⟩ (spFld K C f) := by
  have S := nscope_by S
  refine lok_of (k := 0) (N := [pn]) (ps := [pn]) S rfl hb (fun vs H Q E h => ?_) fun A outer s H vs Q E hr h => ?_
  · obtain ⟨a, d, v, rfl, _⟩ := h
    rfl
  · obtain ⟨a, d, v, rfl, ha, hdd, hq⟩ := h
    have vis : Vis scope pn := .inl (S.par pn List.mem_cons_self)
    refine ⟨_, pe_xfV (K := K) rfl (pe_var (i := 0) rfl vis hd hcd) (hab _), ?_⟩
    exact ⟨.ref a, rfl, a, C, d, _, v, rfl, ha, hdd, T, hno, by simp [List.lookup], hq⟩
/-- the call of a kept lambda, all told -/
theorem pe_callLk {X : Cx} {CX : CXT} {i j k : Nat} {x : Str} {E : XK} {t : TA} {e : Expr} {es : List Expr} {p pos : Pos} (hr : Room j X.A) (hk : k ≤ j) (hx : Passes CX X E) (hN : X.N[i]? = some x) (hv : Vis X.env.scope x) (ha : PA X (e :: es) t)
    (e1 : X.prog = P := by rfl) (e2 : X.w = w := by rfl) (e3 : X.K = K := by rfl) (e4 : X.mg = mg := by rfl) (e5 : X.base = base := by rfl) (hd : (x == ("__debug__" : Str)) = false := by decide) (hcd : (x == ("__classdict__" : Str)) = false := by decide)
    (he : starEach (e :: es) X.env = (false, eval e X.env) :: starEach es X.env := by rfl) (hpl : (backTo pos (starEach es X.env)).any (·.1) = false := by rfl) : PE X (.Call (.Name x p) (e :: es) [] pos) (tCallL P w K mg base CX k i E t) := by
  subst e1 e2 e3 e4 e5
  exact pe_callL hr hk hx hN hv ha hd hcd he hpl
/-! ### a triple: the error by place, by name, what reads its field -/
theorem exd_tbl {e : Addr} {fs : List (Str × V)} {ps : Array Value} : exd e fs ≠ .tbl ps := fun z => by
  have z' : HO.ext _ = HO.tbl ps := z
  cases z'
def Trip (P : Program) (w : World) (K : PySem.W.Frag) (mg : Str → Option Value) (base : Heap) (H : Hp) (C : Addr) (f : Str) (x v : V) : Prop := ∃ (t a1 d1 a2 d2 fl : Addr) (F : LF), v = .ref t ∧ H t = some (.tup [.ref a1, .ref a2, .ref fl]) ∧ H a1 = some (exo a1 C (some d1)) ∧ H d1 = some (exd d1 [(f, x)]) ∧
  H a2 = some (exo a2 C (some d2)) ∧ H d2 = some (exd d2 [(f, x)]) ∧ H fl = some (LamO fl F) ∧ H F.c = some (CodeO F.c F.qual) ∧ LOk P w K mg base CX0 1 fl F (spFld K C f)
theorem Trip.extN {H H' : Hp} {C : Addr} {f : Str} {x v : V} (h : Trip P w K mg base H C f x v) (e : ExtN H H') : Trip P w K mg base H' C f x v := by
  obtain ⟨t, a1, d1, a2, d2, fl, F, hv, ht, h1, h2, h3, h4, h5, h6, L⟩ := h
  exact ⟨t, a1, d1, a2, d2, fl, F, hv, e _ _ ht (fun _ z => nomatch z), e _ _ h1 (fun _ => exo_tbl), e _ _ h2 (fun _ => exd_tbl), e _ _ h3 (fun _ => exo_tbl), e _ _ h4 (fun _ => exd_tbl), e _ _ h5 lamO_ne, e _ _ h6 codeO_ne, L⟩
theorem Trip.updL {H : Hp} {C D : Addr} {f : Str} {x v : V} {l : List V} {o : HO} (h : Trip P w K mg base H C f x v) (hD : H D = some (.lst l)) : Trip P w K mg base (upd H D o) C f x v := by
  obtain ⟨t, a1, d1, a2, d2, fl, F, hv, ht, h1, h2, h3, h4, h5, h6, L⟩ := h
  have k : ∀ {b : Addr} {u : HO}, H b = some u → u ≠ .lst l → upd H D o b = some u := fun hb n => by
    rw [upd_ne (ne_of hb hD n)]
    exact hb
  have nx : ∀ (φ : Heap → Prop), HO.ext φ ≠ HO.lst l := fun φ z => nomatch z
  exact ⟨t, a1, d1, a2, d2, fl, F, hv, k ht (fun z => nomatch z), k h1 (nx _), k h2 (nx _), k h3 (nx _), k h4 (nx _), k h5 (nx _), k h6 (nx _), L⟩
theorem same_exc {H : Hp} {a dx : Addr} {u v z : HO} (na : H a = none) (nd : upd H a u dx = none) (ne : dx ≠ a) : Same H (upd (upd (upd H a u) dx v) a z) := fun b o e => by
  have nb : b ≠ a := ne_of_none e na
  have nd' : H dx = none := by rw [upd_ne ne] at nd; exact nd
  rw [upd_ne nb, upd_ne (ne_of_none e nd'), upd_ne nb]
  exact e
theorem TabS.updL {H : Hp} {D P0 : Addr} {q : Str} {l : List V} {o : HO} (t : TabS H P0 q) (hD : H D = some (.lst l)) : TabS (upd H D o) P0 q := by
  obtain ⟨ps, h1, h2, h3⟩ := t
  refine ⟨ps, by rw [upd_ne (ne_of h1 hD (fun z => nomatch z))]; exact h1, h2, fun pos cv hc => ?_⟩
  obtain ⟨c, e1, e2⟩ := h3 pos cv hc
  refine ⟨c, e1, ?_⟩
  have nx : CodeO c q ≠ HO.lst l := fun z => by
    unfold CodeO at z
    cases z
  rw [upd_ne (ne_of e2 hD nx)]
  exact e2
theorem Tabs.updL {T : List (Addr × Str)} {H : Hp} {D : Addr} {l : List V} {o : HO} (t : Tabs T H) (hD : H D = some (.lst l)) : Tabs T (upd H D o) := fun p hp => Bk.TabS.updL (t p hp) hD
theorem trip {T : List (Addr × Str)} {mk : Addr → LF} {σ : L2.St} {H : Hp} {Q : VK} {C : Addr} {f : Str} {x : V} (hx : σ[0]? = some (some x)) (hT : Tabs T H) (hc : ∀ c', (mk c').c = c') (hL : ∀ fl c', LOk P w K mg base CX0 1 fl (mk c') (spFld K C f))
    (q : ∀ v H', ExtM H H' → Tabs T H' → Trip P w K mg base H' C f x v → Q v H') :
    tTup (tCons (tOexV C (spExcInit C f) (tCons (tVar 0) tNil)) (tCons (tOexK C (spExcInit C f) (tCons (tVar 0) tNil)) (tCons (tLamV T mk) tNil))) σ H Q := by
  refine ⟨x, hx, by show 1 ≤ 1000; decide, fun a1 n1 => ⟨a1, x, rfl, upd_same, fun d1 m1 k1 => ⟨rfl, ?_⟩⟩⟩
  have e1 := same_exc (u := exo a1 C none) (v := exd d1 [(f, x)]) (z := exo a1 C (some d1)) n1 m1 k1
  have f1 : (upd (upd (upd H a1 (exo a1 C none)) d1 (exd d1 [(f, x)])) a1 (exo a1 C (some d1))) a1 = some (exo a1 C (some d1)) := upd_same
  have g1 : (upd (upd (upd H a1 (exo a1 C none)) d1 (exd d1 [(f, x)])) a1 (exo a1 C (some d1))) d1 = some (exd d1 [(f, x)]) := by rw [upd_ne k1]; exact upd_same
  generalize upd (upd (upd H a1 (exo a1 C none)) d1 (exd d1 [(f, x)])) a1 (exo a1 C (some d1)) = H1 at e1 f1 g1 ⊢
  refine ⟨x, hx, rfl, fun a2 n2 => ⟨a2, x, rfl, upd_same, fun d2 m2 k2 => ⟨rfl, ?_⟩⟩⟩
  have e2 := same_exc (u := exo a2 C none) (v := exd d2 [(f, x)]) (z := exo a2 C (some d2)) n2 m2 k2
  have f2 : (upd (upd (upd H1 a2 (exo a2 C none)) d2 (exd d2 [(f, x)])) a2 (exo a2 C (some d2))) a2 = some (exo a2 C (some d2)) := upd_same
  have g2 : (upd (upd (upd H1 a2 (exo a2 C none)) d2 (exd d2 [(f, x)])) a2 (exo a2 C (some d2))) d2 = some (exd d2 [(f, x)]) := by rw [upd_ne k2]; exact upd_same
  generalize upd (upd (upd H1 a2 (exo a2 C none)) d2 (exd d2 [(f, x)])) a2 (exo a2 C (some d2)) = H2 at e2 f2 g2 ⊢
  have e02 := Same.trans e1 e2
  refine ⟨hT.ext e02, fun fl c' H3 e3 t3 nf l3 c3 => ⟨by show 3 ≤ sizeLine; decide, fun t nt => ?_⟩⟩
  have et := same_upd (o := HO.tup [V.ref a1, V.ref a2, V.ref fl]) nt
  have k : ∀ {b : Addr} {u : HO}, H2 b = some u → (∀ ps, u ≠ .tbl ps) → upd H3 t (HO.tup [V.ref a1, V.ref a2, V.ref fl]) b = some u := fun hb n => et _ _ (e3.ext _ _ hb n)
  refine q _ _ (((ExtM.of e02).trans e3).trans (ExtM.of et)) (t3.ext et) ⟨t, a1, d1, a2, d2, fl, mk c', rfl, upd_same, k (e2 _ _ f1) (fun _ => exo_tbl), k (e2 _ _ g1) (fun _ => exd_tbl), k f2 (fun _ => exo_tbl), k g2 (fun _ => exd_tbl), et _ _ l3, et _ _ ?_, hL fl c'⟩
  rw [hc c']
  exact c3
/-- .. at the head of a list -/
theorem tripL {T : List (Addr × Str)} {mk : Addr → LF} {σ : L2.St} {H : Hp} {Q : VK} {C : Addr} {f : Str} {x : V} {ta : TA} (hx : σ[0]? = some (some x)) (hT : Tabs T H) (hc : ∀ c', (mk c').c = c') (hL : ∀ fl c', LOk P w K mg base CX0 1 fl (mk c') (spFld K C f))
    (q : ∀ v H', ExtM H H' → Tabs T H' → Trip P w K mg base H' C f x v → ta σ H' fun vs H2 => (v :: vs).length ≤ sizeLine ∧ ∀ l, H2 l = none → Q (.ref l) (upd H2 l (.lst (v :: vs)))) :
    tLst (tCons (tTup (tCons (tOexV C (spExcInit C f) (tCons (tVar 0) tNil)) (tCons (tOexK C (spExcInit C f) (tCons (tVar 0) tNil)) (tCons (tLamV T mk) tNil)))) ta) σ H Q := trip hx hT hc hL q
end
end Bk

namespace Bk
open PySem PySem.Spec PyProof.Rows L2
/-- the pair (0, 1), kept by the module -/
def pairB (K : PySem.W.Frag) (a : Addr) : Bool := match K.lookup a with
  | some ⟨.type c, _, .seq its _, _⟩ => decide (c = "tuple") && (match its.toList with
    | [.int i _, .int j _] => decide (i = 0) && decide (j = 1)
    | _ => false)
  | _ => false
end Bk

set_option maxHeartbeats 0
namespace Bk
open PySem PySem.Spec PyProof.Rows L2 LamX NdefX
def gd (x : Str) (st : Stmt) : He.DefD := ⟨(x, none), x, x, defArgs st, defBody st, defScope st, [], []⟩
def md (c m q : Str) (st : Stmt) (kws : List (Str × He.Dv)) : He.DefD := ⟨(c, some m), m, q, defArgs st, defBody st, defScope st, [], kws⟩
def mdd (c m q : Str) (st : Stmt) (dfl : List He.Dv) : He.DefD := ⟨(c, some m), m, q, defArgs st, defBody st, defScope st, dfl, []⟩
def fnL : List He.DefD := [gd "_wall" (topS 0), gd "is_integer" (topS 15), gd "is_list" (topS 16), gd "is_name" (topS 17), gd "greatest_divisor" (topS 18), gd "fraction" (topS 19), gd "size_of" (topS 20), gd "plus" (topS 21), gd "times" (topS 22), gd "is_less" (topS 23), gd "sum_of" (topS 24), gd "first_wrong" (topS 29), gd "choices" (topS 30), gd "choices_of" (topS 31), gd "rows_of_neighbours" (topS 32), gd "lot_of" (topS 33), gd "check_named" (topS 34), gd "by_lots" (topS 37), gd "sizes_seen" (topS 38), gd "check_names" (topS 39), gd "numbers_by_lots" (topS 42), gd "added" (topS 43), gd "first_more" (topS 44), gd "more_at" (topS 45), gd "counting" (topS 46), gd "refers" (topS 47), gd "freed" (topS 48), gd "shared" (topS 49), gd "just" (topS 50), gd "sent" (topS 51), gd "whole" (topS 52), gd "_law_start" (topS 54), gd "_law_draw" (topS 55), gd "_law_pick" (topS 56), gd "_law_mixed" (topS 57), gd "_law_same" (topS 58), gd "_law_name" (topS 59), gd "_law_names" (topS 60), gd "_law_spare" (topS 61), gd "_law_f_lowest" (topS 62), gd "_law_f_plus" (topS 63), gd "_law_f_times" (topS 64), gd "_law_f_below" (topS 65), gd "_law_b_rows" (topS 66), gd "_law_b_lots" (topS 67), gd "_law_b_house" (topS 68), gd "_law_b_sizes" (topS 69), gd "_law_b_store" (topS 70), gd "_law_b_answer" (topS 71), gd "_law_q_counted" (topS 72), gd "_law_q_made" (topS 73), gd "_law_q_named" (topS 74), gd "_law_q_drawn" (topS 75), gd "_law_k_refused" (topS 76), gd "law" (topS 77), md "BadFolders" "__init__" "BadFolders.__init__" (inClass (topS 3) 0) [], md "BadLot" "__init__" "BadLot.__init__" (inClass (topS 4) 0) [], md "BadSize" "__init__" "BadSize.__init__" (inClass (topS 5) 0) [], md "BadNumber" "__init__" "BadNumber.__init__" (inClass (topS 6) 0) [], md "NoFolder" "__init__" "NoFolder.__init__" (inClass (topS 7) 0) [], md "Taken" "__init__" "Taken.__init__" (inClass (topS 8) 0) [], md "Wrong" "__init__" "Wrong.__init__" (inClass (topS 10) 0) [], md "Folders" "__init__" "Folders.__init__" (inClass (topS 28) 0) [("chain", .bl false)], md "Folders" "__len__" "Folders.__len__" (inClass (topS 28) 1) [], md "Folders" "__contains__" "Folders.__contains__" (inClass (topS 28) 2) [], md "Folders" "__eq__" "Folders.__eq__" (inClass (topS 28) 3) [], md "Folders" "lots" "Folders.lots" (inClass (topS 28) 4) [], mdd "Store" "__init__" "Store.__init__" (inClass (topS 36) 0) [.non], md "Store" "__call__" "Store.__call__" (inClass (topS 36) 2) [], md "Store" "__getitem__" "Store.__getitem__" (inClass (topS 36) 3) [], md "Store" "__iter__" "Store.__iter__" (inClass (topS 36) 4) [], md "Store" "__contains__" "Store.__contains__" (inClass (topS 36) 5) [], md "Store" "__len__" "Store.__len__" (inClass (topS 36) 6) [], md "Store" "__eq__" "Store.__eq__" (inClass (topS 36) 7) [], md "Store" "__le__" "Store.__le__" (inClass (topS 36) 8) [], md "Store" "__add__" "Store.__add__" (inClass (topS 36) 9) [], md "Store" "__mul__" "Store.__mul__" (inClass (topS 36) 10) [], md "Store" "__rmul__" "Store.__rmul__" (inClass (topS 36) 11) [], md "Store" "__or__" "Store.__or__" (inClass (topS 36) 12) [], md "Store" "__and__" "Store.__and__" (inClass (topS 36) 13) [], md "Store" "sizes" "Store.sizes" (inClass (topS 36) 14) [], md "Store" "total" "Store.total" (inClass (topS 36) 15) [], md "Store" "strike" "Store.strike" (inClass (topS 36) 16) [], md "Store" "copy" "Store.copy" (inClass (topS 36) 17) [], md "Store" "write" "Store.write" (inClass (topS 36) 18) [], md "Store" "share" "Store.share" (inClass (topS 36) 19) [], md "Store" "leave" "Store.leave" (inClass (topS 36) 20) [], md "Store" "rename" "Store.rename" (inClass (topS 36) 21) [], mdd "Question" "__init__" "Question.__init__" (inClass (topS 41) 0) [.non], md "Question" "__eq__" "Question.__eq__" (inClass (topS 41) 1) [], md "Question" "__le__" "Question.__le__" (inClass (topS 41) 2) [], md "Question" "__add__" "Question.__add__" (inClass (topS 41) 3) [], md "Question" "__sub__" "Question.__sub__" (inClass (topS 41) 4) [], md "Question" "__neg__" "Question.__neg__" (inClass (topS 41) 5) [], md "Question" "__mul__" "Question.__mul__" (inClass (topS 41) 6) [], md "Question" "__rmul__" "Question.__rmul__" (inClass (topS 41) 7) [], md "Question" "weight" "Question.weight" (inClass (topS 41) 8) [], md "Question" "counts" "Question.counts" (inClass (topS 41) 9) [], md "Question" "in_freed" "Question.in_freed" (inClass (topS 41) 10) []]
def faL : List He.Fa := [.glo "_wall", .glo "is_integer", .glo "is_list", .glo "is_name", .glo "greatest_divisor", .glo "fraction", .glo "size_of", .glo "plus", .glo "times", .glo "is_less", .glo "sum_of", .glo "first_wrong", .glo "choices", .glo "choices_of", .glo "rows_of_neighbours", .glo "lot_of", .glo "check_named", .glo "by_lots", .glo "sizes_seen", .glo "check_names", .glo "numbers_by_lots", .glo "added", .glo "first_more", .glo "more_at", .glo "counting", .glo "refers", .glo "freed", .glo "shared", .glo "just", .glo "sent", .glo "whole", .glo "_law_start", .glo "_law_draw", .glo "_law_pick", .glo "_law_mixed", .glo "_law_same", .glo "_law_name", .glo "_law_names", .glo "_law_spare", .glo "_law_f_lowest", .glo "_law_f_plus", .glo "_law_f_times", .glo "_law_f_below", .glo "_law_b_rows", .glo "_law_b_lots", .glo "_law_b_house", .glo "_law_b_sizes", .glo "_law_b_store", .glo "_law_b_answer", .glo "_law_q_counted", .glo "_law_q_made", .glo "_law_q_named", .glo "_law_q_drawn", .glo "_law_k_refused", .glo "law", .glo "BadFolders", .glo "BadLot", .glo "BadSize", .glo "BadNumber", .glo "NoFolder", .glo "Taken", .glo "Wrong", .glo "UnlikeFolders", .glo "Folders", .glo "Store", .glo "Question", .glo "NOTHING", .str "LETTERS" "abcdefghijklmnopqrstuvwxyz", .int "LONGEST_NAME" 8, .int "MOST_FOLDERS" 5, .int "MOST_IN_CHAIN" 12, .meth "BadFolders" "__init__", .noat "BadFolders" "index", .exm "BadFolders" "BadFolders" true, .meth "BadLot" "__init__", .noat "BadLot" "lot", .exm "BadLot" "BadLot" true, .meth "BadSize" "__init__", .noat "BadSize" "size", .exm "BadSize" "BadSize" true, .meth "BadNumber" "__init__", .noat "BadNumber" "number", .exm "BadNumber" "BadNumber" true, .meth "NoFolder" "__init__", .noat "NoFolder" "name", .exm "NoFolder" "NoFolder" true, .meth "Taken" "__init__", .noat "Taken" "name", .exm "Taken" "Taken" true, .meth "Wrong" "__init__", .noat "Wrong" "weights", .exm "Wrong" "Wrong" true, .exc "UnlikeFolders", .exm "UnlikeFolders" "UnlikeFolders" true, .cls "Folders", .noat "Folders" "names", .noat "Folders" "chain", .noat "Folders" "places", .mkr "Folders", .meth "Folders" "__len__", .meth "Folders" "__contains__", .meth "Folders" "__eq__", .meth "Folders" "lots", .cls "Store", .noat "Store" "folders", .noat "Store" "table", .mkr "Store", .meth "Store" "__call__", .meth "Store" "__getitem__", .meth "Store" "__iter__", .meth "Store" "__contains__", .meth "Store" "__len__", .meth "Store" "__eq__", .meth "Store" "__le__", .meth "Store" "__add__", .meth "Store" "__mul__", .meth "Store" "__rmul__", .meth "Store" "__or__", .meth "Store" "__and__", .meth "Store" "sizes", .meth "Store" "total", .meth "Store" "strike", .meth "Store" "copy", .meth "Store" "write", .meth "Store" "share", .meth "Store" "leave", .meth "Store" "rename", .cls "Question", .noat "Question" "folders", .noat "Question" "table", .mkr "Question", .meth "Question" "__eq__", .meth "Question" "__le__", .meth "Question" "__add__", .meth "Question" "__sub__", .meth "Question" "__neg__", .meth "Question" "__mul__", .meth "Question" "__rmul__", .meth "Question" "weight", .meth "Question" "counts", .meth "Question" "in_freed", .exm "UnlikeFolders" "Wrong" false, .free "len", .free "list", .free "tuple", .free "isinstance", .free "all", .free "any", .free "zip", .free "enumerate", .free "range", .free "int", .free "str", .free "bool", .free "dict", .free "abs"]
def tfL : List He.Defn := [("law", none)]

def exL (K : PySem.W.Frag) : Bool := errB K (He.ga K "BadFolders") (He.ma K (He.ga K "BadFolders") "__init__") && (errB K (He.ga K "BadLot") (He.ma K (He.ga K "BadLot") "__init__") && (errB K (He.ga K "BadSize") (He.ma K (He.ga K "BadSize") "__init__") && (errB K (He.ga K "BadNumber") (He.ma K (He.ga K "BadNumber") "__init__") && (errB K (He.ga K "NoFolder") (He.ma K (He.ga K "NoFolder") "__init__") && (errB K (He.ga K "Taken") (He.ma K (He.ga K "Taken") "__init__") && (errB K (He.ga K "Wrong") (He.ma K (He.ga K "Wrong") "__init__") && (insB K (He.ga K "Folders") && (insB K (He.ga K "Store") && (insB K (He.ga K "Question") && (eqCls K (He.ga K "Folders") (He.ma K (He.ga K "Folders") "__eq__") && (decide (PySem.W.kitOne K (.ref (He.ga K "Folders")) (.ref (He.ga K "Folders")) = some true) && (decide (PySem.W.kitOne K (.type "str") (.ref (He.ga K "Folders")) = some false) && (decide (PySem.W.subIn K (.ref (He.ga K "Folders")) (.type "str") = some false) && (PySem.W.notFirst K (He.ga K "Folders") (.ref (He.ga K "Folders")) && (eqCls K (He.ga K "Question") (He.ma K (He.ga K "Question") "__eq__") && (decide (PySem.W.kitOne K (.ref (He.ga K "Question")) (.ref (He.ga K "Question")) = some true) && (PySem.W.notFirst K (He.ga K "Question") (.ref (He.ga K "Question")) && (eqCls K (He.ga K "Store") (He.ma K (He.ga K "Store") "__eq__") && (decide (PySem.W.kitOne K (.ref (He.ga K "Store")) (.ref (He.ga K "Store")) = some true) && (PySem.W.fnIn K (He.ma K (He.ga K "Store") "__call__") && (pairB K (He.ga K "NOTHING") && (PySem.W.selfFirst K (He.ga K "Question")))))))))))))))))))))))
abbrev RowL : PySem.W.OpenRow := PySem.W.OpenLaw.row PySem.Challenge.rw_blockshares_k07_whole_questions_in_all_s
abbrev hkL : PySem.W.Hook := He.hookX 4 faL fnL [] tfL exL
def obL (s : PySem.W.SharedT) : He.AlX := He.obsX 4 faL fnL [] tfL exL (HandSHeadRun.getT s)
theorem obL_eq (s : PySem.W.SharedT) : obL s = hkL.obs s.abs := He.obsX_eq (HandSHeadRun.getT_eq s)
theorem runL (w : World) : HandSHeadRun.RunEq RowL (PySem.W.view RowL.prog [77]) hkL obL 12000 ("_wall" :: "__name__" :: "ShareError" :: "BadFolders" :: "BadLot" :: "BadSize" :: "BadNumber" :: "NoFolder" :: "Taken" :: "UnlikeFolders" :: "Wrong" :: "LETTERS" :: "LONGEST_NAME" :: "NOTHING" :: "is_integer" :: "is_list" :: "is_name" :: "greatest_divisor" :: "fraction" :: "size_of" :: "plus" :: "times" :: "is_less" :: "sum_of" :: "MOST_FOLDERS" :: "MOST_IN_CHAIN" :: "Folders" :: "first_wrong" :: "choices" :: "choices_of" :: "rows_of_neighbours" :: "lot_of" :: "check_named" :: "Store" :: "by_lots" :: "sizes_seen" :: "check_names" :: "Question" :: "numbers_by_lots" :: "added" :: "first_more" :: "more_at" :: "counting" :: "refers" :: "freed" :: "shared" :: "just" :: "sent" :: "whole" :: "_law_start" :: "_law_draw" :: "_law_pick" :: "_law_mixed" :: "_law_same" :: "_law_name" :: "_law_names" :: "_law_spare" :: "_law_f_lowest" :: "_law_f_plus" :: "_law_f_times" :: "_law_f_below" :: "_law_b_rows" :: "_law_b_lots" :: "_law_b_house" :: "_law_b_sizes" :: "_law_b_store" :: "_law_b_answer" :: "_law_q_counted" :: "_law_q_made" :: "_law_q_named" :: "_law_q_drawn" :: "_law_k_refused" :: []) w := by
  intro os
  kernel_rfl
end Bk

namespace Bk
open PySem PySem.Spec PyProof.Rows L2
section
variable {P : Program} {w : World} {K : PySem.W.Frag} {mg : Str → Option Value} {base : Heap}
theorem scStart : FnScope ["_law_script"] ["_law_script"] (defScope (topS 54)) := ⟨rfl, rfl, rfl, by decide +kernel, rfl, by decide +kernel, by decide +kernel⟩
theorem ok_start (B : Bi mg) {f : Addr} {fd : FuncData} (F : Fun K "_law_start" "_law_start" (topS 54) f fd) : FnOk P w K mg base CX0 1 f fd ["_law_script"] (spStart K) := by
  refine F.ok scStart (fun vs H Q E h => ?_) (fun cdv A outer s H vs Q E hr h => ?_)
  · obtain ⟨a, ns, rfl, _⟩ := h
    rfl
  · obtain ⟨a, ns, rfl, hS, q⟩ := h
    refine ⟨_, (pss_one (ps_ret (pe_lst (pa_cons (pe_callTy (kList K) (by rfl) B.list (by decide +kernel) (pa_cons (pv 0) pa_nil)) (pa_cons pe_int (pa_cons pe_int (pa_cons pe_int pa_nil))))))), ?_⟩
    refine ⟨_, rfl, a, _, rfl, .inl hS, fun c nc => ⟨by show 4 ≤ sizeLine; decide, fun st nst => ?_⟩⟩
    have hne : c ≠ st := fun e => by
      rw [← e, upd_same] at nst
      cases nst
    have nst' : H st = none := by rw [upd_ne hne.symm] at nst; exact nst
    refine q st c _ (Same.trans (same_upd nc) (same_upd nst)) nst' nc ⟨hne, ns, 0, 0, 11, ?_, upd_same, by omega, by omega, by omega, by omega, by omega⟩
    rw [upd_ne hne, upd_same]
theorem scDraw : FnScope ["_law_stream", "_law_many", "_law_cell", "_law_digit", "_law_mixed_here"] ["_law_stream", "_law_many"] (defScope (topS 55)) := ⟨rfl, rfl, rfl, by decide +kernel, rfl, by decide +kernel, by decide +kernel⟩
theorem ok_draw (B : Bi mg) {f : Addr} {fd : FuncData} (F : Fun K "_law_draw" "_law_draw" (topS 55) f fd) : FnOk P w K mg base CX0 1 f fd ["_law_stream", "_law_many"] spDraw := by
  refine F.ok scDraw (fun vs H Q E h => ?_) (fun cdv A outer s H vs Q E hr h => ?_)
  · obtain ⟨st, c, n, k, rfl, _⟩ := h
    rfl
  · obtain ⟨st, c, n, k, rfl, S, hn, hk0, hk1, q⟩ := h
    have hu := hu_of hr
    have nd := scDraw.nd
    refine ⟨_, (Evl.pss_cut (ps_asg (pe_op op_add (pe_ix (kIxL K) (pv 0) pe_int (fun _ _ => rfl)) pe_int) (pg_sub (pv 0) pe_int set_list))
      (Evl.pss_cut (ps_if (PW.pt (pw_and (pt_cmpR op_eq (pe_ix (kIxL K) (pv 0) pe_int (fun _ _ => rfl)) pe_int (nomark _)) (pw_and1 (pt_cmpR (kNeD K hr.units) (pe_ix (kIxL K) (pv 0) pe_int (fun _ _ => rfl)) (pe_lst pa_nil) (nomark _))))) (pss_cons (ps_set (i := 2) nd rfl (Or.inl rfl) (pe_bm PySem.F.plainAttrs_list PySem.F.slot_list_pop PySem.F.type_list_pop mt_popAt (pe_ix (kIxL K) (pv 0) pe_int (fun _ _ => rfl)) (pa_cons pe_int pa_nil)))
      (pss_cons (ps_asg (pe_op op_mod (pe_callTy call_int1 (by rfl) B.int (by decide +kernel) (pa_cons (pe_op op_add (pe_op op_add (pe_op op_mul (pe_ix (kIxL K) (pv 0) pe_int (fun _ _ => rfl)) pe_int) (pv 2)) pe_int) pa_nil)) pe_int) (pg_sub (pv 0) pe_int set_list))
      (pss_one (ps_asg (pe_ifExp (pt_cmpR op_ge (pv 2) (pe_op op_pow pe_int pe_int) (nomark _)) (pv 2) pe_int) (pg_sub (pv 0) pe_int set_list))))) pss_nil)
      (pss_cons (ps_if (pt_cmpR op_gt (pe_ix (kIxL K) (pv 0) pe_int (fun _ _ => rfl)) pe_int (nomark _)) (pss_cons (ps_set (i := 3) nd rfl (Or.inl rfl) (pe_op op_mod (pe_callTy call_int1 (by rfl) B.int (by decide +kernel) (pa_cons (pe_ix (kIxL K) (pv 0) pe_int (fun _ _ => rfl)) pa_nil)) (pv 1)))
      (pss_cons (ps_asg (pe_op op_fdiv (pe_ix (kIxL K) (pv 0) pe_int (fun _ _ => rfl)) (pv 1)) (pg_sub (pv 0) pe_int set_list))
      (pss_one (ps_ret (pv 3))))) pss_nil)
      (pss_cons (ps_set (i := 4) nd rfl (Or.inl rfl) (pe_op op_mod (pe_callTy call_int1 (by rfl) B.int (by decide +kernel) (pa_cons (pe_op op_pow (pe_op op_add (pe_op op_add (pe_ix (kIxL K) (pv 0) pe_int (fun _ _ => rfl)) (pe_op op_mul pe_int (pe_ix (kIxL K) (pv 0) pe_int (fun _ _ => rfl)))) pe_int) pe_int) pa_nil)) pe_int))
      (pss_one (ps_ret (pe_op op_mod (pe_op op_mod (pe_callTy call_int1 (by rfl) B.int (by decide +kernel) (pa_cons (pe_op op_pow (pe_op op_add (pe_op op_add (pe_op op_mul (pv 4) pe_int) (pe_op op_mul pe_int (pe_ix (kIxL K) (pv 0) pe_int (fun _ _ => rfl)))) pe_int) pe_int) pa_nil)) pe_int) (pv 1)))))))), ?_⟩
    obtain ⟨ne, cells, a, b, m, hc, hs, ha, hb0, hb1, hm0, hm1⟩ := S
    refine ⟨fun σ' H1 => σ' = [some (.ref st), some (.int k), none, none, none] ∧ H1 st = some (.lst [.ref c, .int a, .int (b + 1), .int m]) ∧ H1 c = some (.lst (cells.map V.int)) ∧ Kept st c H H1, ?_, ?_⟩
    · refine ⟨_, rfl, st, _, _, _, rfl, rfl, SqL.of hs, atI_nat rfl, _, _, rfl, rfl, _, rfl, st, _, _, 2, rfl, rfl, hs, rfl, rfl, upd_same, by rw [upd_ne ne]; exact hc, fun x o n1 _ e => by rw [upd_ne n1]; exact e⟩
    rintro σ1 H1 ⟨rfl, hs1, hc1, kp1⟩
    refine ⟨fun σ' H2 => ∃ (a' m' : Int) (cells' : List Int) (v2 : Option V), 0 ≤ a' ∧ 0 ≤ m' ∧ m' < 2147483647 ∧ H2 c = some (.lst (cells'.map V.int)) ∧ H2 st = some (.lst [.ref c, .int a', .int (b + 1), .int m']) ∧ Kept st c H H2 ∧ σ' = [some (.ref st), some (.int k), v2, none, none], ?_, ?_⟩
    · refine ⟨_, rfl, st, _, _, _, rfl, rfl, SqL.of hs1, atI_nat rfl, rfl, _, rfl, ?_⟩
      refine ite2 (fun h => ?_) (fun h => ?_)
      · refine ⟨_, rfl, st, _, _, _, rfl, rfl, SqL.of hs1, atI_nat rfl, by show 0 ≤ sizeLine; exact Nat.zero_le _, fun l nl => ?_⟩
        have e1 := same_upd (H := H1) (o := HO.lst []) nl
        refine ⟨.list (cells.map PyData.int), .list [], .lst (SqL.of (e1 _ _ hc1)) (dp_ints cells), .lst (SqL.of upd_same) .nil, shaped_ints cells, rfl, _, rfl, ?_⟩
        rw [eqv_nil]
        have hs2 := e1 _ _ hs1
        have hc2 := e1 _ _ hc1
        have kp2 := kp1.trans (Same.kept e1)
        generalize upd H1 l (.lst []) = H2 at hs2 hc2 kp2 ⊢
        clear e1 nl
        cases cells with
        | nil => exact ⟨a, m, [], none, ha, hm0, hm1, hc2, hs2, kp2, rfl⟩
        | cons x r =>
          refine iteT ?_
          refine ⟨_, rfl, st, _, _, _, rfl, rfl, SqL.of hs2, atI_nat rfl, .inl ⟨rfl, _, SqL.of hc2⟩, c, _, 0, 0, _, rfl, rfl, hc2, by decide, by decide, (ixN_seq (Evl.ixN_nat (j := 0) (by simp))).1, rfl, ?_⟩
          have hc3 : (upd H2 c (HO.lst ((List.map V.int (x :: r)).eraseIdx 0))) c = some (.lst (r.map V.int)) := upd_same
          have hs3 : (upd H2 c (HO.lst ((List.map V.int (x :: r)).eraseIdx 0))) st = some (.lst [.ref c, .int a, .int (b + 1), .int m]) := by rw [upd_ne ne.symm]; exact hs2
          have kp3 : Kept st c H (upd H2 c (HO.lst ((List.map V.int (x :: r)).eraseIdx 0))) := kp2.trans fun y o _ n2 e => by rw [upd_ne n2]; exact e
          generalize upd H2 c (HO.lst ((List.map V.int (x :: r)).eraseIdx 0)) = H3 at hc3 hs3 kp3 ⊢
          have m0 := Int.emod_nonneg (m * 8191 + x + 3) (show (2147483647 : Int) ≠ 0 by omega)
          have m1 := Int.emod_lt_of_pos (m * 8191 + x + 3) (show (0 : Int) < 2147483647 by omega)
          refine ⟨_, rfl, st, _, _, _, rfl, rfl, SqL.of hs3, atI_nat rfl, _, _, rfl, rfl, .inl ⟨by omega, by omega⟩, _, rfl, _, _, rfl, rfl, _, _, rfl, rfl, .inl ⟨_, rfl, ?_⟩⟩
          refine ⟨_, _, rfl, rfl, by omega, ?_⟩
          refine ⟨_, rfl, st, _, _, 3, rfl, rfl, hs3, rfl, ?_⟩
          refine ⟨_, rfl, _, _, rfl, rfl, ⟨by omega, by omega, by omega⟩, _, _, rfl, rfl, _, rfl, ?_⟩
          refine ite2 (fun hx => ?_) (fun hx => ?_)
          · have hx : (10 : Int) ^ (18 : Int).toNat ≤ x := of_decide_eq_true hx
            have hp : (0 : Int) ≤ 10 ^ (18 : Int).toNat := by decide
            refine ⟨_, rfl, _, rfl, st, _, _, 1, rfl, rfl, upd_same, rfl, ?_⟩
            refine ⟨x, _, r, some (.int x), by omega, m0, m1, ?_, upd_same, ?_, rfl⟩
            · rw [upd_ne ne, upd_ne ne]; exact hc3
            · exact kp3.trans fun y o n1 _ e => by rw [upd_ne n1, upd_ne n1]; exact e
          · refine ⟨_, rfl, st, _, _, 1, rfl, rfl, upd_same, rfl, ?_⟩
            refine ⟨0, _, r, some (.int x), by omega, m0, m1, ?_, upd_same, ?_, rfl⟩
            · rw [upd_ne ne, upd_ne ne]; exact hc3
            · exact kp3.trans fun y o n1 _ e => by rw [upd_ne n1, upd_ne n1]; exact e
      · exact ⟨a, m, cells, none, ha, hm0, hm1, hc1, hs1, kp1, rfl⟩
    · rintro σ' H2 ⟨a', m', cells', v2, ha', hm0', hm1', hc2, hs2, kp2, rfl⟩
      refine ⟨_, rfl, st, _, _, _, rfl, rfl, SqL.of hs2, atI_nat rfl, _, _, rfl, rfl, _, rfl, ?_⟩
      refine ite2 (fun h => ?_) (fun h => ?_)
      · have h := of_decide_eq_true h
        refine ⟨_, rfl, st, _, _, _, rfl, rfl, SqL.of hs2, atI_nat rfl, .inl ⟨_, rfl, ?_⟩⟩
        refine ⟨_, rfl, _, _, rfl, rfl, hk0, ?_⟩
        refine ⟨_, rfl, st, _, _, _, rfl, rfl, SqL.of hs2, atI_nat rfl, ?_⟩
        refine ⟨_, rfl, _, _, rfl, rfl, ⟨hk0, by omega⟩, ?_⟩
        refine ⟨_, rfl, st, _, _, 1, rfl, rfl, hs2, rfl, ?_⟩
        refine ⟨_, rfl, ?_⟩
        refine q (a' % k) _ (Int.emod_nonneg _ (by omega)) (Int.emod_lt_of_pos _ hk0) ⟨ne, cells', a' / k, b + 1, m', by rw [upd_ne ne]; exact hc2, upd_same, Int.ediv_nonneg ha' (by omega), by omega, by omega, hm0', hm1'⟩ (kp2.trans fun x o n1 _ e => by rw [upd_ne n1]; exact e)
      · refine ⟨_, rfl, st, _, _, _, rfl, rfl, SqL.of hs2, atI_nat rfl, ?_⟩
        refine ⟨_, rfl, st, _, _, _, rfl, rfl, SqL.of hs2, atI_nat rfl, _, _, rfl, rfl, .inl ⟨by omega, by omega⟩, ?_⟩
        refine ⟨_, _, rfl, rfl, _, _, rfl, rfl, _, _, rfl, rfl, ⟨by omega, by omega, by omega⟩, .inl ⟨_, rfl, ?_⟩⟩
        refine ⟨_, _, rfl, rfl, by omega, ?_⟩
        have d0 := Int.emod_nonneg ((m' + 7919 * (b + 1) + 104729) ^ (5 : Int).toNat) (show (2147483629 : Int) ≠ 0 by omega)
        have d1 := Int.emod_lt_of_pos ((m' + 7919 * (b + 1) + 104729) ^ (5 : Int).toNat) (show (0 : Int) < 2147483629 by omega)
        generalize (m' + 7919 * (b + 1) + 104729) ^ (5 : Int).toNat % 2147483629 = mx at d0 d1 ⊢
        refine ⟨_, rfl, _, _, rfl, rfl, .inl ⟨by omega, by omega⟩, ?_⟩
        refine ⟨_, rfl, st, _, _, _, rfl, rfl, SqL.of hs2, atI_nat rfl, _, _, rfl, rfl, .inl ⟨by omega, by omega⟩, ?_⟩
        refine ⟨_, _, rfl, rfl, _, _, rfl, rfl, _, _, rfl, rfl, ⟨by omega, by omega, by omega⟩, .inl ⟨_, rfl, ?_⟩⟩
        refine ⟨_, _, rfl, rfl, by omega, ?_⟩
        refine ⟨_, rfl, _, _, rfl, rfl, hk0, ?_⟩
        exact q _ _ (Int.emod_nonneg _ (by omega)) (Int.emod_lt_of_pos _ hk0) ⟨ne, cells', a', b + 1, m', hc2, hs2, ha', by omega, by omega, hm0', hm1'⟩ kp2
theorem scPick : FnScope ["_law_stream", "_law_some"] ["_law_stream", "_law_some"] (defScope (topS 56)) := ⟨rfl, rfl, rfl, by decide +kernel, rfl, by decide +kernel, by decide +kernel⟩
theorem pk_len {H : Hp} {st c : Addr} {x : V} {len : Nat} {f : Nat → V} (p : Pk K H st c x len f) : LenV K x H len := by
  cases p with
  | lst h => exact .inl ⟨_, h, rfl⟩
  | tup h => exact .inr ⟨_, h, rfl⟩
  | str hz => exact ⟨hz, rfl⟩
theorem pk_at {H H' : Hp} {st c : Addr} {x : V} {len : Nat} {f : Nat → V} {j : Nat} {Q : VK} (p : Pk K H st c x len f) (k : Kept st c H H') (hj : j < len) (q : Q (f j) H') : rIx K x (.int (j : Int)) H' Q := by
  have sq : ∀ {a : Addr} {u : HO}, Rd H a u → a ≠ st → a ≠ c → Rd H' a u := fun h n1 n2 => h.elim (fun h => .inl (k _ _ n1 n2 h)) fun ⟨o, h⟩ => .inr ⟨o, k _ _ n1 n2 h⟩
  cases p with
  | lst h n1 n2 e => exact .inl ⟨_, _, _, _, rfl, rfl, h.imp (fun h => sq h n1 n2) id, atI_nat (e j hj), q⟩
  | tup h n1 n2 e => exact .inr (.inl ⟨_, _, _, _, rfl, rfl, h.imp (fun h => sq h n1 n2) id, atI_nat (e j hj), q⟩)
  | str hz e =>
    obtain ⟨ch, h1, h2⟩ := e j hj
    rw [h2] at q
    exact .inr (.inr ⟨_, _, ch, rfl, rfl, hz, atI_nat h1, q⟩)
theorem ok_pick (B : Bi mg) {f f1 : Addr} {fd fd1 : FuncData} (c__law_draw : Cal P w K mg base CX0 1 "_law_draw" f1 fd1 ["_law_stream", "_law_many"] spDraw) (F : Fun K "_law_pick" "_law_pick" (topS 56) f fd) : FnOk P w K mg base CX0 2 f fd ["_law_stream", "_law_some"] (spPick K) := by
  refine F.ok scPick (fun vs H Q E h => ?_) (fun cdv A outer s H vs Q E hr h => ?_)
  · obtain ⟨st, c, n, len, x, f, rfl, _⟩ := h
    rfl
  · obtain ⟨st, c, n, len, x, f, rfl, S, hn, h0, h1, pk, q⟩ := h
    have hr__law_draw := hr
    have nd := scPick.nd
    refine ⟨_, (pss_one (ps_ret (pe_ix (kIx K) (pv 1) (pe_call c__law_draw.ok hr__law_draw (by rfl) c__law_draw.g c__law_draw.kp c__law_draw.b .nil pass0 (pa_cons (pv 0) (pa_cons (pe_callB (kLen K) (by rfl) B.len PySem.boot_len (pa_cons (pv 1) pa_nil)) pa_nil))) (fun _ _ => rfl)))), ?_⟩
    refine ⟨_, rfl, _, rfl, _, rfl, _, _, rfl, pk_len pk, st, c, n, _, rfl, S, hn, by omega, by omega, fun d H' d0 d1 S' kp => ?_⟩
    have e : ((d.toNat : Nat) : Int) = d := Int.toNat_of_nonneg d0
    rw [← e]
    exact pk_at pk kp (by omega) (q d.toNat H' (by omega) S' kp)
end
end Bk

namespace Bk
open PySem PySem.Spec PyProof.Rows L2
open TL (tl)
section
variable {P : Program} {w : World} {K : PySem.W.Frag} {mg : Str → Option Value} {base : Heap}
theorem width_at : ∀ j : Nat, j < 6 → ∃ wd : Nat, ([V.int 1, V.int 1, V.int 2, V.int 3, V.int 5, V.int 8] : List V)[j]? = some (V.int (wd : Int)) ∧ 1 ≤ wd ∧ wd ≤ 8
  | 0, _ => ⟨1, rfl, by decide, by decide⟩
  | 1, _ => ⟨1, rfl, by decide, by decide⟩
  | 2, _ => ⟨2, rfl, by decide, by decide⟩
  | 3, _ => ⟨3, rfl, by decide, by decide⟩
  | 4, _ => ⟨5, rfl, by decide, by decide⟩
  | 5, _ => ⟨8, rfl, by decide, by decide⟩
  | n + 6, h => absurd h (by omega)
/-- a text of one sign -/
def sg (c : Nat) : Str := ⟨#[c]⟩
theorem join_sg (cs : List Nat) : (Txt.join (Str.ofString "") (cs.map sg)).cps.toList = cs := by
  show TL.tl (Txt.join (Str.ofString "") (cs.map sg)) = cs
  rw [TL.join_eq, TL.tl_join, List.map_map]
  rw [show TL.tl (Str.ofString "") = [] from rfl]
  have h : ∀ l : List Nat, TL.joinL [] (l.map (TL.tl ∘ sg)) = l := by
    intro l
    induction l with
    | nil => rfl
    | cons a r ih =>
      cases r with
      | nil => rfl
      | cons b r =>
        show [a] ++ ([] ++ TL.joinL [] ((b :: r).map (TL.tl ∘ sg))) = a :: b :: r
        rw [ih]
        rfl
  exact h cs
theorem isName_of {z : Str} (h1 : 1 ≤ z.cps.toList.length) (h2 : z.cps.toList.length ≤ 8) (h : ∀ c ∈ z.cps.toList, c ∈ lettersL) : isNameS z = true := by
  have e : z.length = z.cps.toList.length := by simp [Str.length]
  unfold isNameS
  rw [e, decide_eq_true h1, decide_eq_true h2, List.all_eq_true.mpr fun c hc => decide_eq_true (h c hc)]
  rfl
theorem scName : FnScope ["_law_stream", "_law_width", "_law_k"] ["_law_stream"] (defScope (topS 59)) := ⟨rfl, rfl, rfl, by decide +kernel, rfl, by decide +kernel, by decide +kernel⟩
theorem ok_name (B : Bi mg) {f f1 f2 : Addr} {fd fd1 fd2 : FuncData} (c__law_draw : Cal P w K mg base CX0 1 "_law_draw" f1 fd1 ["_law_stream", "_law_many"] spDraw) (c__law_pick : Cal P w K mg base CX0 2 "_law_pick" f2 fd2 ["_law_stream", "_law_some"] (spPick K))
    (F : Fun K "_law_name" "_law_name" (topS 59) f fd) : FnOk P w K mg base CX0 3 f fd ["_law_stream"] spName := by
  refine F.ok scName (fun vs H Q E h => ?_) (fun cdv A outer s H vs Q E hr h => ?_)
  · obtain ⟨st, c, n, rfl, _⟩ := h
    rfl
  · obtain ⟨st, c, n, rfl, S, hn, q⟩ := h
    have hr__law_pick := hr
    have hr__law_draw : Room 1 _ := hr.mono (by decide)
    have nd := scName.nd
    refine ⟨_, (Evl.pss_cut (ps_set (i := 1) nd rfl (Or.inl rfl) (pe_ix (kIxL K) (pe_lst (pa_cons pe_int (pa_cons pe_int (pa_cons pe_int (pa_cons pe_int (pa_cons pe_int (pa_cons pe_int pa_nil))))))) (pe_call c__law_draw.ok hr__law_draw (by rfl) c__law_draw.g c__law_draw.kp c__law_draw.b .nil pass0 (pa_cons (pv 0) (pa_cons pe_int pa_nil))) (fun _ _ => rfl)))
      (pss_one (ps_ret (pe_join pe_str (pe_lc (own := [("_law_k", 2)]) rfl nd (pi_range1 (by rfl) B.range (pa_cons (pv 1) pa_nil)) (blkOk_by (N := ["_law_stream", "_law_width", "_law_k"]) (sc := defScope (topS 59)) (by decide +kernel)) (fun _ _ _ _ _ => (pg_name (i := 2) nd rfl (Or.inl rfl))) (fun _ _ _ _ _ => pts_nil) (fun _ _ _ _ _ => (pe_call c__law_pick.ok hr__law_pick (by rfl) c__law_pick.g c__law_pick.kp c__law_pick.b .nil pass0 (pa_cons (pv 0) (pa_cons pe_str pa_nil))))))))), ?_⟩
    refine ⟨fun σ' H1 => ∃ wd : Nat, 1 ≤ wd ∧ wd ≤ 8 ∧ σ' = [some (.ref st), some (.int (wd : Int)), none] ∧ Strm H1 st c (n + 1) ∧ Kept st c H H1, ?_, ?_⟩
    · refine ⟨by show 6 ≤ sizeLine; decide, fun l nl => ?_⟩
      have k1 := same_upd (o := HO.lst [V.int 1, V.int 1, V.int 2, V.int 3, V.int 5, V.int 8]) nl
      obtain ⟨n1, n2⟩ := S.notfree nl
      refine ⟨_, rfl, st, c, n, 6, rfl, S.same k1, by omega, by omega, by omega, fun d H1 d0 d1 S1 kp => ?_⟩
      obtain ⟨wd, e1, w1, w8⟩ := width_at d.toNat (by omega)
      refine ⟨l, _, _, _, rfl, rfl, SqL.of (kp l _ n1 n2 upd_same), ?_, wd, w1, w8, rfl, S1, (Same.kept k1).trans kp⟩
      rw [← Int.toNat_of_nonneg d0]
      exact atI_nat e1
    · rintro σ1 H1 ⟨wd, w1, w8, rfl, S1, k1⟩
      refine ⟨⟨_, rfl⟩, _, rfl, (wd : Int), rfl, by omega, by omega, fun D nD => ?_⟩
      obtain ⟨n1, n2⟩ := S1.notfree nD
      have hD0 := k1.free nD n1 n2
      refine lc_it walk_range (fun i H2 => ∃ cs : List Nat, cs.length = i ∧ (∀ x ∈ cs, x ∈ lettersL) ∧ H2 D = some (.lst ((cs.map sg).map V.str)) ∧ Strm H2 st c (n + 1 + i) ∧ Kept st c H H2) ?_ (fun _ _ _ _ => trivial) ?_ ?_
      · exact ⟨[], rfl, (fun x z => nomatch z), upd_same, S1.same (same_upd nD), k1.trans (Same.kept (same_upd nD))⟩
      · rintro i x H2 H3 hi ⟨cs, e1, e2, e3, S2, k2⟩ ⟨rfl, rfl⟩
        have hi : i < wd := by omega
        refine ⟨rfl, yes2 ?_⟩
        refine ⟨_, rfl, st, c, n + 1 + i, 26, _, fun j => V.str (sg (lettersL.getD j 0)), rfl, S2, by omega, by omega, by omega, ?_, fun j H4 hj S4 k4 => ?_⟩
        · refine Pk.str (z := Str.ofString "abcdefghijklmnopqrstuvwxyz") (by decide +kernel) fun j hj => ⟨lettersL.getD j 0, ?_, rfl⟩
          have hj : j < lettersL.length := hj
          show lettersL[j]? = _
          rw [List.getD_eq_getElem?_getD, List.getElem?_eq_getElem hj]
          rfl
        · refine ⟨_, k4 D _ n1 n2 e3, ?_, cs ++ [lettersL.getD j 0], by rw [List.length_append, e1]; rfl, ?_, ?_, ?_, ?_⟩
          · rw [List.length_map, List.length_map]
            exact Evl.sz_lt (by omega)
          · intro x hx
            rcases List.mem_append.mp hx with hx | hx
            · exact e2 x hx
            · rw [List.mem_singleton.mp hx]
              have hj : j < lettersL.length := hj
              rw [List.getD_eq_getElem?_getD, List.getElem?_eq_getElem hj]
              exact List.getElem_mem hj
          · rw [upd_same, List.map_append, List.map_append]
            rfl
          · exact S4.upd n1 n2
          · exact (k2.trans k4).grow hD0
      · rintro H2 ⟨cs, e1, e2, e3, S2, k2⟩
        have e1 : cs.length = wd := by omega
        refine ⟨_, D, cs.map sg, rfl, rfl, .inl (SqL.of e3), ?_, ?_⟩
        · have h1 : ∀ l : List Nat, ((l.map sg).map (·.length)).sum = l.length := by
            intro l
            induction l with
            | nil => rfl
            | cons a r ih =>
              simp only [List.map_cons, List.sum_cons, List.length_cons, ih]
              show 1 + r.length = r.length + 1
              omega
          rw [h1, List.length_map, show (Str.ofString "").length = 0 from rfl]
          omega
        · refine q _ H2 (isName_of ?_ ?_ ?_) (S2.more (by omega)) k2 <;> rw [join_sg]
          · omega
          · omega
          · exact e2
end
end Bk

namespace Bk
open PySem PySem.Spec PyProof.Rows L2
/-- the names that are taken where the drawn one stands already -/
def backNames : List Str := (Str.ofString "abcdefghijklmnop").cps.toList.map fun c => sg c ++ Str.ofString "jq"
theorem back_nodup : backNames.Nodup := by decide +kernel
theorem back_len : backNames.length = 16 := by decide +kernel
theorem back_names : ∀ z ∈ backNames, isNameS z = true := by decide +kernel
theorem back_sizes : ∀ z ∈ backNames, z.length ≤ 100 := by decide +kernel
/-- the first name that is not yet among those found -/
theorem fresh_name (z : Str) (hz : isNameS z = true) (found : List Str) (hf : found.length < 16) : ∃ y r, (z :: backNames).filter (fun x => decide (¬ x ∈ found)) = y :: r ∧ isNameS y = true ∧ y ∉ found := by
  cases e : (z :: backNames).filter (fun x => decide (¬ x ∈ found)) with
  | nil =>
    have h : ∀ x ∈ backNames, x ∈ found := by
      intro x hx
      by_cases h : x ∈ found
      · exact h
      · have : x ∈ (z :: backNames).filter (fun x => decide (¬ x ∈ found)) := List.mem_filter.mpr ⟨List.mem_cons_of_mem _ hx, decide_eq_true h⟩
        rw [e] at this
        cases this
    have := pigeon backNames found back_nodup h
    rw [back_len] at this
    omega
  | cons y r =>
    have hy : y ∈ (z :: backNames).filter (fun x => decide (¬ x ∈ found)) := by rw [e]; exact List.mem_cons_self
    obtain ⟨h1, h2⟩ := List.mem_filter.mp hy
    refine ⟨y, r, rfl, ?_, of_decide_eq_true h2⟩
    rcases List.mem_cons.mp h1 with h | h
    · rw [h]; exact hz
    · exact back_names y h
section
variable {P : Program} {w : World} {K : PySem.W.Frag} {mg : Str → Option Value} {base : Heap}
theorem scNames : FnScope ["_law_stream", "_law_many", "_law_found", "_law_k", "_law_spare_here", "_law_letter", "_law_x"] ["_law_stream", "_law_many"] (defScope (topS 60)) := ⟨rfl, rfl, rfl, by decide +kernel, rfl, by decide +kernel, by decide +kernel⟩
theorem ok_names (B : Bi mg) {f f1 : Addr} {fd fd1 : FuncData} (c__law_name : Cal P w K mg base CX0 3 "_law_name" f1 fd1 ["_law_stream"] spName)
    (F : Fun K "_law_names" "_law_names" (topS 60) f fd) : FnOk P w K mg base CX0 4 f fd ["_law_stream", "_law_many"] (spNames K) := by
  refine F.ok scNames (fun vs H Q E h => ?_) (fun cdv A outer s H vs Q E hr h => ?_)
  · obtain ⟨st, c, n, many, rfl, _⟩ := h
    rfl
  · obtain ⟨st, c, n, many, rfl, S, hn, hm, q⟩ := h
    have hr__law_name := hr
    have nd := scNames.nd
    refine ⟨_, (pss_cons (ps_set (i := 2) nd rfl (Or.inr rfl) (pe_lst pa_nil))
      (pss_cons (ps_for PassesOwn.never rfl (pi_range1 (by rfl) B.range (pa_cons (pv 1) pa_nil)) (pg_name (i := 3) nd rfl (Or.inl rfl)) (Evl.pss_cut (ps_set (i := 4) nd rfl (Or.inl rfl) (pe_op op_cat (pe_lst (pa_cons (pe_call c__law_name.ok hr__law_name (by rfl) c__law_name.g c__law_name.kp c__law_name.b .nil pass0 (pa_cons (pv 0) pa_nil)) pa_nil)) (pe_lc (own := [("_law_letter", 5)]) rfl nd (pi_str pe_str) (blkOk_by (N := ["_law_stream", "_law_many", "_law_found", "_law_k", "_law_spare_here", "_law_letter", "_law_x"]) (sc := defScope (topS 60)) (by decide +kernel)) (fun _ _ _ _ _ => (pg_name (i := 5) nd rfl (Or.inl rfl))) (fun _ _ _ _ _ => pts_nil) (fun _ _ _ _ _ => (pe_op op_add_str (pv 5) pe_str)))))
      (pss_one (ps_expr (pe_bm PySem.F.plainAttrs_list PySem.F.slot_list_append PySem.F.type_list_append mt_append (pv 2) (pa_cons (pe_ix (kIxL K) (pe_lc (own := [("_law_x", 6)]) rfl nd (kPiL K (pv 4)) (blkOk_by (N := ["_law_stream", "_law_many", "_law_found", "_law_k", "_law_spare_here", "_law_letter", "_law_x"]) (sc := defScope (topS 60)) (by decide +kernel)) (fun _ _ _ _ _ => (pg_name (i := 6) nd rfl (Or.inl rfl))) (fun _ _ _ _ _ => (pts_one (pt_cmpR (kNotIn K) (pv 6) (pv 2) rfl))) (fun _ _ _ _ _ => (pv 6))) pe_int (fun _ _ => rfl)) pa_nil))))))
      (pss_one (ps_ret (pv 2))))), ?_⟩
    refine ⟨by show 0 ≤ sizeLine; exact Nat.zero_le _, fun l nl => ?_⟩
    obtain ⟨l1, l2⟩ := S.notfree nl
    refine ⟨_, rfl, (many : Int), rfl, by omega, by omega, ?_⟩
    refine for_it walk_range (fun i σ H1 => ∃ (zs : List Str) (v3 v4 : Option V), σ = [some (.ref st), some (.int (many : Int)), some (.ref l), v3, v4, none, none] ∧ zs.length = i ∧ zs.Nodup ∧ (∀ z ∈ zs, isNameS z = true) ∧
      H1 l = some (.lst (zs.map V.str)) ∧ Strm H1 st c (n + 9 * i) ∧ Kept st c H H1) ?_ (fun _ _ _ _ _ => trivial) ?_ ?_
    · exact ⟨[], none, none, rfl, rfl, List.nodup_nil, (fun _ z => nomatch z), upd_same, S.same (same_upd nl), Same.kept (same_upd nl)⟩
    · rintro i x σ H1 H2 hi ⟨zs, v3, v4, rfl, z1, z2, z3, z4, S1, k1⟩ ⟨rfl, rfl⟩
      have hi : i < many := by omega
      -- the spare ones
      refine ⟨fun σ' H3 => ∃ (p : Addr) (z : Str), isNameS z = true ∧ σ' = [some (.ref st), some (.int (many : Int)), some (.ref l), some (.int (0 + (i : Int))), some (.ref p), none, none] ∧ p ≠ l ∧
        H3 p = some (.lst ((z :: backNames).map V.str)) ∧ H3 l = some (.lst (zs.map V.str)) ∧ Strm H3 st c (n + 9 * i + 9) ∧ Kept st c H H3, ?_, ?_⟩
      · refine ⟨_, rfl, st, c, n + 9 * i, rfl, S1, by omega, fun z H3 hz S3 k3 => ?_⟩
        refine ⟨by show 1 ≤ sizeLine; decide, fun a na => ?_⟩
        have ka := same_upd (o := HO.lst [V.str z]) na
        obtain ⟨a1, a2⟩ := S3.notfree na
        have S4 : Strm (upd H3 a (.lst [V.str z])) st c (n + 9 * i + 9) := S3.same ka
        have zl : (upd H3 a (.lst [V.str z])) l = some (.lst (zs.map V.str)) := ka _ _ (k3 l _ l1 l2 z4)
        refine ⟨_, rfl, fun D nD => lc_it walk_str (Upto (upd H3 a (.lst [V.str z])) D (Str.ofString "abcdefghijklmnop").cps.toList fun ch => V.str (sg ch ++ Str.ofString "jq")) (.zero nD) (fun _ _ _ _ => trivial) ?_ ?_⟩
        · rintro j x H5 H6 hj u ⟨rfl, ch, hc, rfl⟩
          refine ⟨rfl, yes2 ?_⟩
          have hc' : (Str.ofString "abcdefghijklmnop").cps.toList[j]? = some ch := by rw [← hc]; simp
          exact ⟨_, rfl, _, _, rfl, rfl, (by show 3 ≤ sizeLine; decide), u.next nD hc' (Same.refl _) (by decide)⟩
        · intro H5 u
          have eD := u.all (by simp)
          have sm := u.sm
          refine ⟨a, D, [V.str z], backNames.map V.str, rfl, rfl, sm _ _ upd_same, ?_, ?_, fun p np => ?_⟩
          · rw [eD]
            unfold backNames
            rw [List.map_map]
            rfl
          · rw [List.length_map, back_len]
            show 1 + 16 ≤ sizeLine
            decide
          · have sp := same_upd (o := HO.lst ([V.str z] ++ backNames.map V.str)) np
            refine ⟨p, z, hz, rfl, (ne_of_none (sm _ _ zl) np).symm, upd_same, sp _ _ (sm _ _ zl), (S4.same sm).same sp, ((k1.trans k3).trans (Same.kept ka)).trans ((Same.kept sm).trans (Same.kept sp))⟩
      · rintro σ2 H3 ⟨p, z, hz, rfl, npl, ep, el, S3, k3⟩
        obtain ⟨y, r, ey, hy, hny⟩ := fresh_name z hz zs (by omega)
        refine ⟨_, rfl, .inl ⟨rfl, _, SqL.of el⟩, ?_⟩
        refine ⟨_, rfl, p, rfl, ⟨_, SqL.of ep⟩, fun D nD => lc_it (walk_list (xs := (z :: backNames).map V.str)) (UptoF H3 D (z :: backNames) V.str fun x => decide (¬ x ∈ zs)) (.zero nD) (fun j H4 _ u => SqL.of (u.sm _ _ ep)) ?_ ?_⟩
        · rintro j x H4 H5 hj u ⟨rfl, hx⟩
          rw [List.getElem?_map] at hx
          obtain ⟨y0, hy0, rfl⟩ := Option.map_eq_some_iff.mp hx
          refine ⟨rfl, ?_⟩
          refine ⟨_, rfl, _, rfl, l, _, rfl, .inl (SqL.of (u.sm _ _ el)), rfl, flat_strs _, _, rfl, ?_⟩
          rw [inV_strs]
          by_cases hm : y0 ∈ zs
          · rw [decide_eq_true hm]
            refine iteF ?_
            exact u.no hy0 (by simp [hm]) (Same.refl _)
          · rw [decide_eq_false hm]
            refine iteT ?_
            exact ⟨_, rfl, u.yes nD hy0 (by simp [hm]) (Same.refl _) (by rw [List.length_cons, back_len]; decide)⟩
        · intro H4 u
          have eD := u.all (by rw [List.length_map])
          rw [ey] at eD
          have el4 := u.sm _ _ el
          refine ⟨D, _, 0, V.str y, rfl, rfl, SqL.of eD, atI_nat (j := 0) rfl, l, _, _, rfl, rfl, el4, ?_, ?_⟩
          · rw [List.length_map]
            exact Evl.sz_lt (by omega)
          · have S4 := S3.same u.sm
            refine ⟨zs ++ [y], _, _, rfl, by rw [List.length_append, z1]; rfl, ?_, ?_, ?_, ?_, ?_⟩
            · rw [List.nodup_append]
              exact ⟨z2, (by simp), fun a ha b hb e => hny (by rw [List.mem_singleton.mp hb] at e; rw [← e]; exact ha)⟩
            · intro x hx
              rcases List.mem_append.mp hx with hx | hx
              · exact z3 x hx
              · rw [List.mem_singleton.mp hx]; exact hy
            · rw [upd_same, List.map_append]
              rfl
            · exact (S4.upd l1 l2).more (by omega)
            · exact (k3.trans (Same.kept u.sm)).grow nl
    · rintro σ H1 ⟨zs, v3, v4, rfl, z1, z2, z3, z4, S1, k1⟩
      have z1 : zs.length = many := by omega
      exact ⟨_, rfl, q l zs H1 nl z1 z2 z3 (S1.more (by omega)) k1 z4⟩
end
end Bk

namespace Bk
open PySem PySem.Spec PyProof.Rows L2
section
variable {P : Program} {w : World} {K : PySem.W.Frag} {mg : Str → Option Value} {base : Heap}
theorem scFirst : FnScope ["names", "most", "at", "name"] ["names", "most"] (defScope (topS 29)) := ⟨rfl, rfl, rfl, by decide +kernel, rfl, by decide +kernel, by decide +kernel⟩
theorem ok_first (B : Bi mg) {f f1 f2 : Addr} {fd fd1 fd2 : FuncData} (c_is_list : Cal P w K mg base CX0 1 "is_list" f1 fd1 ["thing"] (spIsList K)) (c_is_name : Cal P w K mg base CX0 1 "is_name" f2 fd2 ["thing"] (spIsName K))
    (F : Fun K "first_wrong" "first_wrong" (topS 29) f fd) : FnOk P w K mg base CX0 2 f fd ["names", "most"] (spFirstWrong K) := by
  refine F.ok scFirst (fun vs H Q E h => ?_) (fun cdv A outer s H vs Q E hr h => ?_)
  · obtain ⟨x, o, most, rfl, _⟩ := h
    rfl
  · obtain ⟨x, o, most, rfl, T, q⟩ := h
    have hr_is_list := hr
    have hr_is_name := hr
    have nd := scFirst.nd
    refine ⟨_, (pss_cons (ps_if (PW.pt (pw_or (pt_not (pt_val (pe_call c_is_list.ok hr_is_list (by rfl) c_is_list.g c_is_list.kp c_is_list.b .nil pass0 (pa_cons (pv 0) pa_nil)))) (pw_or1 (pt_cmpR op_eq (pe_callB (kLen K) (by rfl) B.len PySem.boot_len (pa_cons (pv 0) pa_nil)) pe_int (nomark _))))) (pss_one (ps_ret pe_int)) pss_nil)
      (pss_cons (ps_for PassesOwn.never rfl (kPiE K (by rfl) B.enumerate (pa_cons (pv 0) pa_nil)) (kTg K 2 rfl (pgs_cons (pg_name (i := 2) nd rfl (Or.inl rfl)) (pgs_cons (pg_name (i := 3) nd rfl (Or.inl rfl)) pgs_nil))) (pss_one (ps_if (PW.pt (pw_or (pt_cmpR op_eq (pv 2) (pv 1) (nomark _)) (pw_or (pt_not (pt_val (pe_call c_is_name.ok hr_is_name (by rfl) c_is_name.g c_is_name.kp c_is_name.b .nil pass0 (pa_cons (pv 3) pa_nil)))) (pw_or1 (pt_cmpR (kIn K) (pv 3) (pe_slice ((kSlL K).or (kSlT K)) (pv 0) po_none (po_some (pv 2))) rfl))))) (pss_one (ps_ret (pv 2))) pss_nil)))
      (pss_one (ps_ret pe_non)))), ?_⟩
    cases T with
    | no b =>
      refine ⟨_, rfl, _, false, rfl, b, fun H1 e1 => ⟨_, rfl, ?_⟩⟩
      refine iteT ?_
      refine iteT ?_
      exact q H1 e1
    | @seq a xs hS0 b hi hl =>
      have hS : SqL K H a xs ∨ SqT K H a xs := hS0.imp id SqT.of
      clear hS0
      refine ⟨_, rfl, _, true, rfl, b, fun H1 e1 => ⟨_, rfl, ?_⟩⟩
      refine iteF ?_
      have hS1 : SqL K H1 a xs ∨ SqT K H1 a xs := hS.imp (fun z => e1.seq z) fun z => Same.sqt e1 z
      refine ⟨_, rfl, .ref a, xs.length, rfl, hS1.imp (fun z => ⟨xs, z, rfl⟩) (fun z => ⟨xs, z, rfl⟩), rfl, _, rfl, ?_⟩
      cases xs with
      | nil =>
        refine iteT ?_
        exact q H1 e1
      | cons x0 r0 =>
        have hlen : (x0 :: r0).length = r0.length + 1 := rfl
        generalize hxs : x0 :: r0 = xs at hS1 hi hl q hlen ⊢
        have hne : xs ≠ [] := by rw [← hxs]; exact List.cons_ne_nil _ _
        have efw : firstWrong xs most = wrongFrom xs most 0 (xs.drop 0) := by
          unfold firstWrong
          rw [if_neg hne]
          rfl
        have q : ∀ H', Same H H' → Q (optV (wrongFrom xs most 0 (xs.drop 0))) H' := fun H' e => by
          rw [← efw]
          exact q H' e
        have e0 : decide (V.int (xs.length : Int) = V.int 0) = false := decide_eq_false (fun z => by injection z with z; omega)
        rw [e0]
        refine iteF ?_
        refine st_next ?_
        refine st_seq ?_
        refine for_enS (a := a) (xs := xs) rfl hS1 (fun i σ H2 => ∃ v2 v3, σ = [some (.ref a), some (.int (most : Int)), v2, v3] ∧ Same H1 H2 ∧ wrongFrom xs most 0 (xs.drop 0) = wrongFrom xs most i (xs.drop i) ∧ ∀ j x, j < i → xs[j]? = some x → isNameB x = true) ?_ ?_ ?_ ?_
        · exact ⟨none, none, rfl, Same.refl _, rfl, fun j x hj => absurd hj (Nat.not_lt_zero _)⟩
        · rintro i σ H2 ⟨_, _, _, e2, _⟩
          exact e2
        · rintro i y σ H2 H3 hi' ⟨v2, v3, rfl, e2, ew, hn⟩ ⟨T, y1, y2, rfl, nT, rfl, h1, h2⟩
          cases h1
          have h2 : xs[i]? = some y2 := h2
          have hx := List.mem_of_getElem? h2
          have eT := same_upd (o := HO.tup [V.int (i : Nat), y2]) nT
          refine ⟨T, _, rfl, SqT.of upd_same, rfl, _, _, rfl, _, _, rfl, rfl, ?_⟩
          generalize upd H2 T (.tup [.int (i : Nat), y2]) = H3 at eT ⊢
          have e3 : Same H H3 := Same.trans e1 (Same.trans e2 eT)
          have bad : badAt xs most i y2 = true → Q (.int (i : Nat)) H3 := fun hb => by
            have z := q H3 e3
            rw [ew, wrong_step h2, if_pos hb] at z
            exact z
          refine ⟨_, rfl, _, rfl, rfl, _, rfl, ?_⟩
          refine ite2 (fun c1 => ?_) (fun c1 => ?_)
          · refine iteT ?_
            refine ⟨_, rfl, bad ?_⟩
            have c1 := of_decide_eq_true c1
            have : i = most := by injection c1 with c1; omega
            simp [badAt, this]
          · have c1 : ¬ i = most := fun z => c1 (decide_eq_true (by rw [z]))
            refine ⟨_, rfl, y2, rfl, (hi y2 hx).same e3, fun H4 e4 => ⟨_, rfl, ?_⟩⟩
            have bad : badAt xs most i y2 = true → Q (.int (i : Nat)) H4 := fun hb => by
              have z := q H4 (Same.trans e3 e4)
              rw [ew, wrong_step h2, if_pos hb] at z
              exact z
            cases hn2 : isNameB y2 with
            | false =>
              refine iteT ?_
              refine iteT ?_
              exact ⟨_, rfl, bad (by simp [badAt, hn2])⟩
            | true =>
              refine iteF ?_
              have hS4 : SqL K H4 a xs ∨ SqT K H4 a xs := hS1.imp (fun z => Same.seq (Same.trans e2 (Same.trans eT e4)) z) fun z => Same.sqt (Same.trans e2 (Same.trans eT e4)) z
              have ecut : cutV xs none (some (i : Int)) = xs.take i := cut_to xs i (by omega)
              have hlo : HT.sIx xs.length xs.length (some (i : Int)) = i := sIx_nat' _ _ _ (by omega)
              have yes : ∀ H5, Same H4 H5 → inV y2 (xs.take i) = true → Q (.int (i : Nat)) H5 := fun H5 e5 hv => by
                have z := q H5 (Same.trans e3 (Same.trans e4 e5))
                rw [ew, wrong_step h2, if_pos (by simp [badAt, hv])] at z
                exact z
              have no : inV y2 (xs.take i) = false → wrongFrom xs most 0 (xs.drop 0) = wrongFrom xs most (i + 1) (xs.drop (i + 1)) := fun hv => by
                rw [ew, wrong_step h2, if_neg (by simp [badAt, hv, hn2, c1])]
              have hn' : ∀ j x, j < i + 1 → xs[j]? = some x → isNameB x = true := fun j x hj hjx => by
                rcases Nat.lt_succ_iff_lt_or_eq.mp hj with hj | rfl
                · exact hn j x hj hjx
                · rw [h2] at hjx
                  cases hjx
                  exact hn2
              refine ⟨_, rfl, _, rfl, _, rfl, _, rfl, ?_⟩
              rcases hS4 with hS4 | hS4
              · refine .inl ⟨a, xs, rfl, hS4, fun p np => ?_⟩
                rw [ecut]
                have ep := same_upd (o := HO.lst (xs.take i)) np
                refine ⟨p, _, rfl, .inl (SqL.of upd_same), name_flat hn2, all_flat hn, _, rfl, ?_⟩
                cases hv : inV y2 (xs.take i) with
                | true =>
                  refine iteT ?_
                  exact ⟨_, rfl, yes _ ep hv⟩
                | false =>
                  refine iteF ?_
                  exact ⟨_, _, rfl, Same.trans e2 (Same.trans eT (Same.trans e4 ep)), no hv, hn'⟩
              · refine .inr ⟨a, xs, rfl, hS4, fun hw => ?_, fun hw p np => ?_⟩
                · exfalso
                  rw [hlo] at hw
                  omega
                · rw [ecut]
                  have ep := same_upd (o := HO.tup (xs.take i)) np
                  refine ⟨p, _, rfl, .inr (SqT.of upd_same), name_flat hn2, all_flat hn, _, rfl, ?_⟩
                  cases hv : inV y2 (xs.take i) with
                  | true =>
                    refine iteT ?_
                    exact ⟨_, rfl, yes _ ep hv⟩
                  | false =>
                    refine iteF ?_
                    exact ⟨_, _, rfl, Same.trans e2 (Same.trans eT (Same.trans e4 ep)), no hv, hn'⟩
        · rintro σ H2 ⟨v2, v3, rfl, e2, ew, hn⟩
          rw [wrong_end (Nat.le_refl _)] at ew
          rw [ew] at q
          exact q H2 (Same.trans e1 e2)
end
end Bk

namespace Bk
open PySem PySem.Spec PyProof.Rows L2
section
variable {P : Program} {w : World} {K : PySem.W.Frag} {mg : Str → Option Value} {base : Heap}
theorem startK {n k : Nat} {σ : L2.St} {H : Hp} {R : VK} {b : Addr} {row : List Nat} (h3 : σ[3]? = some (some (.int (0 + (k : Int))))) (h4 : σ[4]? = some (some (.ref b))) (hb : SqT K H b (rowV row)) (hrow : RowK n k row) (r : R (.int (sttK k row : Int)) H) :
    tIf (tTest (tOp (rI0 fun i j => V.bl (decide (j < i))) (tVar 3) (tC (V.int 0)))) (tOp (rI0 fun i j => V.int (i + j)) (tOp (rIxT K) (tVar 4) (tUn (rU fun i => V.int (-i)) (tC (V.int 1)))) (tC (V.int 1))) (tC (V.int 0)) σ H R := by
  refine ⟨_, h3, _, _, rfl, rfl, _, rfl, ?_⟩
  unfold sttK at r
  rcases hrow with ⟨rfl, rfl⟩ | ⟨k', rfl, o⟩
  · rw [if_neg (by omega)] at r
    exact iteF r
  · rw [if_pos (by omega)] at r
    rw [show decide ((0 : Int) < 0 + ((k' + 1 : Nat) : Int)) = true from decide_eq_true (by omega)]
    refine iteT ?_
    exact ⟨_, h4, 1, rfl, b, _, _, _, rfl, rfl, hb, at_last o.ne, _, _, rfl, rfl, r⟩
theorem scChoicesOf : FnScope ["things", "many", "rows", "k", "row", "at"] ["things", "many"] (defScope (topS 31)) := ⟨rfl, rfl, rfl, by decide +kernel, rfl, by decide +kernel, by decide +kernel⟩
theorem ok_choices_of (B : Bi mg) {f : Addr} {fd : FuncData} (F : Fun K "choices_of" "choices_of" (topS 31) f fd) : FnOk P w K mg base CX0 1 f fd ["things", "many"] (spChoicesOf K) := by
  refine F.ok scChoicesOf (fun vs H Q E h => ?_) (fun cdv A outer s H vs Q E hr h => ?_)
  · obtain ⟨a, xs, m, rfl, _⟩ := h
    rfl
  · obtain ⟨a, xs, m, rfl, hS, hl, hm, q⟩ := h
    have nd := scChoicesOf.nd
    have hu := hu_of hr
    have hpow : 2 ^ xs.length ≤ 2 ^ 12 := Nat.pow_le_pow_right (by decide) hl
    have hp12 : 2 ^ 12 = 4096 := by decide
    refine ⟨_, (Evl.pss_cut (ps_set (i := 2) nd rfl (Or.inl rfl) (pe_lst (pa_cons (pe_tup pa_nil) pa_nil)))
      (Evl.pss_cut (ps_for PassesOwn.never rfl (pi_range1 (by rfl) B.range (pa_cons (pv 1) pa_nil)) (pg_name (i := 3) nd rfl (Or.inr rfl)) (pss_one (ps_setLc2 (i := 2) (own := [("row", 4), ("at", 5)]) (vs1 := [5]) rfl nd rfl rfl (sw_true rfl rfl rfl (by decide +kernel)) (kPiL K (pv 2)) (blkOk_by (N := ["things", "many", "rows", "k", "row", "at"]) (sc := defScope (topS 31)) (by decide +kernel)) (by decide) (fun _ _ _ _ _ => (pg_name (i := 4) nd rfl (Or.inl rfl))) (fun _ _ _ _ _ => pts_nil) (fun _ _ _ _ _ => (pi_range2 (by rfl) B.range (pa_cons (pe_ifExp (pt_cmpR op_gt (pv 3) pe_int (nomark _)) (pe_op op_add (pe_ix (kIxT K) (pv 4) (pe_un un_neg pe_int) (fun _ _ => rfl)) pe_int) pe_int) (pa_cons (pe_callB (kLen K) (by rfl) B.len PySem.boot_len (pa_cons (pv 0) pa_nil)) pa_nil)))) (fun _ _ _ _ _ => (pg_name (i := 5) nd rfl (Or.inl rfl))) (fun _ _ _ _ _ => pts_nil) (fun _ _ _ _ _ => (pe_op (kCatA K) (pv 4) (pe_tup (pa_cons (pv 5) pa_nil)))))))
      (pss_one (ps_ret (pe_lc (own := [("row", 4)]) rfl nd (kPiL K (pv 2)) (blkOk_by (N := ["things", "many", "rows", "k", "row", "at"]) (sc := defScope (topS 31)) (by decide +kernel)) (fun _ _ _ _ _ => (pg_name (i := 4) nd rfl (Or.inl rfl))) (fun _ _ _ _ _ => pts_nil) (fun _ _ _ _ _ => (kTupleOf K (by rfl) B.tuple (pe_lc (own := [("at", 5)]) rfl nd (kPiT K (pv 4)) (blkOk_by (by with_unfolding_all rfl)) (fun _ _ _ _ _ => (pg_name (i := 5) nd rfl (Or.inl rfl))) (fun _ _ _ _ _ => pts_nil) (fun _ _ _ _ _ => (pe_ix (kIx K) (pv 0) (pv 5) (fun _ _ => rfl))))))))))), ?_⟩
    -- rows = [()]
    refine ⟨fun σ1 H1 => ∃ (d t : Addr), σ1 = [some (.ref a), some (.int (m : Int)), some (.ref d), none, none, none] ∧ Same H H1 ∧ H1 d = some (.lst [.ref t]) ∧ H1 t = some (.tup []), ?_, ?_⟩
    · refine ⟨Nat.zero_le _, fun t nt => ⟨by show 1 ≤ sizeLine; decide, fun d nd0 => ?_⟩⟩
      have et := same_upd (o := HO.tup []) nt
      have ed := same_upd (o := HO.lst [V.ref t]) nd0
      exact ⟨d, t, rfl, Same.trans et ed, upd_same, ed _ _ upd_same⟩
    rintro σ1 H1 ⟨d, t, rfl, e1, hd1, ht1⟩
    -- for k in range(many)
    refine ⟨fun σ2 H2 => ∃ (r : Addr) (v3 v4 v5 : Option V) (us : List V), σ2 = [some (.ref a), some (.int (m : Int)), some (.ref r), v3, v4, v5] ∧ Same H H2 ∧ H2 r = some (.lst us) ∧ Ats H2 rowV us (rowsK xs.length m), ?_, ?_⟩
    · refine ⟨_, rfl, (m : Int), rfl, by omega, by omega, ?_⟩
      refine for_it walk_range (fun k σ' H' => ∃ (r : Addr) (v3 v4 v5 : Option V) (us : List V), σ' = [some (.ref a), some (.int (m : Int)), some (.ref r), v3, v4, v5] ∧ Same H H' ∧ H' r = some (.lst us) ∧ Ats H' rowV us (rowsK xs.length k)) ?_ (fun _ _ _ _ _ => trivial) ?_ ?_
      · exact ⟨d, none, none, none, [.ref t], rfl, e1, hd1, Ats.one ht1⟩
      · rintro k x σ' H0 H2 hk ⟨r, v3, v4, v5, us, rfl, e2, hr2, at2⟩ ⟨rfl, rfl⟩
        have hok := rowsK_ok xs.length k
        refine ⟨_, rfl, r, rfl, ⟨_, SqL.of hr2⟩, fun D nD => ?_⟩
        refine outer_it (walk_list (xs := us)) (fun i H' => ∃ vs2, Same H2 H' ∧ H' D = some (.lst vs2) ∧ Ats H' rowV vs2 (nextK xs.length k ((rowsK xs.length k).take i))) ?_ (fun i H' _ ⟨_, e5, _⟩ => SqL.of (e5 _ _ hr2)) ?_ ?_
        · exact ⟨[], same_upd nD, upd_same, .nil⟩
        · rintro i x H5 H6 hi ⟨vs2, e5, hD, at5⟩ ⟨rfl, hx⟩
          have hir : i < (rowsK xs.length k).length := by rw [← at2.1]; exact hi
          obtain ⟨row, hrow⟩ : ∃ row, (rowsK xs.length k)[i]? = some row := ⟨_, List.getElem?_eq_getElem hir⟩
          obtain ⟨b, rfl, hb⟩ := at2.2 i x row hx hrow
          have o := hok row (List.mem_of_getElem? hrow)
          have hst := sttK_le o
          refine ⟨rfl, yes2 ?_⟩
          refine startK rfl rfl (SqT.of (e5 _ _ hb)) o ?_
          refine ⟨_, rfl, .ref a, xs.length, rfl, hS.imp (fun z => ⟨_, (Same.trans e2 e5).seq z, rfl⟩) (fun z => ⟨_, Same.sqt (Same.trans e2 e5) z, rfl⟩), _, _, rfl, ⟨by omega, by omega, by omega, by omega⟩, ?_⟩
          refine inner_it walk_range (fun j H' => ∃ vs3, Same H2 H' ∧ H' D = some (.lst vs3) ∧ Ats H' rowV vs3 (nextK xs.length k ((rowsK xs.length k).take i) ++ (growK xs.length k row).take j)) ?_ (fun _ _ _ _ => trivial) ?_ ?_
          · exact ⟨vs2, e5, hD, by rw [List.take_zero, List.append_nil]; exact at5⟩
          · rintro j x H7 H8 hj ⟨vs3, e7, hD7, at7⟩ ⟨rfl, rfl⟩
            have hj : j < xs.length - sttK k row := by omega
            refine ⟨rfl, yes2 ?_⟩
            have fin : ∀ (b' : Addr) (H9 : Hp), Same H8 H9 → H9 b' = some (.tup (rowV (row ++ [sttK k row + j]))) → ∃ acc, H9 D = some (.lst acc) ∧ acc.length < sizeLine ∧ ∃ vs3, Same H2 (upd H9 D (.lst (acc ++ [.ref b']))) ∧ (upd H9 D (.lst (acc ++ [.ref b']))) D = some (.lst vs3) ∧
                Ats (upd H9 D (.lst (acc ++ [.ref b']))) rowV vs3 (nextK xs.length k ((rowsK xs.length k).take i) ++ (growK xs.length k row).take (j + 1)) := by
              intro b' H9 e9 hb'
              have hD9 := e9 _ _ hD7
              have lenv : vs3.length ≤ 4096 + 12 := by
                rw [at7.1, List.length_append]
                have h1 := nextK_take_len (n := xs.length) (k := k) i
                have h3 : ((growK xs.length k row).take j).length ≤ 12 := by
                  rw [List.length_take, growK_length]
                  omega
                omega
              refine ⟨vs3, hD9, Evl.sz_lt (by omega), vs3 ++ [.ref b'], Same.grow (Same.trans e7 e9) nD, upd_same, ?_⟩
              refine Ats.updL ?_ hD9
              rw [take_succ (growK_at hj), ← List.append_assoc]
              exact (at7.same e9).append (Ats.one hb')
            refine ⟨_, rfl, _, rfl, by show 1 ≤ sizeLine; decide, fun p np => ?_⟩
            have ep := same_upd (o := HO.tup [V.int ((sttK k row : Int) + (j : Int))]) np
            have ev : rowV (row ++ [sttK k row + j]) = rowV row ++ [V.int ((sttK k row : Int) + (j : Int))] := by
              unfold rowV
              rw [List.map_append]
              show _ ++ [V.int ((sttK k row + j : Nat) : Int)] = _
              rw [show ((sttK k row + j : Nat) : Int) = (sttK k row : Int) + (j : Int) by omega]
            refine ⟨b, p, rowV row, _, rfl, rfl, SqT.of (ep _ _ (e7 _ _ hb)), SqT.of upd_same, ?_, fun z => ?_, fun _ z => ?_, fun _ _ t nt => ?_⟩
            · rw [rowV_len, o.len]
              refine Evl.sz_of ?_
              show k + 1 ≤ 100000
              omega
            · refine fin p _ ep ?_
              rw [upd_same, ev, z]
              rfl
            · cases z
            · refine fin t _ (Same.trans ep (same_upd nt)) ?_
              rw [upd_same, ev]
          · rintro H7 ⟨vs3, e7, hD7, at7⟩
            refine ⟨vs3, e7, hD7, ?_⟩
            have eg : (growK xs.length k row).take ((xs.length : Int) - (sttK k row : Int)).toNat = growK xs.length k row := List.take_of_length_le (by rw [growK_length]; omega)
            rw [eg] at at7
            rw [nextK_snoc hrow]
            exact at7
        · rintro H5 ⟨vs2, e5, hD, at5⟩
          rw [List.take_of_length_le (by rw [← at2.1]; exact Nat.le_refl _)] at at5
          exact ⟨D, _, _, _, vs2, rfl, Same.trans e2 e5, hD, at5⟩
      · rintro σ' H2 ⟨r, v3, v4, v5, us, rfl, e2, hr2, at2⟩
        exact ⟨r, v3, v4, v5, us, rfl, e2, hr2, at2⟩
    rintro σ3 H3 ⟨r, v3, v4, v5, us, rfl, e3, hr3, at3⟩
    -- the things of each row
    have hok := rowsK_ok xs.length m
    have lenus : us.length = (rowsK xs.length m).length := at3.1
    have hlen := rowsK_len xs.length m
    refine ⟨_, rfl, r, rfl, ⟨_, SqL.of hr3⟩, fun D nD => ?_⟩
    refine lc_it (walk_list (xs := us)) (fun i H' => ∃ vs2, Same H3 H' ∧ H' D = some (.lst vs2) ∧ Ats H' (fun l => l) vs2 ((subsOf xs (rowsK xs.length m)).take i)) ?_ (fun i H' _ ⟨_, e5, _⟩ => SqL.of (e5 _ _ hr3)) ?_ ?_
    · exact ⟨[], same_upd nD, upd_same, .nil⟩
    · rintro i x H5 H6 hi ⟨vs2, e5, hD, at5⟩ ⟨rfl, hx⟩
      have hir : i < (rowsK xs.length m).length := by rw [← at3.1]; exact hi
      obtain ⟨row, hrow⟩ : ∃ row, (rowsK xs.length m)[i]? = some row := ⟨_, List.getElem?_eq_getElem hir⟩
      obtain ⟨b, rfl, hb⟩ := at3.2 i x row hx hrow
      have o := hok row (List.mem_of_getElem? hrow)
      refine ⟨rfl, yes2 ?_⟩
      refine ⟨_, rfl, b, rfl, ⟨_, SqT.of (e5 _ _ hb)⟩, fun D2 nD2 => ?_⟩
      refine lc_it (walk_tup (xs := rowV row)) (Upto H6 D2 row fun k => xs.getD k .non) (.zero nD2) (fun j H' _ u => SqT.of (u.sm _ _ (e5 _ _ hb))) ?_ ?_
      · rintro j x H7 H8 hj u ⟨rfl, hx2⟩
        unfold rowV at hx2
        rw [List.getElem?_map] at hx2
        obtain ⟨k, hk, rfl⟩ := Option.map_eq_some_iff.mp hx2
        have hkn : k < xs.length := o.lt k (List.mem_of_getElem? hk)
        have ea : xs[k]? = some (xs.getD k .non) := by rw [List.getD_eq_getElem?_getD, List.getElem?_eq_getElem hkn]; rfl
        have hj12 : j < 12 := by
          have h1 := o.len
          have h2 : j < (rowV row).length := hj
          rw [rowV_len] at h2
          omega
        refine ⟨rfl, yes2 ?_⟩
        have eH := Same.trans e3 (Same.trans e5 u.sm)
        refine ⟨_, rfl, _, rfl, ?_⟩
        rcases hS with z | z
        · exact .inl ⟨a, xs, (k : Int), _, rfl, rfl, eH.seq z, atI_nat ea, u.next nD2 hk (Same.refl _) (by have := o.len; omega)⟩
        · exact .inr (.inl ⟨a, xs, (k : Int), _, rfl, rfl, Same.sqt eH z, atI_nat ea, u.next nD2 hk (Same.refl _) (by have := o.len; omega)⟩)
      · intro H7 u
        have eD2 := u.all (rowV_len row)
        refine .inl ⟨D2, _, rfl, SqL.of eD2, fun p np => ?_⟩
        have ep := same_upd (o := HO.tup (row.map fun k => xs.getD k V.non)) np
        have hD7 := ep _ _ (u.sm _ _ hD)
        have hlot : (subsOf xs (rowsK xs.length m))[i]? = some (row.map fun k => xs.getD k V.non) := by
          unfold subsOf
          rw [List.getElem?_map, hrow]
          rfl
        refine ⟨vs2, hD7, Evl.sz_lt ?_, vs2 ++ [.ref p], Same.grow (Same.trans e5 (Same.trans u.sm ep)) nD, upd_same, ?_⟩
        · rw [at5.1, List.length_take]
          unfold subsOf
          rw [List.length_map]
          omega
        · refine Ats.updL ?_ hD7
          rw [take_succ hlot]
          exact ((at5.same u.sm).same ep).append (Ats.one upd_same)
    · rintro H5 ⟨vs2, e5, hD, at5⟩
      rw [List.take_of_length_le (by unfold subsOf; rw [List.length_map, lenus]; exact Nat.le_refl _)] at at5
      exact q D vs2 H5 (e3.free nD) (Same.trans e3 e5) hD at5
theorem scChoices : FnScope ["things", "many", "choice"] ["things"] (defScope (topS 30)) := ⟨rfl, rfl, rfl, by decide +kernel, rfl, by decide +kernel, by decide +kernel⟩
theorem ok_choices (B : Bi mg) {f f1 : Addr} {fd fd1 : FuncData} (c_choices_of : Cal P w K mg base CX0 1 "choices_of" f1 fd1 ["things", "many"] (spChoicesOf K)) (F : Fun K "choices" "choices" (topS 30) f fd) : FnOk P w K mg base CX0 2 f fd ["things"] (spChoices K) := by
  refine F.ok scChoices (fun vs H Q E h => ?_) (fun cdv A outer s H vs Q E hr h => ?_)
  · obtain ⟨a, xs, rfl, _⟩ := h
    rfl
  · obtain ⟨a, xs, rfl, hS, hl, q⟩ := h
    have nd := scChoices.nd
    have hu := hu_of hr
    have hr_choices_of := hr
    have hpow : 2 ^ xs.length ≤ 2 ^ 12 := Nat.pow_le_pow_right (by decide) hl
    have hp12 : 2 ^ 12 = 4096 := by decide
    have hcl : ∀ i, i ≤ 12 → ((List.range' 1 i).flatMap (rowsK xs.length)).length ≤ 12 * 4096 := fun i hi => by
      have h := flatMap_len (f := rowsK xs.length) (m := 4096) (l := List.range' 1 i) fun x _ => by have := rowsK_len xs.length x; omega
      rw [List.length_range'] at h
      exact Nat.le_trans h (Nat.mul_le_mul_right _ hi)
    refine ⟨_, (pss_one (ps_ret (pe_lc2 (own := [("many", 1), ("choice", 2)]) (vs1 := [2]) rfl nd (pi_range2 (by rfl) B.range (pa_cons pe_int (pa_cons (pe_op op_add (pe_callB (kLen K) (by rfl) B.len PySem.boot_len (pa_cons (pv 0) pa_nil)) pe_int) pa_nil))) (blkOk_by (N := ["things", "many", "choice"]) (sc := defScope (topS 30)) (by decide +kernel)) (by decide) (fun _ _ _ _ _ => (pg_name (i := 1) nd rfl (Or.inl rfl))) (fun _ _ _ _ _ => pts_nil) (fun _ _ _ _ _ => (kPiL K (pe_call c_choices_of.ok hr_choices_of (by rfl) c_choices_of.g c_choices_of.kp c_choices_of.b .nil pass0 (pa_cons (pv 0) (pa_cons (pv 1) pa_nil))))) (fun _ _ _ _ _ => (pg_name (i := 2) nd rfl (Or.inl rfl))) (fun _ _ _ _ _ => pts_nil) (fun _ _ _ _ _ => (pv 2))))), ?_⟩
    refine ⟨.ref a, rfl, .ref a, xs.length, rfl, hS.imp (fun z => ⟨_, z, rfl⟩) (fun z => ⟨_, z, rfl⟩), _, _, rfl, rfl, _, _, rfl, ⟨by omega, by omega, by omega, by omega⟩, fun D nD => ?_⟩
    have en : ((xs.length : Int) + 1 - 1).toNat = xs.length := by omega
    rw [en]
    refine outer_it walk_range (fun i H' => ∃ ws, Same H H' ∧ H' D = some (.lst ws) ∧ Ats H' (fun l => l) ws (subsOf xs ((List.range' 1 i).flatMap (rowsK xs.length)))) ?_ (fun _ _ _ _ => trivial) ?_ ?_
    · exact ⟨[], same_upd nD, upd_same, .nil⟩
    · rintro i x H0 H6 hi ⟨ws, e6, hD, at6⟩ ⟨rfl, rfl⟩
      refine ⟨rfl, yes2 ?_⟩
      refine ⟨_, rfl, _, rfl, a, xs, i + 1, ?_, hS.imp (fun z => e6.seq z) (fun z => Same.sqt e6 z), hl, by omega, fun D2 ws2 H8 nD2 e8 hD2 at8 => ?_⟩
      · show [V.ref a, V.int (1 + (i : Int))] = [V.ref a, V.int ((i + 1 : Nat) : Int)]
        rw [show ((i + 1 : Nat) : Int) = 1 + (i : Int) by omega]
      have hD8 := e8 _ _ hD
      have nDD : D2 ≠ D := (ne_of_none hD nD2).symm
      refine ⟨D2, rfl, ⟨_, SqL.of hD2⟩, ?_⟩
      refine inner_it (walk_list (xs := ws2)) (fun j H' => ∃ vs3, But D H8 H' ∧ H' D = some (.lst vs3) ∧ Ats H' (fun l => l) vs3 (subsOf xs ((List.range' 1 i).flatMap (rowsK xs.length)) ++ (subsOf xs (rowsK xs.length (i + 1))).take j)) ?_ (fun j H' _ ⟨_, bt, _⟩ => SqL.of (bt _ _ nDD hD2)) ?_ ?_
      · exact ⟨ws, fun _ _ _ e => e, hD8, by rw [List.take_zero, List.append_nil]; exact at6.same e8⟩
      · rintro j x H9 H10 hj ⟨vs3, bt, hD9, at9⟩ ⟨rfl, hx⟩
        have hjr : j < (subsOf xs (rowsK xs.length (i + 1))).length := by rw [← at8.1]; exact hj
        obtain ⟨row, hrow⟩ : ∃ row, (subsOf xs (rowsK xs.length (i + 1)))[j]? = some row := ⟨_, List.getElem?_eq_getElem hjr⟩
        obtain ⟨b, rfl, hb⟩ := at8.2 j x row hx hrow
        refine ⟨rfl, yes2 ?_⟩
        have hlen9 : vs3.length < 60000 := by
          rw [at9.1, List.length_append]
          have h1 : (subsOf xs ((List.range' 1 i).flatMap (rowsK xs.length))).length ≤ 12 * 4096 := by
            unfold subsOf
            rw [List.length_map]
            exact hcl i (by omega)
          have h2 : ((subsOf xs (rowsK xs.length (i + 1))).take j).length ≤ 4096 := by
            rw [List.length_take]
            unfold subsOf
            rw [List.length_map]
            have := rowsK_len xs.length (i + 1)
            omega
          omega
        have nbD : b ≠ D := ne_of hb hD8 (fun z => nomatch z)
        refine ⟨_, rfl, vs3, hD9, Evl.sz_lt (by omega), vs3 ++ [.ref b], bt.trans But.upd, upd_same, ?_⟩
        rw [take_succ hrow, ← List.append_assoc]
        exact (at9.append (Ats.one (bt _ _ nbD hb))).updL hD9
      · rintro H9 ⟨vs3, bt, hD9, at9⟩
        rw [List.take_of_length_le (by rw [at8.1]; exact Nat.le_refl _)] at at9
        refine ⟨vs3, fun b u hb => bt _ _ (ne_of_none hb nD) (e8 _ _ (e6 _ _ hb)), hD9, ?_⟩
        have ee : subsOf xs ((List.range' 1 (i + 1)).flatMap (rowsK xs.length)) = subsOf xs ((List.range' 1 i).flatMap (rowsK xs.length)) ++ subsOf xs (rowsK xs.length (i + 1)) := by
          rw [List.range'_concat, List.flatMap_append, List.flatMap_cons, List.flatMap_nil, List.append_nil]
          unfold subsOf
          rw [List.map_append, show 1 + 1 * i = i + 1 by omega]
        rw [ee]
        exact at9
    · rintro H5 ⟨ws, e5, hD, at5⟩
      rw [← lotRows_K] at at5
      exact q D ws H5 nD e5 hD at5
end
end Bk

namespace Bk
open PySem PySem.Spec PyProof.Rows L2
section
variable {P : Program} {w : World} {K : PySem.W.Frag} {mg : Str → Option Value} {base : Heap}
theorem scNeigh : FnScope ["names", "many", "long", "at"] ["names"] (defScope (topS 32)) := ⟨rfl, rfl, rfl, by decide +kernel, rfl, by decide +kernel, by decide +kernel⟩
theorem ok_neigh (B : Bi mg) {f : Addr} {fd : FuncData} (F : Fun K "rows_of_neighbours" "rows_of_neighbours" (topS 32) f fd) : FnOk P w K mg base CX0 1 f fd ["names"] spNeigh := by
  refine F.ok scNeigh (fun vs H Q E h => ?_) (fun cdv A outer s H vs Q E hr h => ?_)
  · obtain ⟨a, zs, rfl, _⟩ := h
    rfl
  · obtain ⟨a, zs, rfl, hS, hl, q⟩ := h
    have nd := scNeigh.nd
    have hu := hu_of hr
    refine ⟨_, (pss_cons (ps_set (i := 1) nd rfl (Or.inr rfl) (pe_callB (kLen K) (by rfl) B.len PySem.boot_len (pa_cons (pv 0) pa_nil)))
      (pss_one (ps_ret (pe_lc2 (own := [("long", 2), ("at", 3)]) (vs1 := [3]) rfl nd (pi_range2 (by rfl) B.range (pa_cons pe_int (pa_cons (pe_op op_add (pv 1) pe_int) pa_nil))) (blkOk_by (N := ["names", "many", "long", "at"]) (sc := defScope (topS 32)) (by decide +kernel)) (by decide) (fun _ _ _ _ _ => (pg_name (i := 2) nd rfl (Or.inl rfl))) (fun _ _ _ _ _ => pts_nil) (fun _ _ _ _ _ => (pi_range1 (by rfl) B.range (pa_cons (pe_op op_sub (pe_op op_add (pv 1) pe_int) (pv 2)) pa_nil))) (fun _ _ _ _ _ => (pg_name (i := 3) nd rfl (Or.inl rfl))) (fun _ _ _ _ _ => pts_nil) (fun _ _ _ _ _ => (pe_slice (kSlT K) (pv 0) (po_some (pv 3)) (po_some (pe_op op_add (pv 3) (pv 2))))))))), ?_⟩
    refine ⟨_, rfl, .ref a, zs.length, rfl, .inr ⟨_, SqT.of hS, by rw [List.length_map]⟩, ?_⟩
    refine ⟨_, rfl, _, _, rfl, rfl, _, _, rfl, ⟨by omega, by omega, by omega, by omega⟩, fun D nD => ?_⟩
    have hcl : ∀ k, ((List.range k).flatMap (longRows zs)).length ≤ k * 100 := fun k => by
      have := flatMap_len (f := longRows zs) (m := 100) (l := List.range k) fun x _ => by rw [longRows_len]; omega
      rw [List.length_range] at this
      exact this
    have en : ((zs.length : Int) + 1 - 1).toNat = zs.length := by omega
    rw [en]
    refine outer_it walk_range (fun i H' => ∃ vs2, Same H H' ∧ H' D = some (.lst vs2) ∧ Ats H' (fun l : List Str => l.map V.str) vs2 ((List.range i).flatMap (longRows zs))) ?_ (fun _ _ _ _ => trivial) ?_ ?_
    · exact ⟨[], same_upd nD, upd_same, .nil⟩
    · rintro i x H5 H6 hi ⟨vs2, e5, hD, at5⟩ ⟨rfl, rfl⟩
      refine ⟨rfl, yes2 ?_⟩
      refine ⟨_, rfl, _, _, rfl, rfl, _, rfl, _, _, rfl, rfl, _, rfl, by omega, by omega, ?_⟩
      have ec : ((zs.length : Int) + 1 - (1 + (i : Int))).toNat = zs.length - i := by omega
      rw [ec]
      refine inner_it walk_range (fun j H' => ∃ vs3, Same H H' ∧ H' D = some (.lst vs3) ∧ Ats H' (fun l : List Str => l.map V.str) vs3 ((List.range i).flatMap (longRows zs) ++ (longRows zs i).take j)) ?_ (fun _ _ _ _ => trivial) ?_ ?_
      · exact ⟨vs2, e5, hD, by rw [List.take_zero, List.append_nil]; exact at5⟩
      · rintro j x H7 H8 hj ⟨vs3, e7, hD7, at7⟩ ⟨rfl, rfl⟩
        refine ⟨rfl, yes2 ?_⟩
        have ecut : cutV (zs.map V.str) (some (0 + (j : Int))) (some (0 + (j : Int) + (1 + (i : Int)))) = ((zs.drop j).take (i + 1)).map V.str := by
          rw [show 0 + (j : Int) = ((j : Nat) : Int) by omega, show (j : Int) + (1 + (i : Int)) = ((j + (i + 1) : Nat) : Int) by omega, cut_mid _ _ _ (by omega) (by rw [List.length_map]; omega), List.map_take, List.map_drop]
          congr 1
          omega
        have hS8 := e7 _ _ hS
        have lenv : vs3.length + 1 ≤ 100000 := by
          rw [at7.1, List.length_append, List.length_take, longRows_len]
          have := hcl i
          omega
        have last : ∀ (b : Addr) (H9 : Hp), Same H8 H9 → H9 b = some (.tup (((zs.drop j).take (i + 1)).map V.str)) → ∃ acc, H9 D = some (.lst acc) ∧ acc.length < sizeLine ∧ ∃ vs3, Same H (upd H9 D (.lst (acc ++ [.ref b]))) ∧ (upd H9 D (.lst (acc ++ [.ref b]))) D = some (.lst vs3) ∧
            Ats (upd H9 D (.lst (acc ++ [.ref b]))) (fun l : List Str => l.map V.str) vs3 ((List.range i).flatMap (longRows zs) ++ (longRows zs i).take (j + 1)) := by
          intro b H9 e9 hb
          have hD9 := e9 _ _ hD7
          refine ⟨vs3, hD9, Evl.sz_lt (by omega), vs3 ++ [.ref b], Same.grow (Same.trans e7 e9) nD, upd_same, ?_⟩
          refine Ats.updL ?_ hD9
          rw [take_succ (longRows_at hj), ← List.append_assoc]
          exact (at7.same e9).append (Ats.one hb)
        refine ⟨_, rfl, _, rfl, _, rfl, _, rfl, _, rfl, _, _, rfl, rfl, _, rfl, a, _, rfl, SqT.of hS8, fun hw => ?_, fun hw p np => ?_⟩
        · refine last a H8 (Same.refl _) ?_
          have e0 : cutV (zs.map V.str) (some (0 + (j : Int))) (some (0 + (j : Int) + (1 + (i : Int)))) = zs.map V.str := by
            unfold cutV
            rw [hw.1, hw.2, List.drop_zero, Nat.sub_zero, List.take_length]
          rw [← ecut, e0]
          exact hS8
        · rw [ecut]
          exact last p _ (same_upd np) upd_same
      · rintro H7 ⟨vs3, e7, hD7, at7⟩
        refine ⟨vs3, e7, hD7, ?_⟩
        have eg : (longRows zs i).take (zs.length - i) = longRows zs i := List.take_of_length_le (by rw [longRows_len]; omega)
        rw [eg] at at7
        rw [List.range_succ, List.flatMap_append, List.flatMap_cons, List.flatMap_nil, List.append_nil]
        exact at7
    · rintro H5 ⟨vs2, e5, hD, at5⟩
      exact q D vs2 H5 nD e5 hD at5
end
end Bk

namespace Bk
open PySem PySem.Spec PyProof.Rows L2
section
variable {P : Program} {w : World} {K : PySem.W.Frag} {mg : Str → Option Value} {base : Heap}
theorem scBF : FnScope ["self", "index"] ["self", "index"] (defScope (inClass (topS 3) 0)) := ⟨rfl, rfl, rfl, by decide +kernel, rfl, by decide +kernel, by decide +kernel⟩
theorem ok_BF {C f : Addr} {fd : FuncData} (T : ExT K mg "BadFolders" C f "index") (F : Fun K "__init__" "BadFolders.__init__" (inClass (topS 3) 0) f fd) : FnOk P w K mg base CX0 1 f fd ["self", "index"] (spExcInit C "index") := by
  refine F.ok scBF (fun vs H Q E h => ?_) (fun cdv A outer s H vs Q E hr h => ?_)
  · obtain ⟨a, v, rfl, _⟩ := h
    rfl
  · obtain ⟨a, v, rfl, ha, q⟩ := h
    refine ⟨_, pss_one (ps_ost (pv 0) (pv 1)), ?_⟩
    exact ⟨_, rfl, _, rfl, a, C, rfl, T.o, T.noF, .inl ⟨ha, fun dx ndx hne => q dx ndx hne⟩⟩
theorem scFol : FnScope ["self", "names", "chain", "wrong", "lots", "at", "lot"] ["self", "names", "chain"] (defScope (inClass (topS 28) 0)) := ⟨rfl, rfl, rfl, by decide +kernel, rfl, by decide +kernel, by decide +kernel⟩
theorem ok_folders (B : Bi mg) {C CB f fB f1 f2 f3 : Addr} {fd fdB fd1 fd2 fd3 : FuncData} {t1 t2 : Tok} {kws : List (Str × V)} (g_MOST_FOLDERS : mg "MOST_FOLDERS" = some (.int 5 t1)) (g_MOST_IN_CHAIN : mg "MOST_IN_CHAIN" = some (.int 12 t2)) (T_BadFolders : ExT K mg "BadFolders" CB fB "index") (T : FolT K mg C f)
    (G_BadFolders : FnOk P w K mg base CX0 1 fB fdB ["self", "index"] (spExcInit CB "index")) (b_BadFolders : Binds K fdB ["self", "index"] [])
    (c_first_wrong : Cal P w K mg base CX0 2 "first_wrong" f1 fd1 ["names", "most"] (spFirstWrong K)) (c_choices : Cal P w K mg base CX0 2 "choices" f2 fd2 ["things"] (spChoices K)) (c_rows_of_neighbours : Cal P w K mg base CX0 1 "rows_of_neighbours" f3 fd3 ["names"] spNeigh)
    (F : FunD K "__init__" "Folders.__init__" (defArgs (inClass (topS 28) 0)) (defBody (inClass (topS 28) 0)) (defScope (inClass (topS 28) 0)) [] kws f fd) : FnOk P w K mg base (L2.CX P w) 3 f fd ["self", "names", "chain"] (spFolders K C CB) := by
  refine F.ok scFol (fun vs H Q E h => ?_) (fun cdv A outer s H vs Q E hr h => ?_)
  · obtain ⟨x, dx, nm, o, ch, rfl, _⟩ := h
    rfl
  · obtain ⟨x, dx, nm, o, ch, rfl, hx, Th, kE, kQ⟩ := h
    have nd := scFol.nd
    have hu := hu_of hr
    have hr_first_wrong := hr
    have hrE := hr
    have hr_choices := hr
    have hr_rows_of_neighbours : Room 1 _ := hr.mono (by decide)
    refine ⟨_, (Evl.pss_cut (ps_set (i := 3) nd rfl (Or.inl rfl) (pe_call c_first_wrong.ok hr_first_wrong (by rfl) c_first_wrong.g c_first_wrong.kp c_first_wrong.b .nil pass0 (pa_cons (pv 1) (pa_cons (pe_ifExp (pt_val (pv 2)) (pe_glob (v := .int 12) (by rfl) g_MOST_IN_CHAIN ⟨_, rfl⟩) (pe_glob (v := .int 5) (by rfl) g_MOST_FOLDERS ⟨_, rfl⟩)) pa_nil))))
      (Evl.pss_cut (ps_if (pt_cmpR op_notN (pv 3) pe_non (nomark _)) (pss_one (ps_raise rfl (takes_of rfl rfl rfl rfl) (pmk_oex T_BadFolders.o T_BadFolders.iC T_BadFolders.tI G_BadFolders hrE b_BadFolders .nil pass0 (by rfl) T_BadFolders.g (pa_cons (pv 3) pa_nil)))) pss_nil)
      (Evl.pss_cut (ps_fld (pv 0) (kTupleOf K (by rfl) B.tuple (pv 1)) rfl)
      (Evl.pss_cut (ps_fld (pv 0) (pv 2) rfl)
      (Evl.pss_cut (ps_set (i := 4) nd rfl (Or.inl rfl) (pe_ifExp (pt_val (pv 2)) (pe_call c_rows_of_neighbours.ok hr_rows_of_neighbours (by rfl) c_rows_of_neighbours.g c_rows_of_neighbours.kp c_rows_of_neighbours.b .nil pass0 (pa_cons (pe_fld (pv 0) rfl) pa_nil)) (pe_call c_choices.ok hr_choices (by rfl) c_choices.g c_choices.kp c_choices.b .nil pass0 (pa_cons (pe_fld (pv 0) rfl) pa_nil))))
      (pss_one (ps_fld (pv 0) (pe_dcT (own := [("at", 5), ("lot", 6)]) hr.units0 rfl nd (kPiE K (by rfl) B.enumerate (pa_cons (pv 4) pa_nil)) (blkOk_by (N := ["self", "names", "chain", "wrong", "lots", "at", "lot"]) (sc := defScope (inClass (topS 28) 0)) (by decide +kernel)) (fun _ _ _ _ _ => (kTg K 2 rfl (pgs_cons (pg_name (i := 5) nd rfl (Or.inl rfl)) (pgs_cons (pg_name (i := 6) nd rfl (Or.inl rfl)) pgs_nil)))) (fun _ _ _ _ _ => (pv 6)) (fun _ _ _ _ _ => (pv 5))) rfl))))))), ?_⟩
    -- wrong = first_wrong(..)
    refine ⟨fun σ1 H1 => σ1 = [some (.ref x), some nm, some (.bl ch), some (optV (wrongOf o (mostFor ch))), none, none, none] ∧ Same H H1, ?_, ?_⟩
    · cases ch with
      | true =>
        refine ⟨_, rfl, _, rfl, _, rfl, ?_⟩
        refine iteT ?_
        exact ⟨nm, o, 12, rfl, Th, fun H1 e1 => ⟨rfl, e1⟩⟩
      | false =>
        refine ⟨_, rfl, _, rfl, _, rfl, ?_⟩
        refine iteF ?_
        exact ⟨nm, o, 5, rfl, Th, fun H1 e1 => ⟨rfl, e1⟩⟩
    rintro σ1 H1 ⟨rfl, e1⟩
    -- if wrong is not None: raise BadFolders(wrong)
    refine ⟨fun σ2 H2 => wrongOf o (mostFor ch) = none ∧ σ2 = [some (.ref x), some nm, some (.bl ch), some .non, none, none, none] ∧ Same H H2, ?_, ?_⟩
    · cases hw : wrongOf o (mostFor ch) with
      | some i =>
        refine ⟨_, rfl, rfl, _, rfl, ?_⟩
        refine iteT ?_
        refine mkO_of (v := .int (i : Int)) (H1 := H1) (fun R r => ⟨_, rfl, r⟩) fun d H' h => kE i d H' hw ⟨e1.free h.1, Same.trans e1 h.2.1, h.2.2⟩
      | none =>
        refine ⟨_, rfl, rfl, _, rfl, ?_⟩
        refine iteF ?_
        exact ⟨rfl, rfl, e1⟩
    rintro σ2 H2 ⟨hw, rfl, e2⟩
    obtain ⟨zs, rfl, zne, znames, zlen, znd⟩ := right_names hw
    obtain ⟨a, rfl, hS⟩ : ∃ a, nm = .ref a ∧ (SqL K H a (zs.map V.str) ∨ H a = some (.tup (zs.map V.str))) := by
      cases Th with
      | seq hS b hi hl => exact ⟨_, rfl, hS⟩
    have hx2 := e2 _ _ hx
    -- self.names = tuple(names)
    refine ⟨fun σ3 H3 => ∃ t, σ3 = [some (.ref x), some (.ref a), some (.bl ch), some .non, none, none, none] ∧ t ≠ x ∧ H3 x = some (.ins C dx [("names", .ref t)]) ∧ H3 t = some (.tup (zs.map V.str)) ∧ But x H H3, ?_, ?_⟩
    · have fin : ∀ (t : Addr) (H3 : Hp), Same H2 H3 → H3 t = some (.tup (zs.map V.str)) → ∃ p C' dx' fs, V.ref x = .ref p ∧ H3 p = some (.ins C' dx' fs) ∧ Cls K C' ∧ NoAttr K C' "names" ∧ fs.length < 1000 ∧
          ∃ t', [some (V.ref x), some (V.ref a), some (.bl ch), some .non, none, none, none] = [some (.ref x), some (.ref a), some (.bl ch), some .non, none, none, none] ∧ t' ≠ x ∧ (upd H3 p (.ins C' dx' (putF "names" (.ref t) fs))) x = some (.ins C dx [("names", .ref t')]) ∧ (upd H3 p (.ins C' dx' (putF "names" (.ref t) fs))) t' = some (.tup (zs.map V.str)) ∧ But x H (upd H3 p (.ins C' dx' (putF "names" (.ref t) fs))) := by
        intro t H3 e3 ht
        have ntx : t ≠ x := ne_of ht (e3 _ _ hx2) (fun z => nomatch z)
        exact ⟨x, C, dx, [], rfl, e3 _ _ hx2, T.cl, T.nN, by decide, t, rfl, ntx, upd_same, by rw [upd_ne ntx]; exact ht, (But.same (Same.trans e2 e3)).trans But.upd⟩
      rcases hS with hS | hS
      · exact ⟨_, rfl, .inl ⟨a, _, rfl, Same.seq e2 hS, fun q nq => ⟨_, rfl, fin q _ (same_upd nq) upd_same⟩⟩⟩
      · exact ⟨_, rfl, .inr ⟨a, _, rfl, SqT.of (e2 _ _ hS), ⟨_, rfl, fin a _ (Same.refl _) (e2 _ _ hS)⟩⟩⟩
    rintro σ3 H3 ⟨t, rfl, ntx, hx3, ht3, b3⟩
    -- self.chain = chain
    refine ⟨fun σ4 H4 => σ4 = [some (.ref x), some (.ref a), some (.bl ch), some .non, none, none, none] ∧ H4 x = some (.ins C dx [("names", .ref t), ("chain", .bl ch)]) ∧ H4 t = some (.tup (zs.map V.str)) ∧ But x H H4, ?_, ?_⟩
    · refine ⟨_, rfl, _, rfl, x, C, dx, _, rfl, hx3, T.cl, T.nC, by show 1 < 1000; decide, rfl, ?_, ?_, b3.trans But.upd⟩
      · rw [upd_same, put2]
      · rw [upd_ne ntx]
        exact ht3
    rintro σ4 H4 ⟨rfl, hx4, ht4, b4⟩
    -- lots = ..
    refine ⟨fun σ5 H5 => ∃ (D : Addr) (ws : List V), σ5 = [some (.ref x), some (.ref a), some (.bl ch), some .non, some (.ref D), none, none] ∧ Same H4 H5 ∧ H5 D = some (.lst ws) ∧ Ats H5 (fun l : List Str => l.map V.str) ws (lotsFor ch zs), ?_, ?_⟩
    · have hn : ∀ R : V → Hp → Prop, R (.ref t) H4 → ∃ p C' dx' fs v, V.ref x = .ref p ∧ H4 p = some (.ins C' dx' fs) ∧ Cls K C' ∧ NoAttr K C' "names" ∧ fs.lookup ("names" : Str) = some v ∧ R v H4 := fun R r => ⟨x, C, dx, _, _, rfl, hx4, T.cl, T.nN, look_n2 _ _, r⟩
      cases ch with
      | true =>
        refine ⟨_, rfl, _, rfl, ?_⟩
        refine iteT ?_
        exact ⟨_, rfl, hn _ ⟨t, zs, rfl, ht4, Nat.le_trans zlen (by decide), fun D ws H5 nD e5 hD at5 => ⟨D, ws, rfl, e5, hD, at5⟩⟩⟩
      | false =>
        refine ⟨_, rfl, _, rfl, ?_⟩
        refine iteF ?_
        exact ⟨_, rfl, hn _ ⟨t, zs.map V.str, rfl, .inr (SqT.of ht4), by rw [List.length_map]; exact Nat.le_trans zlen (by decide), fun D ws H5 nD e5 hD at5 => ⟨D, ws, rfl, e5, hD, lots_of_choices at5⟩⟩⟩
    rintro σ5 H5 ⟨D, ws, rfl, e5, hD5, at5⟩
    -- self.places = {lot: at for at, lot in enumerate(lots)}
    refine dcT_enL rfl (SqL.of hD5) fun D2 nD2 => ⟨fun k H' => Same H5 H' ∧ H' D2 = some (.dT (placesOf ((lotsFor ch zs).take k))), ⟨same_upd nD2, upd_same⟩, fun k H' ⟨e6, _⟩ => SqL.of (e6 _ _ hD5), ?_, ?_⟩
    · rintro k y H6 H7 hk ⟨e6, hd6⟩ ⟨T', y1, y2, rfl, nT, rfl, h1, h2⟩
      cases h1
      have h2 : ws[k]? = some y2 := h2
      obtain ⟨lot, hlot⟩ : ∃ lot, (lotsFor ch zs)[k]? = some lot := ⟨_, List.getElem?_eq_getElem (by rw [← at5.1]; exact hk)⟩
      obtain ⟨b, rfl, hb⟩ := at5.2 k y2 lot h2 hlot
      have eT := same_upd (o := HO.tup [V.int (k : Nat), .ref b]) nT
      refine ⟨T', _, rfl, SqT.of upd_same, rfl, _, _, rfl, _, _, rfl, rfl, ?_⟩
      refine ⟨rfl, _, rfl, _, rfl, placesOf ((lotsFor ch zs).take k), lot.map Sum.inr, b, rfl, ?_, eT _ _ hd6, ?_, Same.grow (Same.trans e6 eT) nD2, ?_⟩
      · rw [List.map_map]
        exact eT _ _ (e6 _ _ hb)
      · refine Nat.lt_of_le_of_lt (places_len _) ?_
        rw [List.length_take]
        have := lots_few zlen
        exact Evl.sz_lt (by omega)
      · rw [upd_same, places_snoc hlot]
    · rintro H6 ⟨e6, hd6⟩
      rw [at5.1, List.take_length] at hd6
      have hx6 := e6 _ _ (e5 _ _ hx4)
      have nD2x : D2 ≠ x := ne_of hd6 hx6 (fun z => nomatch z)
      refine ⟨_, rfl, x, C, dx, _, rfl, hx6, T.cl, T.nP, by show 2 < 1000; decide, kQ zs _ hw rfl znd ⟨dx, t, D2, ?_, ?_, ?_⟩ ?_⟩
      · rw [upd_same, put3]
        rfl
      · rw [upd_ne ntx]
        exact e6 _ _ (e5 _ _ ht4)
      · rw [upd_ne nD2x]
        exact hd6
      · exact (b4.trans (But.same (Same.trans e5 e6))).trans But.upd
end
end Bk

namespace Bk
open PySem PySem.Spec PyProof.Rows L2
section
variable {P : Program} {w : World} {K : PySem.W.Frag} {mg : Str → Option Value} {base : Heap}
theorem scSame : FnScope ["_law_found", "_law_due", "_law_x", "_law_y"] ["_law_found", "_law_due"] (defScope (topS 58)) := ⟨rfl, rfl, rfl, by decide +kernel, rfl, by decide +kernel, by decide +kernel⟩
theorem same_step (B : Bi mg) {n : Nat} {f : Addr} {fd : FuncData} (F : Fun K "_law_same" "_law_same" (topS 58) f fd) (g : mg "_law_same" = some (.ref f)) (b : Binds K fd ["_law_found", "_law_due"] [])
    (ih : FnOk P w K mg base CX0 (n + 1) f fd ["_law_found", "_law_due"] (spSame K n)) : FnOk P w K mg base CX0 (n + 2) f fd ["_law_found", "_law_due"] (spSame K (n + 1)) := by
  refine F.ok scSame (fun vs H Q E h => ?_) (fun cdv A outer s H vs Q E hr h => ?_)
  · obtain ⟨x, y, d, rfl, _⟩ := h
    rfl
  · obtain ⟨x, y, d, rfl, hx, hy, hd, hw, q⟩ := h
    have nd := scSame.nd
    have hu := hu_of hr
    have hr__law_same := hr
    have c__law_same : Cal P w K mg base CX0 (n + 1) "_law_same" f fd ["_law_found", "_law_due"] (spSame K n) := ⟨ih, g, F.kp, b⟩
    refine ⟨_, (pss_cons (ps_if (pt_val (pe_callB (kIsiT K) (by rfl) B.isinstance (by decide +kernel) (pa_cons (pv 1) (pa_cons (pe_tup (pa_cons (pe_bltn (v := .ty "list") (by rfl) B.list (by decide +kernel) rfl) (pa_cons (pe_bltn (v := .ty "tuple") (by rfl) B.tuple (by decide +kernel) rfl) pa_nil))) pa_nil)))) (pss_cons (ps_if (PW.pt (pw_or (pt_cmpR op_ne (pe_callB (kIsi K) (by rfl) B.isinstance (by decide +kernel) (pa_cons (pv 0) (pa_cons (pe_bltn (v := .ty "list") (by rfl) B.list (by decide +kernel) rfl) pa_nil))) (pe_callB (kIsi K) (by rfl) B.isinstance (by decide +kernel) (pa_cons (pv 1) (pa_cons (pe_bltn (v := .ty "list") (by rfl) B.list (by decide +kernel) rfl) pa_nil))) (nomark _)) (pw_or1 (pt_cmpR op_ne (pe_callB (kIsi K) (by rfl) B.isinstance (by decide +kernel) (pa_cons (pv 0) (pa_cons (pe_bltn (v := .ty "tuple") (by rfl) B.tuple (by decide +kernel) rfl) pa_nil))) (pe_callB (kIsi K) (by rfl) B.isinstance (by decide +kernel) (pa_cons (pv 1) (pa_cons (pe_bltn (v := .ty "tuple") (by rfl) B.tuple (by decide +kernel) rfl) pa_nil))) (nomark _))))) (pss_one (ps_ret pe_bl)) pss_nil)
      (pss_one (ps_ret (pe_and (pe_cmpR op_eq (pe_callB (kLen K) (by rfl) B.len PySem.boot_len (pa_cons (pv 0) pa_nil)) (pe_callB (kLen K) (by rfl) B.len PySem.boot_len (pa_cons (pv 1) pa_nil)) (nomark _)) (pe_one (pe_callB (kAll K rfl) (by rfl) B.all (by decide +kernel) (pa_cons (pe_lc (own := [("_law_x", 2), ("_law_y", 3)]) rfl nd (kPiZ K (by rfl) B.zip (pa_cons (pv 0) (pa_cons (pv 1) pa_nil))) (blkOk_by (N := ["_law_found", "_law_due", "_law_x", "_law_y"]) (sc := defScope (topS 58)) (by decide +kernel)) (fun _ _ _ _ _ => (kTg K 2 rfl (pgs_cons (pg_name (i := 2) nd rfl (Or.inl rfl)) (pgs_cons (pg_name (i := 3) nd rfl (Or.inl rfl)) pgs_nil)))) (fun _ _ _ _ _ => pts_nil) (fun _ _ _ _ _ => (pe_call c__law_same.ok hr__law_same (by rfl) c__law_same.g c__law_same.kp c__law_same.b .nil pass0 (pa_cons (pv 2) (pa_cons (pv 3) pa_nil))))) pa_nil))))))) pss_nil)
      (pss_cons (ps_if (pt_val (pe_callB (kIsi K) (by rfl) B.isinstance (by decide +kernel) (pa_cons (pv 1) (pa_cons (pe_bltn (v := .ty "int") (by rfl) B.int (by decide +kernel) rfl) pa_nil)))) (pss_one (ps_ret (pe_and (pe_callB (kIsi K) (by rfl) B.isinstance (by decide +kernel) (pa_cons (pv 0) (pa_cons (pe_bltn (v := .ty "int") (by rfl) B.int (by decide +kernel) rfl) pa_nil))) (pe_and (pe_cmpR op_eq (pe_callB (kIsi K) (by rfl) B.isinstance (by decide +kernel) (pa_cons (pv 0) (pa_cons (pe_bltn (v := .ty "bool") (by rfl) B.bool (by decide +kernel) rfl) pa_nil))) (pe_callB (kIsi K) (by rfl) B.isinstance (by decide +kernel) (pa_cons (pv 1) (pa_cons (pe_bltn (v := .ty "bool") (by rfl) B.bool (by decide +kernel) rfl) pa_nil))) (nomark _)) (pe_one (pe_cmpR op_eq (pv 0) (pv 1) (nomark _))))))) pss_nil)
      (pss_one (ps_ret (pe_and (pe_cmpR op_isBl (pe_callB (kIsiT K) (by rfl) B.isinstance (by decide +kernel) (pa_cons (pv 0) (pa_cons (pe_tup (pa_cons (pe_bltn (v := .ty "int") (by rfl) B.int (by decide +kernel) rfl) (pa_cons (pe_bltn (v := .ty "list") (by rfl) B.list (by decide +kernel) rfl) (pa_cons (pe_bltn (v := .ty "tuple") (by rfl) B.tuple (by decide +kernel) rfl) pa_nil)))) pa_nil))) pe_bl (nomark _)) (pe_one (pe_cmpR op_eq (pv 0) (pv 1) (nomark _)))))))), ?_⟩
    have tx := tyx_d hx
    have ty := tyx_d hy
    refine isi2 rfl ty (kit2 (kd_L d) (kd_T d)) fun H1 e1 => ⟨_, rfl, ?_⟩
    cases hs : isL d || isT d with
    | false =>
      refine iteF ?_
      refine isi1 rfl (TyX.same ty e1) (kit_ty (kd_I d)) ⟨_, rfl, ?_⟩
      obtain ⟨exy, hsc⟩ := flat_eq hx hy hs
      have hdec : decide (x = y) = true := decide_eq_true exy
      cases hi : isI d with
      | true =>
        refine iteT ?_
        refine isi1 rfl (TyX.same tx e1) (kit_ty (kd_I d)) ⟨_, rfl, ?_⟩
        rw [hi]
        refine iteT ?_
        refine isi1 rfl (TyX.same tx e1) (kit_ty (kd_B d)) ?_
        refine isi1 rfl (TyX.same ty e1) (kit_ty (kd_B d)) ⟨rfl, _, rfl, ?_⟩
        rw [decide_eq_true rfl]
        refine iteT ?_
        refine ⟨_, rfl, _, rfl, hsc, ?_⟩
        rw [hdec]
        exact q H1 e1
      | false =>
        refine iteF ?_
        have hl : isL d = false := by cases h : isL d <;> simp_all
        have ht : isT d = false := by cases h : isT d <;> simp_all
        refine isi3 rfl (TyX.same tx e1) (kit3 (kd_I d) (kd_L d) (kd_T d)) fun H2 e2 => ?_
        rw [hi, hl, ht]
        refine ⟨false, false, rfl, rfl, _, rfl, ?_⟩
        rw [decide_eq_true rfl]
        refine iteT ?_
        refine ⟨_, rfl, _, rfl, hsc, ?_⟩
        rw [hdec]
        exact q H2 (Same.trans e1 e2)
    | true =>
      refine iteT ?_
      obtain ⟨a, b, xs, ys, ds, rfl, rfl, hS, hxs, hys, hdp, hw1, hw2⟩ : ∃ a b xs ys ds, x = .ref a ∧ y = .ref b ∧ ((SqL K H a xs ∧ SqL K H b ys) ∨ (SqT K H a xs ∧ SqT K H b ys)) ∧ DpAll K H xs ds ∧ DpAll K H ys ds ∧ PyData.depthAll ds + 1 ≤ n ∧ ds.length ≤ 90000 ∧ wideAll ds ≤ 90000 := by
        cases hx with
        | lst h1 h2 =>
          cases hy with
          | lst h3 h4 => exact ⟨_, _, _, _, _, rfl, rfl, .inl ⟨h1, h3⟩, h2, h4, by simpa [PyData.depth] using hd, by simp only [wide] at hw; omega, by simp only [wide] at hw; omega⟩
        | tup h1 h2 =>
          cases hy with
          | tup h3 h4 => exact ⟨_, _, _, _, _, rfl, rfl, .inr ⟨h1, h3⟩, h2, h4, by simpa [PyData.depth] using hd, by simp only [wide] at hw; omega, by simp only [wide] at hw; omega⟩
        | _ => cases hs
      have hlen : xs.length = ys.length := by rw [DpAll.len hxs, DpAll.len hys]
      have hS1 : (SqL K H1 a xs ∧ SqL K H1 b ys) ∨ (SqT K H1 a xs ∧ SqT K H1 b ys) := hS.imp (fun z => ⟨e1.seq z.1, e1.seq z.2⟩) fun z => ⟨Same.sqt e1 z.1, Same.sqt e1 z.2⟩
      have lx : LenV K (.ref a) H1 xs.length := hS1.imp (fun z => ⟨xs, z.1, rfl⟩) fun z => ⟨xs, z.1, rfl⟩
      have ly : LenV K (.ref b) H1 ys.length := hS1.imp (fun z => ⟨ys, z.2, rfl⟩) fun z => ⟨ys, z.2, rfl⟩
      refine isi1 rfl (TyX.same tx e1) (kit_ty (kd_L d)) ?_
      refine isi1 rfl (TyX.same ty e1) (kit_ty (kd_L d)) ⟨rfl, _, rfl, ?_⟩
      rw [decide_eq_true rfl]
      refine iteF ?_
      refine isi1 rfl (TyX.same tx e1) (kit_ty (kd_T d)) ?_
      refine isi1 rfl (TyX.same ty e1) (kit_ty (kd_T d)) ⟨rfl, _, rfl, ?_⟩
      rw [decide_eq_true rfl]
      refine iteF ?_
      refine ⟨_, rfl, _, _, rfl, lx, _, rfl, _, _, rfl, ly, rfl, ?_⟩
      rw [hlen, decide_eq_true rfl]
      refine ⟨_, rfl, ?_⟩
      refine iteT ?_
      obtain ⟨m, rfl⟩ : ∃ m, n = m + 1 := ⟨n - 1, by omega⟩
      refine cb1 ?_
      refine lcZ (a := a) (b := b) (xs := xs) (ys := ys) rfl rfl hS1 hlen fun D nD => ⟨fun k H' => Same H1 H' ∧ H' D = some (.lst (List.replicate k (V.bl true))), ⟨same_upd nD, upd_same⟩, fun k H' z => z.1, ?_, ?_⟩
      · rintro k v H3 H4 hk ⟨e3, hD⟩ ⟨T, v1, v2, rfl, nT, rfl, g1, g2⟩
        have eT := same_upd (o := HO.tup [v1, v2]) nT
        refine ⟨T, _, rfl, SqT.of upd_same, rfl, _, _, rfl, _, _, rfl, rfl, ?_⟩
        refine ⟨rfl, yes2 ?_⟩
        have g1 : xs[k]? = some v1 := g1
        have g2 : ys[k]? = some v2 := g2
        obtain ⟨d1, f1, p1⟩ := DpAll.get hxs g1
        obtain ⟨d2, f2, p2⟩ := DpAll.get hys g2
        rw [f1] at f2
        obtain rfl := Option.some.inj f2
        have e04 := Same.trans e1 (Same.trans e3 eT)
        have hdd := depth_mem (List.mem_of_getElem? f1)
        have hww := wide_mem (List.mem_of_getElem? f1)
        refine ⟨_, rfl, _, rfl, v1, v2, d1, rfl, Dp.sm e04 _ _ p1, Dp.sm e04 _ _ p2, by omega, by omega, fun H5 e5 => ?_⟩
        have e15 := Same.trans e3 (Same.trans eT e5)
        refine ⟨_, e5 _ _ (eT _ _ hD), ?_, Same.grow e15 nD, ?_⟩
        · rw [List.length_replicate]
          have := DpAll.len hxs
          exact Evl.sz_lt (by omega)
        · rw [upd_same, List.replicate_succ']
      · rintro H3 ⟨e3, hD⟩
        refine ⟨D, List.replicate xs.length true, rfl, SqL.of (by rw [List.map_replicate]; exact hD), ?_⟩
        have : (List.replicate xs.length true).all id = true := by
          rw [List.all_eq_true]
          intro z hz
          rw [List.eq_of_mem_replicate hz]
          rfl
        rw [this]
        exact q H3 (Same.trans e1 e3)
theorem ok_same (B : Bi mg) {f : Addr} {fd : FuncData} (F : Fun K "_law_same" "_law_same" (topS 58) f fd) (g : mg "_law_same" = some (.ref f)) (b : Binds K fd ["_law_found", "_law_due"] []) : ∀ n, FnOk P w K mg base CX0 (n + 1) f fd ["_law_found", "_law_due"] (spSame K n)
  | 0 => ok_never
  | n + 1 => same_step B F g b (ok_same B F g b n)
end
end Bk

namespace Bk
open PySem PySem.Spec PyProof.Rows L2
/-! ### the law's own rows of places -/
def startB (r : List Nat) : Nat := if r = [] then 0 else lastOf r + 1
def growB (n : Nat) (r : List Nat) : List (List Nat) := (List.range' (startB r) (n - startB r)).map fun j => r ++ [j]
def bRows (n : Nat) : Nat → List (List Nat)
  | 0 => [[]]
  | k + 1 => (bRows n k).flatMap (growB n)
structure BOk (n k : Nat) (r : List Nat) : Prop where
  len : r.length = k
  lt : ∀ x ∈ r, x < n
theorem bRows_ok {n : Nat} : ∀ k, ∀ r ∈ bRows n k, BOk n k r
  | 0, r, hr => by
    rw [List.mem_singleton.mp hr]
    exact ⟨rfl, fun x hx => nomatch hx⟩
  | k + 1, r, hr => by
    obtain ⟨r0, h0, hr⟩ := List.mem_flatMap.mp hr
    obtain ⟨j, hj, rfl⟩ := List.mem_map.mp hr
    obtain ⟨j1, j2⟩ := List.mem_range'_1.mp hj
    have o := bRows_ok k r0 h0
    refine ⟨by rw [List.length_append, o.len]; rfl, fun x hx => ?_⟩
    rcases List.mem_append.mp hx with hx | hx
    · exact o.lt x hx
    · rw [List.mem_singleton.mp hx]
      omega
theorem BOk.start {n k : Nat} {r : List Nat} (h : BOk n k r) : startB r ≤ n := by
  unfold startB
  split
  · exact Nat.zero_le _
  · rename_i e
    exact h.lt _ (lastOf_mem e)
theorem growB_length (n : Nat) (r : List Nat) : (growB n r).length = n - startB r := by
  unfold growB
  rw [List.length_map, List.length_range']
theorem growB_at {n : Nat} {r : List Nat} {j : Nat} (hj : j < n - startB r) : (growB n r)[j]? = some (r ++ [startB r + j]) := by
  unfold growB
  rw [List.getElem?_map, List.getElem?_range' hj]
  simp
theorem bRows_len {n : Nat} (hn : n ≤ 5) : ∀ k, (bRows n k).length ≤ 5 ^ k
  | 0 => Nat.le_refl _
  | k + 1 => by
    have h1 := flatMap_len (f := growB n) (m := 5) (l := bRows n k) fun x _ => by rw [growB_length]; omega
    have h2 := bRows_len hn k
    rw [Nat.pow_succ]
    show ((bRows n k).flatMap (growB n)).length ≤ _
    omega
theorem bRows_snoc {n : Nat} {rows : List (List Nat)} {i : Nat} {r : List Nat} (h : rows[i]? = some r) : (rows.take (i + 1)).flatMap (growB n) = (rows.take i).flatMap (growB n) ++ growB n r := by
  rw [take_succ h, List.flatMap_append, List.flatMap_cons, List.flatMap_nil, List.append_nil]
/-- both rows alike -/
theorem growB_eq {n k : Nat} {r : List Nat} (h : RowOk n k r) : growB n r = growRow n r := by
  unfold growB growRow startB
  rw [if_neg h.ne]
theorem flatMap_eq {α β : Type} {f g : α → List β} : ∀ {l : List α}, (∀ x ∈ l, f x = g x) → l.flatMap f = l.flatMap g
  | [], _ => rfl
  | x :: r, h => by rw [List.flatMap_cons, List.flatMap_cons, h x List.mem_cons_self, flatMap_eq (l := r) fun y hy => h y (List.mem_cons_of_mem _ hy)]
theorem bRows_one (n : Nat) : bRows n 1 = firstRows n := by
  show [[]].flatMap (growB n) = firstRows n
  rw [List.flatMap_cons, List.flatMap_nil, List.append_nil]
  unfold growB firstRows startB
  rw [if_pos rfl, Nat.sub_zero, List.range_eq_range']
  rfl
theorem bRows_next {n : Nat} : ∀ k, (∀ r ∈ bRows n (k + 1), RowOk n k r) ∧ bRows n (k + 2) = nextRows n (bRows n (k + 1))
  | 0 => by
    have h : ∀ r ∈ bRows n 1, RowOk n 0 r := by
      rw [bRows_one]
      exact firstRows_ok
    exact ⟨h, flatMap_eq fun r m => growB_eq (h r m)⟩
  | k + 1 => by
    obtain ⟨h1, h2⟩ := bRows_next (n := n) k
    have h : ∀ r ∈ bRows n (k + 2), RowOk n (k + 1) r := by
      rw [h2]
      exact nextRows_ok h1
    exact ⟨h, flatMap_eq fun r m => growB_eq (h r m)⟩
/-- all rows of one, two, .. places, as the law joins them -/
def bAll (n : Nat) : List (List Nat) := (List.range n).flatMap fun k => bRows n (k + 1)
theorem rowsFrom_b {n : Nat} : ∀ f k, rowsFrom n f (bRows n (k + 1)) = (List.range' k f).flatMap fun j => bRows n (j + 1)
  | 0, k => rfl
  | f + 1, k => by
    show bRows n (k + 1) ++ rowsFrom n f (nextRows n (bRows n (k + 1))) = _
    rw [← (bRows_next k).2, rowsFrom_b f (k + 1), List.range'_succ, List.flatMap_cons]
theorem bAll_eq (n : Nat) : bAll n = lotRows n := by
  unfold bAll lotRows
  rw [← bRows_one, rowsFrom_b n 0, List.range_eq_range']
theorem depth_rows (r : List Nat) : PyData.depthAll (r.map fun (k : Nat) => PyData.int (k : Int)) = 0 := by
  induction r with
  | nil => simp [PyData.depthAll]
  | cons x r ih => simp [PyData.depthAll, PyData.depth, ih]
theorem lay_rows (r : List Nat) : PyData.canLayAll0 (r.map fun (k : Nat) => PyData.int (k : Int)) = true := by
  induction r with
  | nil => simp [PyData.canLayAll0]
  | cons x r ih => simp [PyData.canLayAll0, PyData.canLay0, ih]
theorem shaped_row (r : List Nat) : SeqAt.shaped (.tuple (r.map fun (k : Nat) => PyData.int (k : Int))) = true := by
  have h1 := lay_rows r
  have h2 := depth_rows r
  simp [SeqAt.shaped, PyData.canLay0, PyData.depth, h1, h2]
theorem eqv_row (r : List Nat) : PyData.eqv (.tuple (r.map fun (k : Nat) => PyData.int (k : Int))) (.tuple []) = r.isEmpty := by
  cases r <;> simp [PyData.eqv, PyData.eqvAll]
theorem dp_row {K : PySem.W.Frag} {H : Hp} : ∀ r : List Nat, DpAll K H (rowV r) (r.map fun (k : Nat) => PyData.int (k : Int))
  | [] => .nil
  | x :: r => .cons (.int _) (dp_row r)
def pickAt (zs : List Str) (r : List Nat) : List Str := r.map fun k => zs.getD k Str.empty
/-- the lots of the first i lengths -/
def lawLots (ch : Bool) (zs : List Str) (i : Nat) : List (List Str) := if ch then (List.range i).flatMap (longRows zs) else ((List.range i).flatMap fun k => bRows zs.length (k + 1)).map (pickAt zs)
theorem lawLots_all (ch : Bool) (zs : List Str) : lawLots ch zs zs.length = lotsFor ch zs := by
  cases ch with
  | true => rfl
  | false =>
    show (bAll zs.length).map (pickAt zs) = lotsOf zs
    rw [bAll_eq]
    rfl
theorem lawLots_next (ch : Bool) (zs : List Str) (i : Nat) : lawLots ch zs (i + 1) = lawLots ch zs i ++ (if ch then longRows zs i else (bRows zs.length (i + 1)).map (pickAt zs)) := by
  cases ch with
  | true =>
    show (List.range (i + 1)).flatMap (longRows zs) = (List.range i).flatMap (longRows zs) ++ longRows zs i
    rw [List.range_succ, List.flatMap_append, List.flatMap_cons, List.flatMap_nil, List.append_nil]
  | false =>
    show ((List.range (i + 1)).flatMap fun k => bRows zs.length (k + 1)).map (pickAt zs) = _
    rw [List.range_succ, List.flatMap_append, List.flatMap_cons, List.flatMap_nil, List.append_nil, List.map_append]
    rfl
def spBlots (K : PySem.W.Frag) : Sp := fun vs H Q _ => ∃ (a : Addr) (zs : List Str) (ch : Bool), vs = [.ref a, .bl ch] ∧ H a = some (.lst (zs.map V.str)) ∧ zs.length ≤ mostFor ch ∧
  ∀ (D : Addr) (ws : List V) (H' : Hp), H D = none → Same H H' → H' D = some (.lst ws) → Ats H' (fun l => l.map V.str) ws (lotsFor ch zs) → Q (.ref D) H'
def spRows (K : PySem.W.Frag) : Nat → Sp
  | 0 => fun _ _ _ _ => False
  | m + 1 => fun vs H Q _ => ∃ k n : Nat, vs = [.int (k : Int), .int (n : Int)] ∧ k ≤ m ∧ k ≤ 5 ∧ n ≤ 5 ∧ ∀ (D : Addr) (ws : List V) (H' : Hp), H D = none → Same H H' → H' D = some (.lst ws) → Ats H' rowV ws (bRows n k) → Q (.ref D) H'
end Bk

namespace Bk
open PySem PySem.Spec PyProof.Rows L2
section
variable {P : Program} {w : World} {K : PySem.W.Frag} {mg : Str → Option Value} {base : Heap}
theorem scBrows : FnScope ["_law_many", "_law_left", "_law_found", "_law_head", "_law_at"] ["_law_many", "_law_left"] (defScope (topS 66)) := ⟨rfl, rfl, rfl, by decide +kernel, rfl, by decide +kernel, by decide +kernel⟩
theorem startE {σ : L2.St} {H : Hp} {R : VK} {a : Addr} {row : List Nat} (hv : σ[3]? = some (some (.ref a))) (ha : H a = some (.tup (rowV row))) (r : ∀ H', Same H H' → R (.int (startB row : Int)) H') :
    tIf (tTest (tOp (rNeD K) (tVar 3) (tTup tNil))) (tOp (rI0 fun i j => V.int (i + j)) (tOp (rIxT K) (tVar 3) (tUn (rU fun i => V.int (-i)) (tC (V.int 1)))) (tC (V.int 1))) (tC (V.int 0)) σ H R := by
  refine ⟨_, hv, Nat.zero_le _, fun t nt => ⟨.tuple (row.map fun (k : Nat) => PyData.int (k : Int)), .tuple [], .tup (SqT.of (same_upd nt _ _ ha)) (dp_row row), .tup (SqT.of upd_same) .nil, shaped_row row, rfl, _, rfl, ?_⟩⟩
  rw [eqv_row]
  have et := same_upd (o := HO.tup []) nt
  by_cases h : row = []
  · subst h
    refine iteF ?_
    exact r _ et
  · have e : (!row.isEmpty) = true := by
      cases row with
      | nil => exact absurd rfl h
      | cons x r => rfl
    rw [e]
    refine iteT ?_
    refine ⟨_, hv, 1, rfl, a, _, _, _, rfl, rfl, SqT.of (et _ _ ha), at_last h, _, _, rfl, rfl, ?_⟩
    have := r _ et
    unfold startB at this
    rw [if_neg h] at this
    exact this
theorem brows_step (B : Bi mg) {m : Nat} {f : Addr} {fd : FuncData} (F : Fun K "_law_b_rows" "_law_b_rows" (topS 66) f fd) (g : mg "_law_b_rows" = some (.ref f)) (b : Binds K fd ["_law_many", "_law_left"] [])
    (ih : FnOk P w K mg base CX0 (m + 1) f fd ["_law_many", "_law_left"] (spRows K m)) : FnOk P w K mg base CX0 (m + 2) f fd ["_law_many", "_law_left"] (spRows K (m + 1)) := by
  refine F.ok scBrows (fun vs H Q E h => ?_) (fun cdv A outer s H vs Q E hr h => ?_)
  · obtain ⟨k, n, rfl, _⟩ := h
    rfl
  · obtain ⟨k, n, rfl, hk, hk5, hn, q⟩ := h
    have nd := scBrows.nd
    have hu := hu_of hr
    have hr__law_b_rows := hr
    have c__law_b_rows : Cal P w K mg base CX0 (m + 1) "_law_b_rows" f fd ["_law_many", "_law_left"] (spRows K m) := ⟨ih, g, F.kp, b⟩
    refine ⟨_, (pss_cons (ps_set (i := 2) nd rfl (Or.inl rfl) (pe_lst pa_nil))
      (pss_cons (ps_for PassesOwn.never rfl (kPiL K (pe_ifExp (pt_cmpR op_gt (pv 0) pe_int (nomark _)) (pe_call c__law_b_rows.ok hr__law_b_rows (by rfl) c__law_b_rows.g c__law_b_rows.kp c__law_b_rows.b .nil pass0 (pa_cons (pe_op op_sub (pv 0) pe_int) (pa_cons (pv 1) pa_nil))) (pe_lst pa_nil))) (pg_name (i := 3) nd rfl (Or.inr rfl)) (pss_one (ps_expr (pe_bm PySem.F.plainAttrs_list PySem.F.slot_list_extend PySem.F.type_list_extend mt_extend (pv 2) (pa_cons (pe_lc (own := [("_law_at", 4)]) rfl nd (pi_range2 (by rfl) B.range (pa_cons (pe_ifExp (pt_cmpR (kNeD K hr.units) (pv 3) (pe_tup pa_nil) (nomark _)) (pe_op op_add (pe_ix (kIxT K) (pv 3) (pe_un un_neg pe_int) (fun _ _ => rfl)) pe_int) pe_int) (pa_cons (pv 1) pa_nil))) (blkOk_by (N := ["_law_many", "_law_left", "_law_found", "_law_head", "_law_at"]) (sc := defScope (topS 66)) (by decide +kernel)) (fun _ _ _ _ _ => (pg_name (i := 4) nd rfl (Or.inl rfl))) (fun _ _ _ _ _ => pts_nil) (fun _ _ _ _ _ => (pe_op (kCatA K) (pv 3) (pe_tup (pa_cons (pv 4) pa_nil))))) pa_nil)))))
      (pss_one (ps_ret (pe_ifExp (pt_cmpR op_gt (pv 0) pe_int (nomark _)) (pv 2) (pe_lst (pa_cons (pe_tup pa_nil) pa_nil))))))), ?_⟩
    refine ⟨Nat.zero_le _, fun l nl => ?_⟩
    have e0 := same_upd (o := HO.lst []) nl
    have hl0 : upd H l (.lst []) l = some (.lst []) := upd_same
    generalize upd H l (.lst []) = H0 at e0 hl0 ⊢
    refine ⟨_, rfl, _, _, rfl, rfl, _, rfl, ?_⟩
    cases k with
    | zero =>
      refine iteF ?_
      refine ⟨Nat.zero_le _, fun b0 nb0 => ?_⟩
      have hb0 : upd H0 b0 (.lst []) b0 = some (.lst []) := upd_same
      have e1 := Same.trans e0 (same_upd (o := HO.lst []) nb0)
      generalize upd H0 b0 (.lst []) = H1 at hb0 e1 ⊢
      refine ⟨b0, rfl, ⟨_, SqL.of hb0⟩, for_it (walk_list (xs := [])) (fun _ σ' H' => σ' = [some (.int ((0 : Nat) : Int)), some (.int (n : Int)), some (.ref l), none, none] ∧ H' = H1) ⟨rfl, rfl⟩ (fun _ _ _ _ ⟨_, e⟩ => by rw [e]; exact SqL.of hb0) ?_ ?_⟩
      · intro i x σ' H' H'' hi
        exact absurd hi (Nat.not_lt_zero _)
      · rintro σ' H' ⟨rfl, rfl⟩
        refine ⟨_, rfl, _, _, rfl, rfl, _, rfl, ?_⟩
        refine iteF ?_
        refine ⟨Nat.zero_le _, fun t nt => ⟨by show 1 ≤ sizeLine; rw [sizeLine_eq]; omega, fun D nD => ?_⟩⟩
        have et := same_upd (o := HO.tup []) nt
        have eD := same_upd (o := HO.lst [V.ref t]) nD
        have e2 := Same.trans e1 (Same.trans et eD)
        exact q D _ _ (Same.free (Same.trans e1 et) nD) e2 upd_same (Ats.one (eD _ _ upd_same))
    | succ k =>
      rw [show decide ((0 : Int) < ((k + 1 : Nat) : Int)) = true from decide_eq_true (by omega)]
      refine iteT ?_
      cases m with
      | zero => omega
      | succ m =>
      refine ⟨_, rfl, _, _, rfl, rfl, _, rfl, k, n, ?_, by omega, by omega, hn, fun b1 us H1 nb1 e1 hb1 at1 => ?_⟩
      · show [V.int (((k + 1 : Nat) : Int) - 1), V.int (n : Int)] = [V.int (k : Int), V.int (n : Int)]
        rw [show ((k + 1 : Nat) : Int) - 1 = (k : Int) by omega]
      have hl1 := e1 _ _ hl0
      have nlb : l ≠ b1 := ne_of_none hl0 nb1
      have e01 := Same.trans e0 e1
      have hok := bRows_ok (n := n) k
      have hlr := bRows_len hn k
      have hpow : 5 ^ k ≤ 5 ^ 5 := Nat.pow_le_pow_right (by decide) (by omega)
      refine ⟨b1, rfl, ⟨_, SqL.of hb1⟩, for_it (walk_list (xs := us)) (fun i σ' H' => ∃ (v3 : Option V) (ws : List V), σ' = [some (.int ((k + 1 : Nat) : Int)), some (.int (n : Int)), some (.ref l), v3, none] ∧ But l H1 H' ∧ H' l = some (.lst ws) ∧ Ats H' rowV ws (((bRows n k).take i).flatMap (growB n))) ?_ (fun i σ' H' _ ⟨_, _, _, bt, _⟩ => SqL.of (bt _ _ nlb.symm hb1)) ?_ ?_⟩
      · exact ⟨none, [], rfl, fun _ _ _ e => e, hl1, .nil⟩
      · rintro i x σ' H2 H3 hi ⟨v3, ws, rfl, bt, hl2, at2⟩ ⟨rfl, hx⟩
        have hir : i < (bRows n k).length := by rw [← at1.1]; exact hi
        obtain ⟨row, hrow⟩ : ∃ row, (bRows n k)[i]? = some row := ⟨_, List.getElem?_eq_getElem hir⟩
        obtain ⟨a, rfl, ha⟩ := at1.2 i x row hx hrow
        have o := hok row (List.mem_of_getElem? hrow)
        have nal : a ≠ l := ne_of ha hl1 (fun z => nomatch z)
        have ha3 := bt _ _ nal ha
        refine ⟨_, rfl, .inl ⟨rfl, _, SqL.of hl2⟩, ?_⟩
        have hsB := o.start
        refine startE rfl ha3 fun H4 e4 => ?_
        refine ⟨_, rfl, _, _, rfl, ⟨by omega, by omega, by omega, by omega⟩, fun D nD => ?_⟩
        have hnD : D ≠ l := (ne_of_none (e4 _ _ hl2) nD).symm
        have hlw : ws.length ≤ 5 ^ 5 * 5 := by
          rw [at2.1]
          have h1 := flatMap_len (f := growB n) (m := 5) (l := (bRows n k).take i) fun x _ => by rw [growB_length]; omega
          have h2 : ((bRows n k).take i).length ≤ 5 ^ k := by rw [List.length_take]; omega
          omega
        refine lc_it walk_range (fun j H' => ∃ vs3, Same H4 H' ∧ H' D = some (.lst vs3) ∧ Ats H' rowV vs3 ((growB n row).take j)) ?_ (fun _ _ _ _ => trivial) ?_ ?_
        · exact ⟨[], same_upd nD, upd_same, .nil⟩
        · rintro j x H7 H8 hj ⟨vs3, e7, hD7, at7⟩ ⟨rfl, rfl⟩
          have hj : j < n - startB row := by omega
          refine ⟨rfl, yes2 ?_⟩
          refine ⟨_, rfl, _, rfl, by show 1 ≤ sizeLine; rw [sizeLine_eq]; omega, fun p np => ?_⟩
          have ep := same_upd (o := HO.tup [V.int ((startB row : Int) + (j : Int))]) np
          have ha7 := ep _ _ (e7 _ _ (e4 _ _ ha3))
          have lenv : vs3.length ≤ 5 := by
            rw [at7.1, List.length_take, growB_length]
            omega
          refine ⟨a, p, rowV row, _, rfl, rfl, SqT.of ha7, SqT.of upd_same, ?_, fun z => ?_, fun _ z => ?_, fun _ _ t nt => ?_⟩
          · rw [rowV_len, o.len]
            refine Evl.sz_of ?_
            show k + 1 ≤ 100000
            omega
          · have hrow0 : row = [] := List.map_eq_nil_iff.mp z
            refine ⟨vs3, ep _ _ hD7, Evl.sz_lt (by omega), vs3 ++ [.ref p], Same.grow (Same.trans e7 ep) nD, upd_same, ?_⟩
            refine Ats.updL ?_ (ep _ _ hD7)
            rw [take_succ (growB_at hj)]
            refine (at7.same ep).append (Ats.one ?_)
            rw [upd_same, hrow0]
            show some (HO.tup [V.int ((startB [] : Int) + (j : Int))]) = some (HO.tup [V.int ((startB [] + j : Nat) : Int)])
            rw [show ((startB [] + j : Nat) : Int) = (startB [] : Int) + (j : Int) by omega]
          · cases z
          · have et := same_upd (o := HO.tup (rowV row ++ [V.int ((startB row : Int) + (j : Int))])) nt
            have hDt := et _ _ (ep _ _ hD7)
            refine ⟨vs3, hDt, Evl.sz_lt (by omega), vs3 ++ [.ref t], Same.grow (Same.trans e7 (Same.trans ep et)) nD, upd_same, ?_⟩
            refine Ats.updL ?_ hDt
            rw [take_succ (growB_at hj)]
            refine ((at7.same ep).same et).append (Ats.one ?_)
            rw [upd_same]
            unfold rowV
            rw [List.map_append]
            show some (HO.tup (_ ++ [V.int ((startB row : Int) + (j : Int))])) = some (HO.tup (_ ++ [V.int ((startB row + j : Nat) : Int)]))
            rw [show ((startB row + j : Nat) : Int) = (startB row : Int) + (j : Int) by omega]
        · rintro H7 ⟨vs3, e7, hD7, at7⟩
          have hl7 := e7 _ _ (e4 _ _ hl2)
          have bt7 : But l H1 (upd H7 l (.lst (ws ++ vs3))) := (bt.trans (But.same (Same.trans e4 e7))).trans But.upd
          rw [List.take_of_length_le (by rw [growB_length]; omega)] at at7
          refine ⟨l, D, ws, vs3, rfl, rfl, hl7, hD7, ?_, some (.ref a), ws ++ vs3, rfl, bt7, upd_same, ?_⟩
          · rw [at7.1, growB_length, sizeLine_eq]
            omega
          · rw [bRows_snoc hrow]
            exact (((at2.same e4).same e7).append at7).updL hl7
      · rintro σ' H2 ⟨v3, ws, rfl, bt, hl2, at2⟩
        refine ⟨_, rfl, _, _, rfl, rfl, _, rfl, ?_⟩
        rw [show decide ((0 : Int) < ((k + 1 : Nat) : Int)) = true from decide_eq_true (by omega)]
        refine iteT ?_
        rw [at1.1, List.take_length] at at2
        have e2 : Same H H2 := fun b u e => bt _ _ (ne_of_none e nl) (e01 _ _ e)
        exact ⟨_, rfl, q l ws H2 nl e2 hl2 at2⟩
theorem ok_brows (B : Bi mg) {f : Addr} {fd : FuncData} (F : Fun K "_law_b_rows" "_law_b_rows" (topS 66) f fd) (g : mg "_law_b_rows" = some (.ref f)) (b : Binds K fd ["_law_many", "_law_left"] []) : ∀ m, FnOk P w K mg base CX0 (m + 1) f fd ["_law_many", "_law_left"] (spRows K m)
  | 0 => ok_never
  | m + 1 => brows_step B F g b (ok_brows B F g b m)
end
end Bk

namespace Bk
open PySem PySem.Spec PyProof.Rows L2
section
variable {P : Program} {w : World} {K : PySem.W.Frag} {mg : Str → Option Value} {base : Heap}
theorem scBlots : FnScope ["_law_names_here", "_law_is_chain", "_law_found", "_law_many", "_law_at", "_law_row"] ["_law_names_here", "_law_is_chain"] (defScope (topS 67)) := ⟨rfl, rfl, rfl, by decide +kernel, rfl, by decide +kernel, by decide +kernel⟩
theorem ok_blots (B : Bi mg) {f f1 : Addr} {fd fd1 : FuncData} (c__law_b_rows : Cal P w K mg base CX0 7 "_law_b_rows" f1 fd1 ["_law_many", "_law_left"] (spRows K 6)) (F : Fun K "_law_b_lots" "_law_b_lots" (topS 67) f fd) : FnOk P w K mg base CX0 8 f fd ["_law_names_here", "_law_is_chain"] (spBlots K) := by
  refine F.ok scBlots (fun vs H Q E h => ?_) (fun cdv A outer s H vs Q E hr h => ?_)
  · obtain ⟨a, zs, ch, rfl, _⟩ := h
    rfl
  · obtain ⟨a, zs, ch, rfl, hS, hl, q⟩ := h
    have nd := scBlots.nd
    have hu := hu_of hr
    have hr__law_b_rows := hr
    have hl12 : zs.length ≤ 12 := by
      cases ch with
      | true => exact hl
      | false => exact Nat.le_trans hl (by decide)
    refine ⟨_, (pss_cons (ps_set (i := 2) nd rfl (Or.inl rfl) (pe_lst pa_nil))
      (pss_cons (ps_for PassesOwn.never rfl (pi_range2 (by rfl) B.range (pa_cons pe_int (pa_cons (pe_op op_add (pe_callB (kLen K) (by rfl) B.len PySem.boot_len (pa_cons (pv 0) pa_nil)) pe_int) pa_nil))) (pg_name (i := 3) nd rfl (Or.inr rfl)) (pss_one (ps_if (pt_val (pv 1)) (pss_one (ps_expr (pe_bm PySem.F.plainAttrs_list PySem.F.slot_list_extend PySem.F.type_list_extend mt_extend (pv 2) (pa_cons (pe_lc (own := [("_law_at", 4)]) rfl nd (pi_range1 (by rfl) B.range (pa_cons (pe_op op_add (pe_op op_sub (pe_callB (kLen K) (by rfl) B.len PySem.boot_len (pa_cons (pv 0) pa_nil)) (pv 3)) pe_int) pa_nil)) (blkOk_by (N := ["_law_names_here", "_law_is_chain", "_law_found", "_law_many", "_law_at", "_law_row"]) (sc := defScope (topS 67)) (by decide +kernel)) (fun _ _ _ _ _ => (pg_name (i := 4) nd rfl (Or.inl rfl))) (fun _ _ _ _ _ => pts_nil) (fun _ _ _ _ _ => (kTupleOf K (by rfl) B.tuple (pe_slice (kSlL K) (pv 0) (po_some (pv 4)) (po_some (pe_op op_add (pv 4) (pv 3))))))) pa_nil)))) (pss_one (ps_expr (pe_bm PySem.F.plainAttrs_list PySem.F.slot_list_extend PySem.F.type_list_extend mt_extend (pv 2) (pa_cons (pe_lc (own := [("_law_row", 5)]) rfl nd (kPiL K (pe_call c__law_b_rows.ok hr__law_b_rows (by rfl) c__law_b_rows.g c__law_b_rows.kp c__law_b_rows.b .nil pass0 (pa_cons (pv 3) (pa_cons (pe_callB (kLen K) (by rfl) B.len PySem.boot_len (pa_cons (pv 0) pa_nil)) pa_nil)))) (blkOk_by (N := ["_law_names_here", "_law_is_chain", "_law_found", "_law_many", "_law_at", "_law_row"]) (sc := defScope (topS 67)) (by decide +kernel)) (fun _ _ _ _ _ => (pg_name (i := 5) nd rfl (Or.inl rfl))) (fun _ _ _ _ _ => pts_nil) (fun _ _ _ _ _ => (kTupleOf K (by rfl) B.tuple (pe_lc (own := [("_law_at", 4)]) rfl nd (kPiT K (pv 5)) (blkOk_by (by with_unfolding_all rfl)) (fun _ _ _ _ _ => (pg_name (i := 4) nd rfl (Or.inl rfl))) (fun _ _ _ _ _ => pts_nil) (fun _ _ _ _ _ => (pe_ix (kIxL K) (pv 0) (pv 4) (fun _ _ => rfl))))))) pa_nil)))))))
      (pss_one (ps_ret (pv 2))))), ?_⟩
    refine ⟨Nat.zero_le _, fun l nl => ?_⟩
    have e0 := same_upd (o := HO.lst []) nl
    have hl0 : upd H l (.lst []) l = some (.lst []) := upd_same
    generalize upd H l (.lst []) = H0 at e0 hl0 ⊢
    have hS0 : SqL K H0 a (zs.map V.str) := SqL.of (e0 _ _ hS)
    have nal : a ≠ l := ne_of_none hS nl
    refine ⟨_, rfl, .ref a, zs.length, rfl, .inl ⟨_, hS0, by rw [List.length_map]⟩, _, _, rfl, rfl, _, _, rfl, ⟨by omega, by omega, by omega, by omega⟩, ?_⟩
    have en : ((zs.length : Int) + 1 - 1).toNat = zs.length := by omega
    rw [en]
    refine for_it walk_range (fun i σ' H' => ∃ (v3 : Option V) (ws : List V), σ' = [some (.ref a), some (.bl ch), some (.ref l), v3, none, none] ∧ But l H0 H' ∧ H' l = some (.lst ws) ∧ ws.length ≤ i * 10000 ∧ Ats H' (fun l : List Str => l.map V.str) ws (lawLots ch zs i)) ?_ (fun _ _ _ _ _ => trivial) ?_ ?_
    · refine ⟨none, [], rfl, fun _ _ _ e => e, hl0, Nat.zero_le _, ?_⟩
      cases ch <;> exact .nil
    · rintro i x σ' H1 H2 hi ⟨v3, ws, rfl, bt, hl2, lw, at2⟩ ⟨rfl, rfl⟩
      have hS2 : H2 a = some (.lst (zs.map V.str)) := bt _ _ nal (e0 _ _ hS)
      have ext : ∀ (D : Addr) (us : List V) (H' : Hp), Same H2 H' → D ≠ l → H' D = some (.lst us) → us.length ≤ 10000 → Ats H' (fun l : List Str => l.map V.str) us (if ch then longRows zs i else (bRows zs.length (i + 1)).map (pickAt zs)) →
          rExtend (.ref l) [.ref D] H' (fun _ H3 => ∃ (v3 : Option V) (ws : List V), [some (V.ref a), some (.bl ch), some (.ref l), some (.int (1 + (i : Int))), none, none] = [some (.ref a), some (.bl ch), some (.ref l), v3, none, none] ∧ But l H0 H3 ∧ H3 l = some (.lst ws) ∧ ws.length ≤ (i + 1) * 10000 ∧ Ats H3 (fun l : List Str => l.map V.str) ws (lawLots ch zs (i + 1))) := by
        intro D us H' e hD hus lus atu
        have hl' := e _ _ hl2
        refine ⟨l, D, ws, us, rfl, rfl, hl', hus, ?_, _, ws ++ us, rfl, (bt.trans (But.same e)).trans But.upd, upd_same, ?_, ?_⟩
        · rw [sizeLine_eq]
          omega
        · rw [List.length_append]
          omega
        · rw [lawLots_next]
          exact ((at2.same e).append atu).updL hl'
      cases ch with
      | true =>
        refine ⟨_, rfl, _, rfl, ?_⟩
        refine iteT ?_
        refine ⟨_, rfl, .inl ⟨rfl, _, SqL.of hl2⟩, ?_⟩
        refine ⟨_, rfl, .ref a, zs.length, rfl, .inl ⟨_, SqL.of hS2, by rw [List.length_map]⟩, _, rfl, _, _, rfl, rfl, _, _, rfl, rfl, _, rfl, by omega, by omega, fun D nD => ?_⟩
        have ec : ((zs.length : Int) - (1 + (i : Int)) + 1).toNat = zs.length - i := by omega
        rw [ec]
        refine lc_it walk_range (fun j H' => ∃ vs3, Same H2 H' ∧ H' D = some (.lst vs3) ∧ Ats H' (fun l : List Str => l.map V.str) vs3 ((longRows zs i).take j)) ?_ (fun _ _ _ _ => trivial) ?_ ?_
        · exact ⟨[], same_upd nD, upd_same, .nil⟩
        · rintro j x H7 H8 hj ⟨vs3, e7, hD7, at7⟩ ⟨rfl, rfl⟩
          refine ⟨rfl, yes2 ?_⟩
          have ecut : cutV (zs.map V.str) (some (0 + (j : Int))) (some (0 + (j : Int) + (1 + (i : Int)))) = ((zs.drop j).take (i + 1)).map V.str := by
            rw [show 0 + (j : Int) = ((j : Nat) : Int) by omega, show (j : Int) + (1 + (i : Int)) = ((j + (i + 1) : Nat) : Int) by omega, cut_mid _ _ _ (by omega) (by rw [List.length_map]; omega), List.map_take, List.map_drop]
            congr 1
            omega
          refine ⟨_, rfl, _, rfl, _, rfl, _, rfl, _, rfl, _, _, rfl, rfl, _, rfl, a, _, rfl, SqL.of (e7 _ _ hS2), fun p np => ?_⟩
          rw [ecut]
          have ep := same_upd (o := HO.lst (((zs.drop j).take (i + 1)).map V.str)) np
          refine .inl ⟨p, _, rfl, SqL.of upd_same, fun t nt => ?_⟩
          have et := same_upd (o := HO.tup (((zs.drop j).take (i + 1)).map V.str)) nt
          have hDt := et _ _ (ep _ _ hD7)
          have lenv : vs3.length ≤ 12 := by
            rw [at7.1, List.length_take, longRows_len]
            omega
          refine ⟨vs3, hDt, Evl.sz_lt (by omega), vs3 ++ [.ref t], Same.grow (Same.trans e7 (Same.trans ep et)) nD, upd_same, ?_⟩
          refine Ats.updL ?_ hDt
          rw [take_succ (longRows_at hj)]
          refine ((at7.same ep).same et).append (Ats.one ?_)
          rw [upd_same]
        · rintro H7 ⟨vs3, e7, hD7, at7⟩
          rw [List.take_of_length_le (by rw [longRows_len]; omega)] at at7
          refine ext D vs3 H7 e7 (ne_of_none hl2 nD).symm hD7 ?_ at7
          rw [at7.1, longRows_len]
          omega
      | false =>
        have hl5 : zs.length ≤ 5 := hl
        refine ⟨_, rfl, _, rfl, ?_⟩
        refine iteF ?_
        refine ⟨_, rfl, .inl ⟨rfl, _, SqL.of hl2⟩, ?_⟩
        refine ⟨_, rfl, _, rfl, .ref a, zs.length, rfl, .inl ⟨_, SqL.of hS2, by rw [List.length_map]⟩, i + 1, zs.length, ?_, by show i + 1 ≤ 5; omega, by omega, hl5, fun b us H3 nb e3 hb at3 => ?_⟩
        · show [V.int (1 + (i : Int)), V.int (zs.length : Int)] = [V.int ((i + 1 : Nat) : Int), V.int (zs.length : Int)]
          rw [show ((i + 1 : Nat) : Int) = 1 + (i : Int) by omega]
        have hok := bRows_ok (n := zs.length) (i + 1)
        have hlr := bRows_len hl5 (i + 1)
        have hpow : 5 ^ (i + 1) ≤ 5 ^ 5 := Nat.pow_le_pow_right (by decide) (by omega)
        refine ⟨b, rfl, ⟨_, SqL.of hb⟩, fun D nD => ?_⟩
        refine lc_it (walk_list (xs := us)) (fun j H' => ∃ vs2, Same H3 H' ∧ H' D = some (.lst vs2) ∧ Ats H' (fun l : List Str => l.map V.str) vs2 (((bRows zs.length (i + 1)).map (pickAt zs)).take j)) ?_ (fun j H' _ ⟨_, e5, _⟩ => SqL.of (e5 _ _ hb)) ?_ ?_
        · exact ⟨[], same_upd nD, upd_same, .nil⟩
        · rintro j x H5 H6 hj ⟨vs2, e5, hD, at5⟩ ⟨rfl, hx⟩
          have hir : j < (bRows zs.length (i + 1)).length := by rw [← at3.1]; exact hj
          obtain ⟨row, hrow⟩ : ∃ row, (bRows zs.length (i + 1))[j]? = some row := ⟨_, List.getElem?_eq_getElem hir⟩
          obtain ⟨b', rfl, hb'⟩ := at3.2 j x row hx hrow
          have o := hok row (List.mem_of_getElem? hrow)
          refine ⟨rfl, yes2 ?_⟩
          refine ⟨_, rfl, b', rfl, ⟨_, SqT.of (e5 _ _ hb')⟩, fun D2 nD2 => ?_⟩
          refine lc_it (walk_tup (xs := rowV row)) (Upto H6 D2 row fun k => V.str (zs.getD k Str.empty)) (.zero nD2) (fun j H' _ u => SqT.of (u.sm _ _ (e5 _ _ hb'))) ?_ ?_
          · rintro j x H7 H8 hj u ⟨rfl, hx2⟩
            unfold rowV at hx2
            rw [List.getElem?_map] at hx2
            obtain ⟨k, hk, rfl⟩ := Option.map_eq_some_iff.mp hx2
            have hkn : k < zs.length := o.lt k (List.mem_of_getElem? hk)
            refine ⟨rfl, yes2 ?_⟩
            refine ⟨_, rfl, _, rfl, a, zs.map V.str, (k : Int), _, rfl, rfl, SqL.of ((Same.trans e3 (Same.trans e5 u.sm)) _ _ hS2), atI_nat ?_, u.next nD2 hk (Same.refl _) ?_⟩
            · rw [List.getElem?_map, List.getElem?_eq_getElem hkn, List.getD_eq_getElem?_getD, List.getElem?_eq_getElem hkn]
              rfl
            · have := o.len
              omega
          · intro H7 u
            have eD2 := u.all (rowV_len row)
            refine .inl ⟨D2, _, rfl, SqL.of eD2, fun p np => ?_⟩
            have ep := same_upd (o := HO.tup (row.map fun k => V.str (zs.getD k Str.empty))) np
            have hD7 := ep _ _ (u.sm _ _ hD)
            have hlot : ((bRows zs.length (i + 1)).map (pickAt zs))[j]? = some (row.map fun k => zs.getD k Str.empty) := by
              rw [List.getElem?_map, hrow]
              rfl
            refine ⟨vs2, hD7, Evl.sz_lt ?_, vs2 ++ [.ref p], Same.grow (Same.trans e5 (Same.trans u.sm ep)) nD, upd_same, ?_⟩
            · rw [at5.1, List.length_take, List.length_map]
              omega
            · refine Ats.updL ?_ hD7
              rw [take_succ hlot]
              refine ((at5.same u.sm).same ep).append (Ats.one ?_)
              rw [upd_same, List.map_map]
              rfl
        · rintro H5 ⟨vs2, e5, hD, at5⟩
          rw [List.take_of_length_le (by rw [List.length_map, at3.1]; exact Nat.le_refl _)] at at5
          have e35 := Same.trans e3 e5
          refine ext D vs2 H5 e35 ?_ hD ?_ at5
          · exact (ne_of_none (e3 _ _ hl2) nD).symm
          · rw [at5.1, List.length_map]
            omega
    · rintro σ' H1 ⟨v3, ws, rfl, bt, hl2, lw, at2⟩
      rw [lawLots_all] at at2
      exact ⟨_, rfl, q l ws H1 nl (fun b u e => bt _ _ (ne_of_none e nl) (e0 _ _ e)) hl2 at2⟩
end
end Bk

namespace Bk
open PySem PySem.Spec PyProof.Rows L2
def signsZ : Str := Str.ofString "zyxwvutsrqponmlkjihg"
def spareNames : List Str := signsZ.cps.toList.map fun c => Str.ofString "z" ++ sg c
theorem spare_nodup : spareNames.Nodup := by decide +kernel
theorem spare_len : spareNames.length = 20 := by decide +kernel
theorem spare_names : ∀ z ∈ spareNames, isNameS z = true := by decide +kernel
theorem fresh_spare (found : List Str) (hf : found.length < 20) : ∃ y r, spareNames.filter (fun x => decide (¬ x ∈ found)) = y :: r ∧ isNameS y = true ∧ y ∉ found := by
  cases e : spareNames.filter (fun x => decide (¬ x ∈ found)) with
  | nil =>
    have h : ∀ x ∈ spareNames, x ∈ found := by
      intro x hx
      by_cases h : x ∈ found
      · exact h
      · have : x ∈ spareNames.filter (fun x => decide (¬ x ∈ found)) := List.mem_filter.mpr ⟨hx, decide_eq_true h⟩
        rw [e] at this
        cases this
    have := pigeon spareNames found spare_nodup h
    rw [spare_len] at this
    omega
  | cons y r =>
    have hy : y ∈ spareNames.filter (fun x => decide (¬ x ∈ found)) := by rw [e]; exact List.mem_cons_self
    obtain ⟨h1, h2⟩ := List.mem_filter.mp hy
    exact ⟨y, r, rfl, spare_names y h1, of_decide_eq_true h2⟩
def spSpare (K : PySem.W.Frag) : Sp := fun vs H Q _ => ∃ (a : Addr) (zs : List Str), vs = [.ref a] ∧ (SqL K H a (zs.map V.str) ∨ SqT K H a (zs.map V.str)) ∧ zs.length < 20 ∧ ∀ (z : Str) (H' : Hp), Same H H' → isNameS z = true → z ∉ zs → Q (.str z) H'
section
variable {P : Program} {w : World} {K : PySem.W.Frag} {mg : Str → Option Value} {base : Heap}
theorem scSpare : FnScope ["_law_names_here", "_law_x", "_law_sign"] ["_law_names_here"] (defScope (topS 61)) := ⟨rfl, rfl, rfl, by decide +kernel, rfl, by decide +kernel, by decide +kernel⟩
theorem ok_spare (B : Bi mg) {f : Addr} {fd : FuncData} (F : Fun K "_law_spare" "_law_spare" (topS 61) f fd) : FnOk P w K mg base CX0 1 f fd ["_law_names_here"] (spSpare K) := by
  refine F.ok scSpare (fun vs H Q E h => ?_) (fun cdv A outer s H vs Q E hr h => ?_)
  · obtain ⟨a, zs, rfl, _⟩ := h
    rfl
  · obtain ⟨a, zs, rfl, hS, hl, q⟩ := h
    have nd := scSpare.nd
    have hu := hu_of hr
    refine ⟨_, (pss_one (ps_ret (pe_ix (kIxL K) (pe_lc (own := [("_law_x", 1)]) rfl nd (kPiL K (pe_lc (own := [("_law_sign", 2)]) rfl nd (pi_str pe_str) (blkOk_by (N := ["_law_names_here", "_law_x", "_law_sign"]) (sc := defScope (topS 61)) (by decide +kernel)) (fun _ _ _ _ _ => (pg_name (i := 2) nd rfl (Or.inl rfl))) (fun _ _ _ _ _ => pts_nil) (fun _ _ _ _ _ => (pe_op op_add_str pe_str (pv 2))))) (blkOk_by (N := ["_law_names_here", "_law_x", "_law_sign"]) (sc := defScope (topS 61)) (by decide +kernel)) (fun _ _ _ _ _ => (pg_name (i := 1) nd rfl (Or.inl rfl))) (fun _ _ _ _ _ => (pts_one (pt_cmpR (kNotIn K) (pv 1) (pv 0) rfl))) (fun _ _ _ _ _ => (pv 1))) pe_int (fun _ _ => rfl)))), ?_⟩
    obtain ⟨y, r, ey, hy, hny⟩ := fresh_spare zs hl
    refine ⟨_, rfl, fun D nD => lc_it walk_str (Upto H D signsZ.cps.toList fun ch => V.str (Str.ofString "z" ++ sg ch)) (.zero nD) (fun _ _ _ _ => trivial) ?_ ?_⟩
    · rintro j x H5 H6 hj u ⟨rfl, ch, hc, rfl⟩
      refine ⟨rfl, yes2 ?_⟩
      have hc' : signsZ.cps.toList[j]? = some ch := by rw [← hc]; simp [signsZ]
      exact ⟨_, rfl, _, _, rfl, rfl, (by show 2 ≤ sizeLine; decide), u.next nD hc' (Same.refl _) (by decide)⟩
    · intro H5 u
      have eD := u.all (by simp [signsZ])
      have eD : H5 D = some (.lst (spareNames.map V.str)) := by
        rw [eD]
        unfold spareNames
        rw [List.map_map]
        rfl
      have e5 := u.sm
      have hS5 : SqL K H5 a (zs.map V.str) ∨ SqT K H5 a (zs.map V.str) := hS.imp (fun z => Same.seq e5 z) fun z => Same.sqt e5 z
      refine ⟨D, rfl, ⟨_, SqL.of eD⟩, fun D2 nD2 => lc_it (walk_list (xs := spareNames.map V.str)) (UptoF H5 D2 spareNames V.str fun x => decide (¬ x ∈ zs)) (.zero nD2) (fun j H4 _ u => SqL.of (u.sm _ _ eD)) ?_ ?_⟩
      · rintro j x H6 H7 hj u ⟨rfl, hx⟩
        rw [List.getElem?_map] at hx
        obtain ⟨y0, hy0, rfl⟩ := Option.map_eq_some_iff.mp hx
        refine ⟨rfl, ?_⟩
        refine ⟨_, rfl, _, rfl, a, _, rfl, hS5.imp (fun z => Same.seq u.sm z) (fun z => Same.sqt u.sm z), rfl, flat_strs _, _, rfl, ?_⟩
        rw [inV_strs]
        by_cases hm : y0 ∈ zs
        · rw [decide_eq_true hm]
          refine iteF ?_
          exact u.no hy0 (by simp [hm]) (Same.refl _)
        · rw [decide_eq_false hm]
          refine iteT ?_
          exact ⟨_, rfl, u.yes nD2 hy0 (by simp [hm]) (Same.refl _) (by rw [spare_len]; decide)⟩
      · intro H6 u
        have eD2 := u.all (by rw [List.length_map])
        rw [ey] at eD2
        exact ⟨D2, _, 0, V.str y, rfl, rfl, SqL.of eD2, atI_nat (j := 0) rfl, q y H6 (Same.trans e5 u.sm) hy hny⟩
end
end Bk

namespace Bk
open PySem PySem.Spec PyProof.Rows L2
def spFLen (C : Addr) : Sp := fun vs H Q _ => ∃ (x : Addr) (zs : List Str) (ch : Bool), vs = [.ref x] ∧ FoldersAt C H x zs ch ∧ zs.length ≤ 100 ∧ Q (.int (zs.length : Int)) H
def spFEq (K : PySem.W.Frag) (C : Addr) : Sp := fun vs H Q _ => ∃ (x : Addr) (y : V) (t : Value) (zs : List Str) (ch r : Bool), vs = [.ref x, y] ∧ FoldersAt C H x zs ch ∧ (∀ z ∈ zs, isNameS z = true) ∧ TyX K H y t ∧
  ((PySem.W.kitOne K t (.ref C) = some false ∧ r = false) ∨ (PySem.W.kitOne K t (.ref C) = some true ∧ ∃ (b : Addr) (zs' : List Str) (ch' : Bool), y = .ref b ∧ FoldersAt C H b zs' ch' ∧ (∀ z ∈ zs', isNameS z = true) ∧ r = (decide (zs = zs') && decide (ch = ch')))) ∧ ∀ H', Same H H' → Q (.bl r) H'
theorem name_ok {z : Str} (h : isNameS z = true) : PyData.strOk z = true := by
  unfold isNameS at h
  simp only [Bool.and_eq_true] at h
  unfold PyData.strOk
  rw [← Array.all_toList]
  refine List.all_eq_true.mpr fun c m => ?_
  have := (letters_mem c).mp (of_decide_eq_true (List.all_eq_true.mp h.2 c m))
  exact decide_eq_true (by omega)
theorem look_chain (t pd : Addr) (ch : Bool) : (foldersF t pd ch).lookup ("chain" : Str) = some (.bl ch) := by
  have h : (("chain" : Str) == ("names" : Str)) = false := by decide +kernel
  show List.lookup ("chain" : Str) [(("names" : Str), V.ref t), ("chain", .bl ch), ("places", .ref pd)] = _
  simp [List.lookup, h]
theorem look_places (t pd : Addr) (ch : Bool) : (foldersF t pd ch).lookup ("places" : Str) = some (.ref pd) := by
  have h : (("places" : Str) == ("names" : Str)) = false := by decide +kernel
  have h2 : (("places" : Str) == ("chain" : Str)) = false := by decide +kernel
  show List.lookup ("places" : Str) [(("names" : Str), V.ref t), ("chain", .bl ch), ("places", .ref pd)] = _
  simp [List.lookup, h, h2]
theorem lay_strs : ∀ zs : List Str, (∀ z ∈ zs, isNameS z = true) → PyData.canLayAll0 (zs.map PyData.str) = true
  | [], _ => by simp [PyData.canLayAll0]
  | x :: r, h => by
    have := lay_strs r fun z m => h z (List.mem_cons_of_mem _ m)
    simp [PyData.canLayAll0, PyData.canLay0, this, name_ok (h x List.mem_cons_self)]
theorem shaped_strs (zs : List Str) (h : ∀ z ∈ zs, isNameS z = true) : SeqAt.shaped (.tuple (zs.map PyData.str)) = true := by
  have h1 := lay_strs zs h
  have h2 := depth_strs zs
  simp [SeqAt.shaped, PyData.canLay0, PyData.depth, h1, h2]
theorem eqvAll_strs : ∀ a b : List Str, PyData.eqvAll (a.map PyData.str) (b.map PyData.str) = decide (a = b)
  | [], [] => by simp [PyData.eqvAll]
  | [], _ :: _ => by simp [PyData.eqvAll]
  | _ :: _, [] => by simp [PyData.eqvAll]
  | x :: r, y :: t => by
    have ih := eqvAll_strs r t
    simp only [List.map_cons, PyData.eqvAll, PyData.eqv, ih]
    by_cases h1 : x = y
    · subst h1
      by_cases h2 : r = t
      · subst h2
        simp
      · simp [h2]
    · simp [h1]
theorem eqv_strs (a b : List Str) : PyData.eqv (.tuple (a.map PyData.str)) (.tuple (b.map PyData.str)) = decide (a = b) := by
  simp [PyData.eqv, eqvAll_strs]
section
variable {P : Program} {w : World} {K : PySem.W.Frag} {mg : Str → Option Value} {base : Heap}
theorem scFLen : FnScope ["self"] ["self"] (defScope (inClass (topS 28) 1)) := ⟨rfl, rfl, rfl, by decide +kernel, rfl, by decide +kernel, by decide +kernel⟩
theorem ok_flen (B : Bi mg) {C f0 f : Addr} {fd : FuncData} (T : FolT K mg C f0) (F : Fun K "__len__" "Folders.__len__" (inClass (topS 28) 1) f fd) : FnOk P w K mg base CX0 1 f fd ["self"] (spFLen C) := by
  refine F.ok scFLen (fun vs H Q E h => ?_) (fun cdv A outer s H vs Q E hr h => ?_)
  · obtain ⟨x, zs, ch, rfl, _⟩ := h
    rfl
  · obtain ⟨x, zs, ch, rfl, ⟨dx, t, pd, hx, ht, hp⟩, hl, q⟩ := h
    have nd := scFLen.nd
    refine ⟨_, (pss_one (ps_ret (pe_callB (kLen K) (by rfl) B.len PySem.boot_len (pa_cons (pe_fld (pv 0) rfl) pa_nil)))), ?_⟩
    exact ⟨_, rfl, x, C, dx, _, _, rfl, hx, T.cl, T.nN, look_names _ _ _, .ref t, zs.length, rfl, .inr ⟨_, SqT.of ht, by rw [List.length_map]⟩, q⟩
theorem scFEq : FnScope ["self", "other"] ["self", "other"] (defScope (inClass (topS 28) 3)) := ⟨rfl, rfl, rfl, by decide +kernel, rfl, by decide +kernel, by decide +kernel⟩
theorem ok_feq (B : Bi mg) {C_Folders f0 f : Addr} {fd : FuncData} (T : FolT K mg C_Folders f0) (F : Fun K "__eq__" "Folders.__eq__" (inClass (topS 28) 3) f fd) : FnOk P w K mg base CX0 1 f fd ["self", "other"] (spFEq K C_Folders) := by
  refine F.ok scFEq (fun vs H Q E h => ?_) (fun cdv A outer s H vs Q E hr h => ?_)
  · obtain ⟨x, y, t, zs, ch, r, rfl, _⟩ := h
    rfl
  · obtain ⟨x, y, ty, zs, ch, r, rfl, ⟨dx, t, pd, hx, ht, hp⟩, hl, tyx, hcase, q⟩ := h
    have nd := scFEq.nd
    have g_Folders := T.g
    refine ⟨_, (pss_one (ps_ret (pe_and (pe_callB (kIsi K) (by rfl) B.isinstance (by decide +kernel) (pa_cons (pv 1) (pa_cons (pe_glob (v := .ref _) (by rfl) g_Folders rfl) pa_nil))) (pe_and (pe_cmpR (kEqD K hr.units) (pe_fld (pv 0) rfl) (pe_fld (pv 1) rfl) (nomark _)) (pe_one (pe_cmpR op_eq (pe_fld (pv 0) rfl) (pe_fld (pv 1) rfl) (nomark _))))))), ?_⟩
    rcases hcase with ⟨hk, rfl⟩ | ⟨hk, b, zs', ch', rfl, ⟨dx', t', pd', hx', ht', hp'⟩, hl', rfl⟩
    · refine ⟨_, rfl, y, .ref C_Folders, ty, .ref C_Folders, false, rfl, .own _, tyx, hk, _, rfl, ?_⟩
      refine iteF ?_
      exact q H (Same.refl _)
    · refine ⟨_, rfl, .ref b, .ref C_Folders, ty, .ref C_Folders, true, rfl, .own _, tyx, hk, _, rfl, ?_⟩
      refine iteT ?_
      refine ⟨_, rfl, x, C_Folders, dx, _, _, rfl, hx, T.cl, T.nN, look_names _ _ _, _, rfl, b, C_Folders, dx', _, _, rfl, hx', T.cl, T.nN, look_names _ _ _, ?_⟩
      refine ⟨.tuple (zs.map PyData.str), .tuple (zs'.map PyData.str), .tup (SqT.of ht) (dp_strs zs), .tup (SqT.of ht') (dp_strs zs'), shaped_strs zs hl, shaped_strs zs' hl', _, rfl, ?_⟩
      rw [eqv_strs]
      by_cases e : zs = zs'
      · rw [decide_eq_true e]
        refine iteT ?_
        refine ⟨_, rfl, x, C_Folders, dx, _, _, rfl, hx, T.cl, T.nC, look_chain _ _ _, _, rfl, b, C_Folders, dx', _, _, rfl, hx', T.cl, T.nC, look_chain _ _ _, ?_⟩
        refine ⟨rfl, ?_⟩
        have := q H (Same.refl _)
        rw [decide_eq_true e, Bool.true_and] at this
        rw [show decide (V.bl ch = V.bl ch') = decide (ch = ch') by cases ch <;> cases ch' <;> rfl]
        exact this
      · rw [decide_eq_false e]
        refine iteF ?_
        have := q H (Same.refl _)
        rw [decide_eq_false e, Bool.false_and] at this
        exact this
end
end Bk

namespace Bk
open PySem PySem.Spec PyProof.Rows L2
/-! ### no lot stands twice -/
theorem nodup_inj {α : Type} {l : List α} (h : l.Nodup) {i j : Nat} (hi : i < l.length) (hj : j < l.length) (e : l[i] = l[j]) : i = j := by
  have p := List.pairwise_iff_getElem.mp h
  rcases Nat.lt_trichotomy i j with q | q | q
  · exact absurd e (p i j hi hj q)
  · exact q
  · exact absurd e.symm (p j i hj hi q)
theorem growB_nodup (n : Nat) (r : List Nat) : (growB n r).Nodup := by
  unfold growB
  unfold List.Nodup
  rw [List.pairwise_map]
  refine List.Pairwise.imp ?_ (List.nodup_range' (s := startB r) (n := n - startB r) (step := 1))
  intro a b hne e
  exact hne (by simpa using e)
theorem bRows_nodup (n : Nat) : ∀ k, (bRows n k).Nodup
  | 0 => List.nodup_cons.mpr ⟨(fun h => nomatch h), List.nodup_nil⟩
  | k + 1 => by
    show ((bRows n k).flatMap (growB n)).Nodup
    unfold List.Nodup
    rw [List.pairwise_flatMap]
    refine ⟨fun r _ => growB_nodup n r, List.Pairwise.imp ?_ (bRows_nodup n k)⟩
    intro a b hne x hx y hy e
    subst e
    obtain ⟨i, _, rfl⟩ := List.mem_map.mp hx
    obtain ⟨j, _, h⟩ := List.mem_map.mp hy
    exact hne (List.append_inj_left' h rfl).symm
theorem range_pair (n : Nat) : (List.range n).Pairwise (· ≠ ·) := List.nodup_range
theorem bAll_nodup (n : Nat) : (bAll n).Nodup := by
  unfold bAll
  unfold List.Nodup
  rw [List.pairwise_flatMap]
  refine ⟨fun k _ => bRows_nodup n (k + 1), List.Pairwise.imp ?_ (range_pair n)⟩
  intro a b hne x hx y hy e
  subst e
  have h1 := (bRows_ok (a + 1) x hx).len
  have h2 := (bRows_ok (b + 1) x hy).len
  exact hne (by omega)
theorem getD_inj {zs : List Str} (h : zs.Nodup) {i j : Nat} (hi : i < zs.length) (hj : j < zs.length) (e : zs.getD i Str.empty = zs.getD j Str.empty) : i = j := by
  rw [List.getD_eq_getElem?_getD, List.getD_eq_getElem?_getD, List.getElem?_eq_getElem hi, List.getElem?_eq_getElem hj] at e
  exact nodup_inj h hi hj e
theorem pick_inj {zs : List Str} (h : zs.Nodup) : ∀ {a b : List Nat}, (∀ x ∈ a, x < zs.length) → (∀ x ∈ b, x < zs.length) → pickAt zs a = pickAt zs b → a = b
  | [], [], _, _, _ => rfl
  | [], _ :: _, _, _, e => nomatch e
  | _ :: _, [], _, _, e => nomatch e
  | x :: r, y :: t, ha, hb, e => by
    have e : zs.getD x Str.empty :: pickAt zs r = zs.getD y Str.empty :: pickAt zs t := e
    injection e with e1 e2
    have h1 := getD_inj h (ha x List.mem_cons_self) (hb y List.mem_cons_self) e1
    have h2 := pick_inj h (fun z m => ha z (List.mem_cons_of_mem _ m)) (fun z m => hb z (List.mem_cons_of_mem _ m)) e2
    rw [h1, h2]
theorem bAll_lt {n : Nat} {r : List Nat} (h : r ∈ bAll n) : ∀ x ∈ r, x < n := by
  obtain ⟨k, _, hr⟩ := List.mem_flatMap.mp h
  exact (bRows_ok (k + 1) r hr).lt
theorem map_nodup {α β : Type} {f : α → β} : ∀ {l : List α}, l.Nodup → (∀ x ∈ l, ∀ y ∈ l, f x = f y → x = y) → (l.map f).Nodup
  | [], _, _ => List.nodup_nil
  | x :: r, h, hf => by
    obtain ⟨h1, h2⟩ := List.nodup_cons.mp h
    rw [List.map_cons, List.nodup_cons]
    refine ⟨fun m => ?_, map_nodup h2 fun a ha b hb => hf a (List.mem_cons_of_mem _ ha) b (List.mem_cons_of_mem _ hb)⟩
    obtain ⟨y, hy, e⟩ := List.mem_map.mp m
    have := hf y (List.mem_cons_of_mem _ hy) x List.mem_cons_self e
    exact h1 (this ▸ hy)
theorem lotsOf_nodup {zs : List Str} (h : zs.Nodup) : (lotsOf zs).Nodup := by
  show ((lotRows zs.length).map (pickAt zs)).Nodup
  rw [← bAll_eq]
  exact map_nodup (bAll_nodup _) fun x hx y hy e => pick_inj h (bAll_lt hx) (bAll_lt hy) e
theorem cut_head {zs : List Str} {i l : Nat} (h : i < zs.length) : ((zs.drop i).take (l + 1))[0]? = some zs[i] := by
  rw [List.getElem?_take_of_lt (Nat.succ_pos _), List.getElem?_drop, Nat.add_zero, List.getElem?_eq_getElem h]
theorem longRows_nodup {zs : List Str} (h : zs.Nodup) (l : Nat) : (longRows zs l).Nodup := by
  unfold longRows
  refine map_nodup List.nodup_range fun i hi j hj e => ?_
  have hi := List.mem_range.mp hi
  have hj := List.mem_range.mp hj
  have h1 := cut_head (zs := zs) (l := l) (i := i) (by omega)
  have h2 := cut_head (zs := zs) (l := l) (i := j) (by omega)
  rw [e, h2] at h1
  exact (nodup_inj h (by omega) (by omega) (Option.some.inj h1)).symm
theorem chainLots_nodup {zs : List Str} (h : zs.Nodup) : (chainLots zs).Nodup := by
  unfold chainLots
  unfold List.Nodup
  rw [List.pairwise_flatMap]
  refine ⟨fun l _ => longRows_nodup h l, List.Pairwise.imp ?_ (range_pair zs.length)⟩
  intro a b hne x hx y hy e
  subst e
  obtain ⟨i, hi, rfl⟩ := List.mem_map.mp hx
  obtain ⟨j, hj, e⟩ := List.mem_map.mp hy
  have hi := List.mem_range.mp hi
  have hj := List.mem_range.mp hj
  have := congrArg List.length e
  rw [List.length_take, List.length_take, List.length_drop, List.length_drop] at this
  exact hne (by omega)
theorem lots_nodup {ch : Bool} {zs : List Str} (h : zs.Nodup) : (lotsFor ch zs).Nodup := by
  cases ch with
  | true => exact chainLots_nodup h
  | false => exact lotsOf_nodup h
theorem inr_inj : ∀ {a b : List Str}, (a.map Sum.inr : List Key) = b.map Sum.inr → a = b
  | [], [], _ => rfl
  | [], _ :: _, h => nomatch h
  | _ :: _, [], h => nomatch h
  | x :: r, y :: t, h => by
    have h : (Sum.inr x : Key) :: r.map Sum.inr = Sum.inr y :: t.map Sum.inr := h
    injection h with h1 h2
    injection h1 with h1
    rw [h1, inr_inj h2]
theorem putK_fresh {kvs : List (List Key × V)} {k : List Key} {v : V} (h : k ∉ kvs.map (·.1)) : putK kvs k v = kvs ++ [(k, v)] := by
  unfold putK
  rw [if_neg]
  intro e
  obtain ⟨p, hp, hk⟩ := List.any_eq_true.mp e
  exact h (List.mem_map.mpr ⟨p, hp, of_decide_eq_true hk⟩)
theorem places_keys {ls : List (List Str)} (h : ls.Nodup) : ∀ i, i ≤ ls.length → (placesOf (ls.take i)).map (·.1) = (ls.take i).map fun l => (l.map Sum.inr : List Key)
  | 0, _ => rfl
  | i + 1, hi => by
    have ih := places_keys h i (by omega)
    have e : ls[i]? = some ls[i] := List.getElem?_eq_getElem (by omega)
    rw [places_snoc e, putK_fresh, List.map_append, ih, take_succ e, List.map_append]
    · rfl
    · rw [ih]
      intro m
      obtain ⟨l, hl, q⟩ := List.mem_map.mp m
      have q := inr_inj q
      subst q
      obtain ⟨j, hj, e2⟩ := List.mem_take_iff_getElem.mp hl
      have := nodup_inj h (by omega) (by omega) e2
      omega
theorem keys_ats {H : Hp} {kvs : List (List Key × V)} {bs : List Addr} {ls : List (List Str)} (h : IsKeys H kvs bs) (e : kvs.map (·.1) = ls.map fun l => (l.map Sum.inr : List Key)) : Ats H (fun l : List Str => l.map V.str) (bs.map V.ref) ls := by
  unfold IsKeys at h
  induction h generalizing ls with
  | nil =>
    cases ls with
    | nil => exact .nil
    | cons l r => cases e
  | @cons p b ps bs hp t ih =>
    cases ls with
    | nil => cases e
    | cons l r =>
      have e : p.1 :: ps.map (·.1) = (l.map Sum.inr : List Key) :: r.map fun l => (l.map Sum.inr : List Key) := e
      injection e with e1 e2
      have a := Ats.one (g := fun l : List Str => l.map V.str) (H := H) (b := b) (x := l) (by
        rw [hp, e1, List.map_map]
        rfl)
      exact a.append (ih e2)
/-- the keys of places are the lots, in their order -/
theorem places_ats {H : Hp} {ch : Bool} {zs : List Str} {bs : List Addr} (hn : zs.Nodup) (h : IsKeys H (placesOf (lotsFor ch zs)) bs) : Ats H (fun l : List Str => l.map V.str) (bs.map V.ref) (lotsFor ch zs) := by
  have := places_keys (lots_nodup (ch := ch) hn) (lotsFor ch zs).length (Nat.le_refl _)
  rw [List.take_length] at this
  exact keys_ats h this
end Bk

namespace Bk
open PySem PySem.Spec PyProof.Rows L2
def spFLots (C : Addr) : Sp := fun vs H Q _ => ∃ (x : Addr) (zs : List Str) (ch : Bool), vs = [.ref x] ∧ FoldersAt C H x zs ch ∧ zs.Nodup ∧ ∀ (D : Addr) (ws : List V) (H' : Hp), H D = none → Same H H' → H' D = some (.lst ws) → Ats H' (fun l : List Str => l.map V.str) ws (lotsFor ch zs) → Q (.ref D) H'
def spFIn (C : Addr) : Sp := fun vs H Q _ => ∃ (x : Addr) (y : V) (zs : List Str) (ch : Bool), vs = [.ref x, y] ∧ FoldersAt C H x zs ch ∧ flatV y = true ∧ ∀ H', Same H H' → Q (.bl (inV y (zs.map V.str))) H'
section
variable {P : Program} {w : World} {K : PySem.W.Frag} {mg : Str → Option Value} {base : Heap}
theorem scFLots : FnScope ["self"] ["self"] (defScope (inClass (topS 28) 4)) := ⟨rfl, rfl, rfl, by decide +kernel, rfl, by decide +kernel, by decide +kernel⟩
theorem ok_flots (B : Bi mg) {C f0 f : Addr} {fd : FuncData} (T : FolT K mg C f0) (F : Fun K "lots" "Folders.lots" (inClass (topS 28) 4) f fd) : FnOk P w K mg base CX0 1 f fd ["self"] (spFLots C) := by
  refine F.ok scFLots (fun vs H Q E h => ?_) (fun cdv A outer s H vs Q E hr h => ?_)
  · obtain ⟨x, zs, ch, rfl, _⟩ := h
    rfl
  · obtain ⟨x, zs, ch, rfl, ⟨dx, t, pd, hx, ht, hp⟩, hn, q⟩ := h
    have nd := scFLots.nd
    refine ⟨_, (pss_one (ps_ret (pe_callTy (call_list_dT rfl) (by rfl) B.list (by decide +kernel) (pa_cons (pe_fld (pv 0) rfl) pa_nil)))), ?_⟩
    refine ⟨_, rfl, x, C, dx, _, _, rfl, hx, T.cl, T.nP, look_places _ _ _, pd, _, rfl, .inl hp, fun D bs nD hk => ?_⟩
    have e := same_upd (o := HO.lst (bs.map V.ref)) nD
    exact q D _ _ nD e upd_same ((places_ats hn hk).same e)
theorem scFIn : FnScope ["self", "x"] ["self", "x"] (defScope (inClass (topS 28) 2)) := ⟨rfl, rfl, rfl, by decide +kernel, rfl, by decide +kernel, by decide +kernel⟩
theorem ok_fin (B : Bi mg) {C f0 f : Addr} {fd : FuncData} (T : FolT K mg C f0) (F : Fun K "__contains__" "Folders.__contains__" (inClass (topS 28) 2) f fd) : FnOk P w K mg base CX0 1 f fd ["self", "x"] (spFIn C) := by
  refine F.ok scFIn (fun vs H Q E h => ?_) (fun cdv A outer s H vs Q E hr h => ?_)
  · obtain ⟨x, y, zs, ch, rfl, _⟩ := h
    rfl
  · obtain ⟨x, y, zs, ch, rfl, ⟨dx, t, pd, hx, ht, hp⟩, hf, q⟩ := h
    have nd := scFIn.nd
    refine ⟨_, (pss_one (ps_ret (pe_cmpR (kIn K) (pv 1) (pe_fld (pv 0) rfl) rfl))), ?_⟩
    exact ⟨_, rfl, _, rfl, x, C, dx, _, _, rfl, hx, T.cl, T.nN, look_names _ _ _, t, _, rfl, .inr (SqT.of ht), hf, flat_strs _, q H (Same.refl _)⟩
end
end Bk

/-! in of a tuple of texts for lists, tuples and dicts: never -/
namespace Bk
open PySem PySem.Spec PyProof.Rows L2
open AutoSeq1 (wpAny_loadPart')
open MeetsSeq MeetsSeq2 MeetsSeq3 SeqRoads2
theorem str_eq_dict (b : Str) (u : Tok) (l : Addr) (c : Value) (es : Array DictEntry) (ep : Nat) (dd : Option Addr) (sl : Array (Option Value)) :
    Meets (Builtin.«str.__eq__» ⟨[.str b u, .ref l], []⟩) (fun _ R s => s.heap.get? l = some { cls := c, dict := dd, data := .dict es ep, slots := sl } ∧ R (.ok (.ret .notImplemented)) s) :=
  .of_wp fun prog w A R s h => by obtain ⟨hp, g, d, tk, os⟩ := s; obtain ⟨hl, h⟩ := h; wp_walk using wpAny_loadPart' hl, wpAny_load hl; exact ⟨_, rfl, h⟩
theorem dict_eq_str (l : Addr) (es : Array DictEntry) (ep : Nat) (dd : Option Addr) (sl : Array (Option Value)) (b : Str) (u : Tok) :
    Meets (Builtin.«dict.__eq__» ⟨[.ref l, .str b u], []⟩) (fun _ R s => s.heap.get? l = some { cls := .type "dict", dict := dd, data := .dict es ep, slots := sl } ∧ R (.ok (.ret .notImplemented)) s) :=
  .of_wp fun prog w A R s h => by obtain ⟨hp, g, d, tk, os⟩ := s; obtain ⟨hl, h⟩ := h; have f1 := F.sub_str_dict; wp_walk using wpAny_loadPart' hl; exact ⟨_, rfl, h⟩
section
variable {A : Around} {s : Shared}
theorem at_str_dict {l : Addr} {o : Obj} {es : Array DictEntry} {ep : Nat} (b : Str) (u : Tok) (hl : s.heap.get? l = some o) (hc : o.cls = .type "dict") (hd : o.data = .dict es ep) (hu : A.units < cLine) : SeqAt.EqAt A s (.str b u) (.ref l) false := fun prog w E Q h => by
  obtain ⟨cls, dd, data, sl⟩ := o
  simp only at hc hd
  subst hc hd
  unfold eqBool
  refine wpAny_holding ?_
  refine wpAny_ite_split (fun hab => absurd (eq_of_beq hab) nofun) (fun _ => ?_)
  refine wpAny_bind (SeqAt.rc_eq_decline_or (k := false) (typeIs_str s b u) ⟨_, hl, rfl⟩ (by decide) F.sub_dict_str F.slot_str_eq F.slot_dict_eq_refl
    (fun _ hq => call_meets F.slot_str_eq (typeIs_str s b u) F.entry_str_eq (F.args_str_eq_2 _ _) (str_eq_dict b u l (.type "dict") es ep dd sl) ⟨hl, hq⟩)
    (fun _ hq => call_meets F.slot_dict_eq_refl ⟨_, hl, rfl⟩ F.entry_dict_eq (F.args_dict_eq_2 _ _) (dict_eq_str l es ep dd sl b u) ⟨hl, hq⟩)
    (fun _ hq => wpAny_of_eq (rfl : isSame (.str b u) (.ref l) = pure false) hq) (.inr hu) (wpAny_truthy_bool h))
end
/-- lists, tuples, dicts that the heap tracks -/
inductive Box (H : Hp) : V → Prop where
  | lst {l : Addr} {xs : List V} (h : H l = some (.lst xs)) : Box H (.ref l)
  | tup {l : Addr} {xs : List V} (h : H l = some (.tup xs)) : Box H (.ref l)
  | dK {l : Addr} {kvs : List (Key × V)} (h : H l = some (.dK kvs)) : Box H (.ref l)
section
variable {X : Cx}
theorem at_str_box {A : Around} {pins : List (Addr × Obj)} {σ : L2.St} {H : Hp} {s : Shared} {x : V} {v : Value} (I : Inv X pins σ H s) (bx : Box H x) (rx : RelV x v) (hu : A.units < cLine) (b : Str) (t : Tok) : SeqAt.EqAt A s (.str b t) v false := by
  cases bx with
  | @lst l xs h =>
    cases rx
    obtain ⟨_, its, k, _, h1⟩ := (show ObjOk X.prog X.w H s.heap l (.lst xs) from I.hok l _ h)
    exact SeqAt.EqAt.str_list b t (items := its.toArray) ⟨_, h1, rfl, _, rfl⟩ hu
  | @tup l xs h =>
    cases rx
    obtain ⟨_, its, _, p⟩ := (show ObjOk X.prog X.w H s.heap l (.tup xs) from I.hok l _ h)
    exact SeqAt.EqAt.str_tuple b t p hu
  | @dK l kvs h =>
    cases rx
    obtain ⟨_, _, vs, _, o, es, ep, h1, h2, h3, _⟩ := (show ObjOk X.prog X.w H s.heap l (.dK kvs) from I.hok l _ h)
    exact at_str_dict b t h1 h2.1 h3 hu
def rInBox : R2 := fun x y H Q => ∃ (p : Addr) (zs : List Str), y = .ref p ∧ H p = some (.tup (zs.map V.str)) ∧ Box H x ∧ Q (.bl false) H
theorem op_inBox (hu : X.A.units + 1 < cLine) : OpR X (compareOp .In) rInBox := by
  intro pins s σ H x y v u Q I rx ry h
  obtain ⟨p, zs, rfl, hp, bx, q⟩ := h
  cases ry
  obtain ⟨_, its, rv, pl⟩ := (show ObjOk X.prog X.w H s.heap p (.tup (zs.map V.str)) from I.hok p _ hp)
  refine SeqAt.in_tupleAt (fun _ => false) pl (fun w hw => ?_) ⟨.bl false, H, I, ?_, q⟩
  · obtain ⟨z, mz, t, rfl⟩ := strs_vals rv w (by simpa using hw)
    exact at_str_box I bx rx (A := X.A.in1) (by show X.A.in1.units < cLine; exact hu) z t
  · have : its.toArray.any (fun _ => false) = false := by simp
    rw [this]
    rfl
end
end Bk

namespace Bk
open PySem PySem.Spec PyProof.Rows L2
/-- what a turn of the law of made folders keeps: the stream, the list of names, the folders made of them -/
structure Grd (C : Addr) (H : Hp) (st c nl x : Addr) (n : Nat) (zs : List Str) (ch : Bool) : Prop where
  S : Strm H st c n
  nm : H nl = some (.lst (zs.map V.str))
  fo : FoldersAt C H x zs ch
section
variable {C st c nl x : Addr} {H H' : Hp} {n : Nat} {zs : List Str} {ch : Bool}
theorem FoldersAt.same {C x : Addr} {H H' : Hp} {zs : List Str} {ch : Bool} (h : FoldersAt C H x zs ch) (e : Same H H') : FoldersAt C H' x zs ch := by
  obtain ⟨dx, t, pd, h1, h2, h3⟩ := h
  exact ⟨dx, t, pd, e _ _ h1, e _ _ h2, e _ _ h3⟩
theorem FoldersAt.updL {p : Addr} {l : List V} {o : HO} (h : FoldersAt C H x zs ch) (hp : H p = some (.lst l)) : FoldersAt C (upd H p o) x zs ch := by
  obtain ⟨dx, t, pd, h1, h2, h3⟩ := h
  refine ⟨dx, t, pd, ?_, ?_, ?_⟩
  · rw [upd_ne (ne_of h1 hp (fun z => nomatch z))]
    exact h1
  · rw [upd_ne (ne_of h2 hp (fun z => nomatch z))]
    exact h2
  · rw [upd_ne (ne_of h3 hp (fun z => nomatch z))]
    exact h3
theorem Grd.same (g : Grd C H st c nl x n zs ch) (e : Same H H') : Grd C H' st c nl x n zs ch := ⟨g.S.same e, e _ _ g.nm, g.fo.same e⟩
theorem Grd.updL {p : Addr} {l : List V} {o : HO} (g : Grd C H st c nl x n zs ch) (hp : H p = some (.lst l)) (h1 : p ≠ st) (h2 : p ≠ c) (h3 : p ≠ nl) : Grd C (upd H p o) st c nl x n zs ch :=
  ⟨g.S.upd h1 h2, by rw [upd_ne h3.symm]; exact g.nm, g.fo.updL hp⟩
end
theorem wrong_ok {zs : List Str} {most : Nat} (h0 : zs ≠ []) (hl : zs.length ≤ most) (hn : ∀ z ∈ zs, isNameS z = true) (nd : zs.Nodup) : wrongOf (some (zs.map V.str)) most = none := by
  have all : ∀ k i, zs.length - i = k → wrongFrom (zs.map V.str) most i ((zs.map V.str).drop i) = none := by
    intro k
    induction k with
    | zero => exact fun i e => wrong_end (by rw [List.length_map]; omega)
    | succ k ih =>
      intro i e
      have hi : i < zs.length := by omega
      have hx : (zs.map V.str)[i]? = some (.str zs[i]) := by rw [List.getElem?_map, List.getElem?_eq_getElem hi]; rfl
      rw [wrong_step hx, if_neg, ih (i + 1) (by omega)]
      have h1 := hn zs[i] (List.getElem_mem hi)
      have h2 : inV (.str zs[i]) ((zs.map V.str).take i) = false := by
        rw [← List.map_take, inV_strs]
        refine decide_eq_false fun m => ?_
        obtain ⟨j, hj, e2⟩ := List.mem_take_iff_getElem.mp m
        have := nodup_inj nd (by omega) hi e2
        omega
      have h3 : ¬ i = most := by omega
      simp [badAt, isNameB, h1, h2, h3]
  show firstWrong (zs.map V.str) most = none
  unfold firstWrong
  rw [if_neg (fun e => h0 (List.map_eq_nil_iff.mp e))]
  exact all _ 0 rfl
theorem look_lots (t pd : Addr) (ch : Bool) : (foldersF t pd ch).lookup ("lots" : Str) = none := by
  have h : (("lots" : Str) == ("names" : Str)) = false := by decide +kernel
  have h2 : (("lots" : Str) == ("chain" : Str)) = false := by decide +kernel
  have h3 : (("lots" : Str) == ("places" : Str)) = false := by decide +kernel
  show List.lookup ("lots" : Str) [(("names" : Str), V.ref t), ("chain", .bl ch), ("places", .ref pd)] = _
  simp [List.lookup, h, h2, h3]
theorem lot_len {ch : Bool} {zs l : List Str} (m : l ∈ lotsFor ch zs) : l.length ≤ zs.length := by
  cases ch with
  | true =>
    obtain ⟨k, _, hl⟩ := List.mem_flatMap.mp (show l ∈ (List.range zs.length).flatMap (longRows zs) from m)
    obtain ⟨j, _, rfl⟩ := List.mem_map.mp hl
    rw [List.length_take, List.length_drop]
    omega
  | false =>
    obtain ⟨r, hr, rfl⟩ := List.mem_map.mp (show l ∈ (lotRows zs.length).map _ from m)
    obtain ⟨k, o⟩ := lotRows_ok r hr
    have h1 := o.len
    have h2 := o.last
    have h3 := o.lt_last
    rw [List.length_map]
    omega
/-! ### lots as data -/
section
variable {K : PySem.W.Frag} {H : Hp}
def dLots (ls : List (List Str)) : PyData := .list (ls.map fun l => .tuple (l.map PyData.str))
theorem dp_lots {ws : List V} {ls : List (List Str)} (h : Ats H (fun l : List Str => l.map V.str) ws ls) : DpAll K H ws (ls.map fun l => .tuple (l.map PyData.str)) := by
  induction ls generalizing ws with
  | nil =>
    have : ws = [] := List.length_eq_zero_iff.mp h.1
    subst this
    exact .nil
  | cons l r ih =>
    cases ws with
    | nil => exact absurd h.1 (by simp)
    | cons w ws =>
      obtain ⟨b, rfl, hb⟩ := h.2 0 w l rfl rfl
      refine .cons (.tup (SqT.of hb) (dp_strs l)) (ih ⟨by simpa using h.1, fun i v x h1 h2 => h.2 (i + 1) v x (by simpa using h1) (by simpa using h2)⟩)
theorem depth_lots : ∀ ls : List (List Str), PyData.depthAll (ls.map fun l => PyData.tuple (l.map PyData.str)) ≤ 1
  | [] => by simp [PyData.depthAll]
  | l :: r => by
    have := depth_lots r
    have h := depth_strs l
    simp [PyData.depthAll, PyData.depth, h]
    omega
theorem wide_lots {m : Nat} : ∀ ls : List (List Str), (∀ l ∈ ls, l.length ≤ m) → wideAll (ls.map fun l => PyData.tuple (l.map PyData.str)) ≤ m
  | [], _ => by simp [wideAll]
  | l :: r, h => by
    have := wide_lots r fun x hx => h x (List.mem_cons_of_mem _ hx)
    have h1 := wide_strs l
    have h2 := h l List.mem_cons_self
    simp [wideAll, wide, h1]
    omega
def dTold (zs : List Str) (ch : Bool) : PyData := .list [.tuple (zs.map PyData.str), .bool ch, .int (zs.length : Int)]
theorem dp_told {q t : Addr} {zs : List Str} {ch : Bool} (hq : H q = some (.lst [.ref t, .bl ch, .int (zs.length : Int)])) (ht : H t = some (.tup (zs.map V.str))) : Dp K H (.ref q) (dTold zs ch) :=
  .lst (SqL.of hq) (.cons (.tup (SqT.of ht) (dp_strs zs)) (.cons (.bl ch) (.cons (.int _) .nil)))
end
theorem told_depth (zs : List Str) (ch : Bool) : (dTold zs ch).depth ≤ 3 := by
  have := depth_strs zs
  simp [dTold, PyData.depth, PyData.depthAll, this]
theorem told_wide {zs : List Str} {ch : Bool} (h : zs.length ≤ 100) : wide (dTold zs ch) ≤ 90000 := by
  have := wide_strs zs
  simp [dTold, wide, wideAll, this]
  omega
theorem lots_depth (ls : List (List Str)) : (dLots ls).depth ≤ 3 := by
  have := depth_lots ls
  simp [dLots, PyData.depth]
  omega
theorem lots_wide {ls : List (List Str)} (h1 : ls.length ≤ 2000) (h2 : ∀ l ∈ ls, l.length ≤ 100) : wide (dLots ls) ≤ 90000 := by
  have := wide_lots ls h2
  simp [dLots, wide]
  omega
/-! ### rows of truth values -/
theorem rep_bools (n m : Nat) : (List.replicate (n : Int).toNat [V.bl true]).flatten ++ (List.replicate (m : Int).toNat [V.bl false]).flatten = (List.range (n + m)).map fun j => V.bl (decide (j < n)) := by
  rw [Int.toNat_natCast, Int.toNat_natCast, List.flatten_replicate_singleton, List.flatten_replicate_singleton]
  refine List.ext_getElem (by simp) fun i h1 h2 => ?_
  by_cases h : i < n
  · rw [List.getElem_append_left (by simpa using h)]
    simp [h]
  · rw [List.getElem_append_right (by simpa using h)]
    simp [h]
theorem dp_bools {K : PySem.W.Frag} {H : Hp} {α : Type} (f : α → Bool) : ∀ l : List α, DpAll K H (l.map fun j => V.bl (f j)) (l.map fun j => PyData.bool (f j))
  | [] => .nil
  | x :: r => .cons (.bl _) (dp_bools f r)
def dBools {α : Type} (f : α → Bool) (l : List α) : PyData := .list (l.map fun j => PyData.bool (f j))
theorem bools_depth {α : Type} (f : α → Bool) (l : List α) : (dBools f l).depth ≤ 3 := by
  have h : ∀ l : List α, PyData.depthAll (l.map fun j => PyData.bool (f j)) = 0 := by
    intro l
    induction l with
    | nil => simp [PyData.depthAll]
    | cons x r ih => simp [PyData.depthAll, PyData.depth, ih]
  have := h l
  simp [dBools, PyData.depth, this]
theorem bools_wide {α : Type} (f : α → Bool) {l : List α} (hl : l.length ≤ 100) : wide (dBools f l) ≤ 90000 := by
  have h : ∀ l : List α, wideAll (l.map fun j => PyData.bool (f j)) = 0 := by
    intro l
    induction l with
    | nil => simp [wideAll]
    | cons x r ih => simp [wideAll, wide, ih]
  have := h l
  simp [dBools, wide, this]
  omega
theorem inV_odd {y : V} (h : ∀ s, y ≠ .str s) : ∀ zs : List Str, inV y (zs.map V.str) = false
  | [] => rfl
  | x :: r => by
    have ih := inV_odd h r
    unfold inV at ih ⊢
    rw [List.map_cons, List.any_cons, ih, Bool.or_false]
    cases y <;> first | rfl | exact absurd rfl (h _)
end Bk

namespace Bk
open PySem PySem.Spec PyProof.Rows L2
def spFInA (C : Addr) : Sp := fun vs H Q _ => ∃ (x : Addr) (y : V) (zs : List Str) (ch r : Bool), vs = [.ref x, y] ∧ FoldersAt C H x zs ch ∧
  ((flatV y = true ∧ r = inV y (zs.map V.str)) ∨ (Box H y ∧ r = false) ∨ (∃ (b : Addr) (zs' : List Str) (ch' : Bool), y = .ref b ∧ FoldersAt C H b zs' ch' ∧ (∀ z ∈ zs', isNameS z = true) ∧ r = false)) ∧ ∀ H', Same H H' → Q (.bl r) H'
section
variable {P : Program} {w : World} {K : PySem.W.Frag} {mg : Str → Option Value} {base : Heap}
theorem OpR.or3 {X : Cx} {f : Value → Value → Sem Value} {r1 r2 r3 : R2} (h1 : OpR X f r1) (h2 : OpR X f r2) (h3 : OpR X f r3) : OpR X f (fun x y H Q => r1 x y H Q ∨ r2 x y H Q ∨ r3 x y H Q) := by
  intro pins s σ H x y v u Q I rx ry h
  rcases h with h | h | h
  · exact h1 pins s σ H x y v u Q I rx ry h
  · exact h2 pins s σ H x y v u Q I rx ry h
  · exact h3 pins s σ H x y v u Q I rx ry h
theorem ok_finA (B : Bi mg) {C f0 fE f : Addr} {fdE fd : FuncData} (T : FolT K mg C f0) (GE : FnOk P w K mg base CX0 1 fE fdE ["self", "other"] (spFEq K C)) (bE : Binds K fdE ["self", "other"] []) (mE : Own K C "__eq__" fE) (nS : PySem.W.subIn K (.ref C) (.type "str") = some false)
    (kS : PySem.W.kitOne K (.type "str") (.ref C) = some false) (F : Fun K "__contains__" "Folders.__contains__" (inClass (topS 28) 2) f fd) : FnOk P w K mg base CX0 3 f fd ["self", "x"] (spFInA C) := by
  refine F.ok scFIn (fun vs H Q E h => ?_) (fun cdv A outer s H vs Q E hr h => ?_)
  · obtain ⟨x, y, zs, ch, r, rfl, _⟩ := h
    rfl
  · obtain ⟨x, y, zs, ch, r, rfl, ⟨dx, t, pd, hx, ht, hp⟩, hc, q⟩ := h
    have nd := scFIn.nd
    have hu := hu_of hr
    refine ⟨_, (pss_one (ps_ret (pe_cmpR (OpR.or3 (kIn K) (op_inBox hu) (op_inOdd GE bE pass0 hr mE)) (pv 1) (pe_fld (pv 0) rfl) rfl))), ?_⟩
    refine ⟨_, rfl, _, rfl, x, C, dx, _, _, rfl, hx, T.cl, T.nN, look_names _ _ _, ?_⟩
    rcases hc with ⟨hf, rfl⟩ | ⟨bx, rfl⟩ | ⟨b, zs', ch', rfl, FA, hn, rfl⟩
    · exact .inl ⟨t, _, rfl, .inr (SqT.of ht), hf, flat_strs _, q H (Same.refl _)⟩
    · exact .inr (.inl ⟨t, zs, rfl, ht, bx, q H (Same.refl _)⟩)
    · have FA0 := FA
      obtain ⟨dx', t', pd', hx', _, _⟩ := FA0
      exact .inr (.inr ⟨b, dx', t, _, zs, rfl, rfl, hx', ht, nS, fun z _ H' e => ⟨b, .str z, .type "str", zs', ch', false, rfl, FA.same e, hn, .base (.str z), .inl ⟨kS, rfl⟩, fun H'' e' => ⟨false, rfl, false, rfl, rfl, Same.trans e e'⟩⟩, fun H' e => q H' e⟩)
end
end Bk

namespace Bk
open PySem PySem.Spec PyProof.Rows L2
theorem cut_upto (xs : List V) (k : Nat) : cutV xs none (some (k : Int)) = xs.take k := by
  unfold cutV
  rw [HT.sIx_none, HT.sIx_nat, List.drop_zero, Nat.sub_zero]
  by_cases h : k ≤ xs.length
  · rw [Nat.min_eq_left h]
  · rw [Nat.min_eq_right (by omega), List.take_length, List.take_of_length_le (by omega)]
theorem cut_from (xs : List V) (k : Nat) : cutV xs (some (k : Int)) none = xs.drop k := by
  unfold cutV
  rw [HT.sIx_none, HT.sIx_nat]
  by_cases h : k ≤ xs.length
  · rw [Nat.min_eq_left h, List.take_of_length_le (by rw [List.length_drop]; exact Nat.le_refl _)]
  · rw [Nat.min_eq_right (by omega), Nat.sub_self, List.take_zero, List.drop_of_length_le (by omega)]
theorem cut_last (xs : List V) (k : Nat) (hk : 0 < k) : cutV xs (some (-(k : Int))) none = xs.drop (xs.length - k) := by
  have e : HT.sIx xs.length 0 (some (-(k : Int))) = xs.length - k := by
    show (if -(k : Int) < 0 then (-(k : Int) + (xs.length : Int)).toNat else min (-(k : Int)).toNat xs.length) = _
    rw [if_pos (by omega)]
    omega
  unfold cutV
  rw [HT.sIx_none, e, List.take_of_length_le (by rw [List.length_drop]; omega)]
theorem cut_but (xs : List V) (k : Nat) (hk : 0 < k) : cutV xs none (some (-(k : Int))) = xs.take (xs.length - k) := by
  have e : HT.sIx xs.length xs.length (some (-(k : Int))) = xs.length - k := by
    show (if -(k : Int) < 0 then (-(k : Int) + (xs.length : Int)).toNat else min (-(k : Int)).toNat xs.length) = _
    rw [if_pos (by omega)]
    omega
  unfold cutV
  rw [HT.sIx_none, e, List.drop_zero, Nat.sub_zero]
/-- names that can be made to folders -/
structure Fit (zs : List Str) (m : Nat) : Prop where
  ne : zs ≠ []
  len : zs.length ≤ m
  nm : ∀ z ∈ zs, isNameS z = true
  nd : zs.Nodup
section
variable {zs : List Str} {m : Nat} {s : Str}
theorem Fit.right (h : Fit zs m) : wrongOf (some (zs.map V.str)) m = none := wrong_ok h.ne h.len h.nm h.nd
theorem Fit.pos (h : Fit zs m) : 0 < zs.length := List.length_pos_iff.mpr h.ne
theorem Fit.snoc (h : Fit zs m) (hs : isNameS s = true) (hn : s ∉ zs) : (∀ z ∈ zs ++ [s], isNameS z = true) ∧ (zs ++ [s]).Nodup := by
  refine ⟨fun z mz => ?_, ?_⟩
  · rcases List.mem_append.mp mz with mz | mz
    · exact h.nm z mz
    · rw [List.mem_singleton.mp mz]
      exact hs
  · rw [List.nodup_append]
    exact ⟨h.nd, (by simp), fun a ha b hb e => hn (by rw [List.mem_singleton.mp hb] at e; rw [← e]; exact ha)⟩
theorem Fit.take5 (h : Fit zs m) (m' : Nat) (hm : 5 ≤ m') : Fit (zs.take 5) m' :=
  ⟨fun e => by
    have h1 := congrArg List.length e
    rw [List.length_take, List.length_nil] at h1
    have h2 := h.pos
    omega, by rw [List.length_take]; omega, fun z mz => h.nm z (List.mem_of_mem_take mz), h.nd.sublist (List.take_sublist 5 zs)⟩
theorem Fit.tail5 (h : Fit zs m) (hm : 5 ≤ m) (hs : isNameS s = true) (hn : s ∉ zs) : Fit (((zs ++ [s]).drop 1).drop (zs.length - 5)) m ∧ s ∈ ((zs ++ [s]).drop 1).drop (zs.length - 5) := by
  have hp := h.pos
  obtain ⟨h1, h2⟩ := h.snoc hs hn
  have hm' : s ∈ ((zs ++ [s]).drop 1).drop (zs.length - 5) := by
    rw [List.drop_drop, List.drop_append_of_le_length (by omega)]
    exact List.mem_append_right _ List.mem_cons_self
  refine ⟨⟨(fun e => by rw [e] at hm'; exact nomatch hm'), ?_, fun z mz => h1 z (List.mem_of_mem_drop (List.mem_of_mem_drop mz)), h2.sublist ((List.drop_sublist _ _).trans (List.drop_sublist _ _))⟩, hm'⟩
  rw [List.length_drop, List.length_drop, List.length_append]
  simp
  omega
theorem Fit.last (h : Fit zs m) (hs : isNameS s = true) (hn : s ∉ zs) : Fit (zs.take (zs.length - 1) ++ [s]) m := by
  have hp := h.pos
  have hl := h.len
  refine ⟨by simp, ?_, fun z mz => ?_, ?_⟩
  · rw [List.length_append, List.length_take]
    simp
    omega
  · rcases List.mem_append.mp mz with mz | mz
    · exact h.nm z (List.mem_of_mem_take mz)
    · rw [List.mem_singleton.mp mz]
      exact hs
  · rw [List.nodup_append]
    exact ⟨h.nd.sublist (List.take_sublist _ _), (by simp), fun a ha b hb e => hn (by rw [List.mem_singleton.mp hb] at e; rw [← e]; exact List.mem_of_mem_take ha)⟩
theorem Fit.rev (h : Fit zs m) : Fit zs.reverse m := ⟨by simp [h.ne], by rw [List.length_reverse]; exact h.len, fun z mz => h.nm z (List.mem_reverse.mp mz), (by unfold List.Nodup; rw [List.pairwise_reverse]; exact List.Pairwise.imp (fun q e => q e.symm) h.nd)⟩
theorem rev_other (h : zs.Nodup) (hl : 1 < zs.length) : zs ≠ zs.reverse := fun e => by
  have h0 : zs[0]? = zs.reverse[0]? := by rw [← e]
  rw [List.getElem?_reverse (by omega), List.getElem?_eq_getElem (by omega), List.getElem?_eq_getElem (by omega)] at h0
  have := nodup_inj h (by omega) (by omega) (Option.some.inj h0)
  omega
end
/-- folders that are not those of zs and ch -/
def Oth (C : Addr) (zs : List Str) (ch : Bool) (H : Hp) (v : V) : Prop := ∃ (b : Addr) (zs' : List Str) (ch' : Bool), v = .ref b ∧ FoldersAt C H b zs' ch' ∧ (∀ z ∈ zs', isNameS z = true) ∧ (decide (zs = zs') && decide (ch = ch')) = false
theorem Oth.same {C : Addr} {zs : List Str} {ch : Bool} {H H' : Hp} {v : V} (h : Oth C zs ch H v) (e : Same H H') : Oth C zs ch H' v := by
  obtain ⟨b, zs', ch', h1, h2, h3, h4⟩ := h
  exact ⟨b, zs', ch', h1, h2.same e, h3, h4⟩
theorem Oth.updL {C : Addr} {zs : List Str} {ch : Bool} {H : Hp} {v : V} {p : Addr} {l : List V} {o : HO} (h : Oth C zs ch H v) (hp : H p = some (.lst l)) : Oth C zs ch (upd H p o) v := by
  obtain ⟨b, zs', ch', h1, h2, h3, h4⟩ := h
  exact ⟨b, zs', ch', h1, h2.updL hp, h3, h4⟩
end Bk

/-! dict(pairs), dict(zip(xs, ys)), the keys tuples of ints and texts -/
namespace Bk
open PySem PySem.Spec PyProof.Rows L2
/-- later pairs win, the place is the first one's -/
def mergeT (kvs more : List (List Key × V)) : List (List Key × V) := more.foldl (fun acc kv => putK acc kv.1 kv.2) kvs
theorem mergeT_len : ∀ (more kvs : List (List Key × V)), (mergeT kvs more).length ≤ kvs.length + more.length
  | [], kvs => Nat.le_refl _
  | p :: r, kvs => by
    have h1 := mergeT_len r (putK kvs p.1 p.2)
    have h2 := length_putK kvs p.1 p.2
    show (mergeT (putK kvs p.1 p.2) r).length ≤ _
    rw [List.length_cons]
    omega
theorem KT.merge {H : Hp} : ∀ (more : List (List Key × V)) (ps : List (List Key × Addr × Value)) (kvs : List (List Key × V)) (xs : List (List Key × Addr × Value)), KT H more ps → KT H kvs xs → KT H (mergeT kvs more) (storedAllH xs ps)
  | [], _, _, _, .nil, h => h
  | p :: more, q :: ps, kvs, xs, .cons e t, h => by
    obtain ⟨k, b, u⟩ := q
    obtain ⟨e1, e2, e3⟩ := e
    have e1 : p.1 = k := e1
    subst e1
    show KT H (mergeT (putK kvs p.1 p.2) more) (storedAllH (storedH xs p.1 b u) ps)
    exact KT.merge more ps _ _ t (h.put p.1 e2 e3)
section
variable {X : Cx}
theorem dt_made {pins : List (Addr × Obj)} {σ : L2.St} {H : Hp} {s : Shared} {kvs : List (List Key × V)} {prs : List (List Key × Addr × Value)} {h' : Heap} {tk : Nat} {d : Addr} {Q : VK} (I : Inv X pins σ H s) (kt : KT H kvs prs) (hz : kvs.length ≤ sizeLine) (hsd : s.heap.objs.size ≤ d)
    (hd : h'.DictOfH (tupleKind (mixKind X.prog X.w)) d (storedAllH [] prs)) (k : ∀ b o, s.heap.get? b = some o → h'.get? b = some o) (q : ∀ p, H p = none → Q (.ref p) (upd H p (.dT (mergeT [] kvs)))) :
    EP X pins σ Q (.ref d) { s with heap := h', toks := tk } := by
  have hm : (d == sysModules) = false := beq_eq_false_iff_ne.mpr (Nat.ne_of_gt (Nat.lt_of_lt_of_le I.big hsd))
  have hn := I.hok.fresh hsd
  obtain ⟨o, es, ep, h1, h2, h3, h4, _, h5⟩ := hd
  have hlen := mergeT_len kvs []
  rw [List.length_nil, Nat.zero_add] at hlen
  refine ⟨.ref d, upd H d (.dT (mergeT [] kvs)), I.laid (t' := tk) k hsd ?_, rfl, q _ hn⟩
  refine ⟨Nat.le_trans hlen hz, hm, storedAllH [] prs, (KT.merge _ _ _ _ kt .nil).keeps fun c ys ec => ?_, o, es, ep, h1, h2, h3, h4, h5⟩
  rw [upd_ne (ne_of_none ec hn)]
  exact ec
theorem kt_keys {H : Hp} : ∀ {l : List (List Key × V)} {m : List (List Key × Addr × Value)}, KT H l m → ∀ x ∈ m, H x.2.1 = some (.tup (x.1.map kV)) := by
  intro l m q
  induction q with
  | nil => intro x hx; exact nomatch hx
  | @cons p q ps qs hq t ih =>
    intro x hx
    rcases List.mem_cons.mp hx with e | hx
    · subst e
      rw [← hq.1]
      exact hq.2.1
    · exact ih x hx
theorem stay_of {pins : List (Addr × Obj)} {σ : L2.St} {H : Hp} {s : Shared} {kvs : List (List Key × V)} {prs : List (List Key × Addr × Value)} {wr : List Addr} (I : Inv X pins σ H s) (kt : KT H kvs prs) (hw : ∀ b ∈ wr, s.heap.objs.size ≤ b) : KeysStay (tupleKind (mixKind X.prog X.w)) s.heap s.heap.objs.size wr prs := fun h' hk x hx => by
  have all : ∀ {l : List (List Key × V)} {m : List (List Key × Addr × Value)}, KT H l m → ∀ x ∈ m, H x.2.1 = some (.tup (x.1.map kV)) := by
    intro l m q
    induction q with
    | nil => intro x hx; exact nomatch hx
    | @cons p q ps qs hq t ih =>
      intro x hx
      rcases List.mem_cons.mp hx with e | hx
      · subst e
        rw [← hq.1]
        exact hq.2.1
      · exact ih x hx
  have hb := all kt x hx
  obtain ⟨o, arr, n, h1, h2, h3, h4⟩ := key_of (P := X.prog) (w := X.w) I.hok hb
  have hlt := Heap.lt_size h1
  exact ⟨o, arr, n, hk _ _ (Nat.ne_of_lt hlt) (fun z => Nat.lt_irrefl _ (Nat.lt_of_lt_of_le hlt (hw _ z))) h1, h2, h3, h4⟩
/-- dict(xs) of a list of pairs whose first parts are tuples -/
def rDictPT (K : PySem.W.Frag) : List V → Hp → VK → Prop := fun xs H Q => ∃ (a : Addr) (ps : List Addr) (kvs : List (List Key × V)), xs = [.ref a] ∧ SqL K H a (ps.map V.ref) ∧ Paired (fun p kv => ∃ b, H p = some (.tup [.ref b, kv.2]) ∧ H b = some (.tup (kv.1.map kV))) ps kvs ∧ ∀ p, H p = none → Q (.ref p) (upd H p (.dT (mergeT [] kvs)))
theorem pairsT_of {pins : List (Addr × Obj)} {σ : L2.St} {H : Hp} {s : Shared} (I : Inv X pins σ H s) : ∀ {ps : List Addr} {kvs : List (List Key × V)}, Paired (fun p kv => ∃ b, H p = some (.tup [.ref b, kv.2]) ∧ H b = some (.tup (kv.1.map kV))) ps kvs →
    ∃ prs : List (List Key × Addr × Value), KT H kvs prs ∧ prs.length = ps.length ∧ ∀ (j : Nat) (q : List Key × Addr × Value), prs[j]? = some q → ∃ p, ps[j]? = some p ∧ s.heap.IsTuple p #[.ref q.2.1, q.2.2]
  | _, _, .nil => ⟨[], .nil, rfl, fun j q e => by simp at e⟩
  | _, _, .cons (a := p) (b := kv) h t => by
    obtain ⟨prs, r, hl, hp⟩ := pairsT_of I t
    obtain ⟨b, h1, h2⟩ := h
    obtain ⟨_, its, rv, o, g1, g2, n, g3⟩ := (show ObjOk X.prog X.w H s.heap p (.tup [.ref b, kv.2]) from I.hok p _ h1)
    obtain ⟨u, y, ei, ru, ry⟩ := vals2 rv
    subst ei
    cases (show u = Value.ref b from ru)
    refine ⟨(kv.1, b, y) :: prs, .cons ⟨rfl, h2, ry⟩ r, by rw [List.length_cons, List.length_cons, hl], fun j q e => ?_⟩
    cases j with
    | zero =>
      have e' : (kv.1, b, y) = q := Option.some.inj e
      subst e'
      exact ⟨p, rfl, o, g1, g2, n, g3⟩
    | succ j =>
      obtain ⟨p', e1, e2⟩ := hp j q (by simpa using e)
      exact ⟨p', by simpa using e1, e2⟩
theorem call_dictPT (hcalm : X.calm = true) (hu : X.A.units + 64 < cLine) : CallR X (.type "dict") (rDictPT X.K) := by
  intro pins s σ H xs us Q I r q
  obtain ⟨a, ps, kvs, ex, hq, hp, q⟩ := q
  subst ex
  obtain ⟨u, eu, rx⟩ := vals1 r
  subst eu
  cases rx
  obtain ⟨its, rv, pl, hz⟩ := I.list hq
  have ei := refs_at rv
  subst ei
  rw [List.length_map] at hz
  obtain ⟨prs, kt, hl, hpr⟩ := pairsT_of I hp
  have hlk : kvs.length = prs.length := Paired.length kt
  let vs : List (Value × Value) := prs.map fun x => (.ref x.2.1, x.2.2)
  have hvl : vs.length = prs.length := List.length_map _
  have items : PairItems s.heap (ps.map Value.ref).toArray (fun j => ps.getD j 0) vs := by
    refine ⟨by simp [hvl, hl], fun j k v e => ?_⟩
    rw [List.getElem?_map] at e
    obtain ⟨x, hx, ex⟩ := Option.map_eq_some_iff.mp e
    cases ex
    obtain ⟨p, hp1, hp2⟩ := hpr j x hx
    have hg : ps.getD j 0 = p := by rw [List.getD_eq_getElem?_getD, hp1]; rfl
    show (ps.map Value.ref).toArray[j]? = some (Value.ref (ps.getD j 0)) ∧ PairAt s.heap (ps.getD j 0) _ _
    rw [hg]
    exact ⟨by simp [hp1], .inl hp2⟩
  refine call_dict_pairsH (ps := prs) (PairArg.list a (ps.map Value.ref).toArray (fun j => ps.getD j 0) vs) (I.ok.hd hcalm) ?_ ⟨?_, items⟩ ⟨hvl.symm, fun i key v e => ?_⟩ (stay_of I kt fun b z => nomatch z) (by rw [hvl, hl]; exact hz) fun h' tk hd' k => ?_
  · show X.A.in1.in1.units < cLine
    exact Nat.lt_of_le_of_lt (Nat.add_le_add_left (by decide : 2 ≤ 64) _) hu
  · obtain ⟨o, n, ho, hc, hd, hdat⟩ := pl
    exact ⟨o, n, ho, hc, hd, hdat⟩
  · have e : (prs.map fun x => (Value.ref x.2.1, x.2.2))[i]? = some (key, v) := e
    rw [List.getElem?_map] at e
    obtain ⟨x, hx, ex⟩ := Option.map_eq_some_iff.mp e
    cases ex
    exact ⟨x.1, x.2.1, hx, rfl⟩
  · exact dt_made I kt (by rw [hlk, hl]; exact hz) (Nat.le_refl _) hd' (fun b o e => k b o (fun z => nomatch z) e) q
end
end Bk

/-! == and != of two dicts whose keys are tuples -/
namespace PySem.W
open PySem PySem.Calls PyProof.Rows PyProof.V PySem.Spec
section
variable {prog : Program} {w : World} {K : Type} [DecidableEq K] {knd : HeapKind prog w K} {A : Around} {E : Value → Shared → Prop} {s : Shared}
inductive BkHits {K : Type} [DecidableEq K] (A : Around) (s : Shared) (kb : List (K × Addr × Value)) : List (K × Addr × Value) → Bool → Prop
  | nil : BkHits A s kb [] true
  | miss {k : K} {c : Addr} {v : Value} {r : List (K × Addr × Value)} : (∀ p, (k, p) ∉ kb) → BkHits A s kb ((k, c, v) :: r) false
  | hit {k : K} {c : Addr} {v : Value} {p : Addr × Value} {r : List (K × Addr × Value)} {e b : Bool} : (k, p) ∈ kb → SeqAt.EqAt A s v p.2 e → BkHits A s kb r b → BkHits A s kb ((k, c, v) :: r) (e && b)
theorem BkHits.inv {kb : List (K × Addr × Value)} {k : K} {c : Addr} {v : Value} {r : List (K × Addr × Value)} {b : Bool} (h : BkHits A s kb ((k, c, v) :: r) b) :
    ((∀ p, (k, p) ∉ kb) ∧ b = false) ∨ ∃ p e b', (k, p) ∈ kb ∧ SeqAt.EqAt A s v p.2 e ∧ BkHits A s kb r b' ∧ b = (e && b') := by
  cases h with
  | miss hn => exact .inl ⟨hn, rfl⟩
  | hit hy he hr => exact .inr ⟨_, _, _, hy, he, hr, rfl⟩
theorem bk_one {kb : List (K × Addr × Value)} (hn : (kb.map (·.1)).Nodup) {k : K} {p q : Addr × Value} (hp : (k, p) ∈ kb) (hq : (k, q) ∈ kb) : p = q := by
  induction kb with
  | nil => cases hp
  | cons x r ih =>
    rw [List.map_cons, List.nodup_cons] at hn
    rcases List.mem_cons.mp hp with e0 | hp
    · rcases List.mem_cons.mp hq with e | hq
      · exact (Prod.mk.inj (e0.trans e.symm)).2
      · exact absurd (show x.1 ∈ r.map (·.1) from by rw [← e0]; exact List.mem_map.mpr ⟨(k, q), hq, rfl⟩) hn.1
    · rcases List.mem_cons.mp hq with e | hq
      · exact absurd (show x.1 ∈ r.map (·.1) from by rw [← e]; exact List.mem_map.mpr ⟨(k, p), hp, rfl⟩) hn.1
      · exact ih hn.2 hp hq
theorem bk_samePairs {nm : String} {a b : Addr} {ka kb : List (K × Addr × Value)} {r : Bool} {Q : Bool → Shared → Prop} (hu : knd.room A) (ha : (a == sysModules) = false) (hb : (b == sysModules) = false)
    (da : s.heap.DictOfH knd a ka) (db : s.heap.DictOfH knd b kb) (hits : ka.length = kb.length → BkHits A s kb ka r) (h : Q (ka.length == kb.length && r) s) :
    wpAny (model prog w) A (Builtin.Dict.samePairs nm a b) Q E s := by
  obtain ⟨oa, es, ep, hoa, _, hda, hea, hisa, hna⟩ := da
  obtain ⟨ob, es', ep', hob, _, hdb, heb, hisb, hnb⟩ := db
  have hla : ka.length = es.size := (size_of_entries hea).symm
  have hlb : kb.length = es'.size := (size_of_entries heb).symm
  rw [hla, hlb] at h
  unfold Builtin.Dict.samePairs Builtin.Dict.showsAll
  rw [if_neg (show ¬ (a == sysModules) = true by rw [ha]; exact Bool.false_ne_true), if_neg (show ¬ (b == sysModules) = true by rw [hb]; exact Bool.false_ne_true)]
  refine wpAny_bind (wpAny_pure (wpAny_bind (wpAny_pure ?_)))
  refine wpAny_bind (wpAny_dictEntries hoa hda ?_)
  dsimp only
  refine wpAny_bind (wpAny_dictEntries hob hdb ?_)
  by_cases hsz : es.size = es'.size
  case neg =>
    rw [if_pos (by simpa using hsz)]
    have hbf : (es.size == es'.size) = false := by simpa using hsz
    rw [hbf, Bool.false_and] at h
    exact wpAny_bind (wpAny_rule (wpAny_pure h))
  case pos =>
    have h' : Q r s := by simpa [hsz] using h
    have hits' := hits (by rw [hla, hlb]; exact hsz)
    rw [if_neg (by rw [hsz]; simp)]
    refine wpAny_bind (wpAny_dictEpoch hoa hda ?_)
    refine wpAny_bind ?_
    rw [Std.Legacy.Range.forIn_eq_forIn_range']
    simp only [Std.Legacy.Range.size, Nat.sub_zero, Nat.add_sub_cancel, Nat.div_one]
    refine wpAny_forIn_list _
      (fun rest q s' => s' = s ∧ q = (none, ()) ∧ ∃ i, rest = List.range' i (es.size - i) ∧ i ≤ es.size ∧ BkHits A s kb (ka.drop i) r)
      _ ?_ ?_ _ _ ⟨rfl, rfl, 0, by simp, Nat.zero_le _, hits'⟩
    · rintro x rest q s' ⟨rfl, rfl, i, hr, hi, hpre⟩
      have hlt : i < es.size := by
        rcases Nat.lt_or_ge i es.size with h | h
        · exact h
        · rw [Nat.sub_eq_zero_of_le h] at hr; simp at hr
      obtain ⟨rfl, hrest⟩ : x = i ∧ rest = List.range' (i + 1) (es.size - (i + 1)) := by
        have e : es.size - i = (es.size - (i + 1)) + 1 := by omega
        rw [e, List.range'_succ] at hr
        injection hr with h1 h2
        exact ⟨h1, h2⟩
      refine wpAny_bind (wpAny_dictEntries hoa hda ?_)
      rw [Array.getElem?_eq_getElem hlt]
      have hlt' : x < ka.length := by rw [hla]; exact hlt
      obtain ⟨k, c, v, hkv⟩ : ∃ k c v, ka[x] = (k, c, v) := ⟨_, _, _, rfl⟩
      have hdrop : ka.drop x = (k, c, v) :: ka.drop (x + 1) := by rw [← hkv]; exact List.drop_eq_getElem_cons hlt'
      have hent : es[x] = entryOfKey knd (k, c, v) := by
        have q := entry_at hea x
        rw [Array.getElem?_eq_getElem hlt, List.getElem?_eq_getElem hlt', hkv] at q
        exact Option.some.inj q
      have hkey := hisa (k, c, v) (by rw [← hkv]; exact List.getElem_mem hlt')
      rw [hdrop] at hpre
      rw [hent]
      show wpAny _ _ (holding [Value.ref c, v] _ >>= _) _ _ _
      refine wpAny_bind (wpAny_holding (wpAny_bind (wpAny_dictFind_heap hu hkey hob hdb heb hisb hnb (fun hnone => ?_) fun j p hj => ?_)))
      · rcases hpre.inv with ⟨_, er⟩ | ⟨y, _, _, hy, _⟩
        · rw [er] at h'
          refine wpAny_pure ?_
          show wpAny _ _ (if (!false) = true then _ else _) _ _ _
          rw [if_pos (by decide)]
          exact wpAny_pure (wpAny_pure h')
        · obtain ⟨j, hj⟩ := List.mem_iff_getElem?.mp hy
          exact absurd hj (hnone j y)
      · have hjlt : j < es'.size := by
          have := (List.getElem?_eq_some_iff.mp hj).1
          omega
        have hval : es'[j].val = p.2 := by
          have q := entry_at heb j
          rw [Array.getElem?_eq_getElem hjlt, hj] at q
          rw [Option.some.inj q]
          rfl
        refine wpAny_bind (wpAny_dictEntries hob hdb ?_)
        rw [Array.getElem?_eq_getElem hjlt]
        rcases hpre.inv with ⟨hn, _⟩ | ⟨y, e, b', hy, he, hrr, er⟩
        · exact absurd (List.mem_of_getElem? hj) (hn p)
        · have ey := bk_one hnb hy (List.mem_of_getElem? hj)
          rw [ey, ← hval] at he
          refine wpAny_holding (he prog w _ _ ?_)
          cases e with
          | false =>
            rw [er, Bool.false_and] at h'
            show wpAny _ _ (if (!false) = true then _ else _) _ _ _
            rw [if_pos (by decide)]
            exact wpAny_pure (wpAny_pure h')
          | true =>
            rw [Bool.true_and] at er
            rw [← er] at hrr
            show wpAny _ _ (if (!true) = true then _ else _) _ _ _
            rw [if_neg (by decide)]
            refine wpAny_bind (wpAny_dictEpoch hoa hda ?_)
            rw [if_neg (by simp)]
            exact wpAny_pure ⟨rfl, rfl, x + 1, hrest, hlt, hrr⟩
    · rintro q s' ⟨rfl, rfl, i, hr, hi, hpre⟩
      have hin : i = es.size := by
        rcases Nat.lt_or_ge i es.size with h | h
        · have e : es.size - i = (es.size - (i + 1)) + 1 := by omega
          rw [e, List.range'_succ] at hr; exact nomatch hr
        · exact Nat.le_antisymm hi h
      refine wpAny_pure ?_
      rw [hin, ← hla, List.drop_length] at hpre
      cases hpre
      exact h'
theorem bk_eq {a b : Addr} {ka kb : List (K × Addr × Value)} {r : Bool} {Q : Value → Shared → Prop} (hu1 : knd.room A.in1) (ha : (a == sysModules) = false) (hb : (b == sysModules) = false)
    (da : s.heap.DictOfH knd a ka) (db : s.heap.DictOfH knd b kb) (hu : A.units < cLine) (hits : ka.length = kb.length → BkHits A.in1 s kb ka r) (h : Q (.bool (ka.length == kb.length && r)) s) :
    wpAny (model prog w) A (compareOp .Eq (.ref a) (.ref b)) Q E s := by
  refine wpAny_richCompare_same_room (op := .Eq) da.typeIs db.typeIs PySem.F.slot_dict_eq (wpAny_call_entry PySem.F.slot_dict_eq da.typeIs PySem.F.entry_dict_eq ?_ (PySem.F.args_dict_eq_2 _ _)) hu
  show wpAny _ _ (Builtin.Dict.dictSlotArgs "__eq__" ⟨[.ref a, .ref b], []⟩ >>= _) _ _ s
  refine wpAny_bind ?_
  unfold Builtin.Dict.dictSlotArgs
  refine wpAny_bind (wpAny_notOrdered_dict da.typeIs ?_)
  show wpAny _ _ (pure (Value.ref a, Value.ref b)) _ _ s
  refine wpAny_pure ?_
  refine wpAny_bind (wpAny_isInstance (T := "dict") db.typeIs PySem.F.sub_dict_dict ?_)
  simp only [Bool.not_true, Bool.false_eq_true, if_false]
  refine wpAny_bind (wpAny_pure (wpAny_bind (wpAny_pure ?_)))
  refine wpAny_bind (bk_samePairs hu1 ha hb da db hits ?_)
  refine wpAny_pure ⟨_, rfl, ?_, ?_⟩
  · exact fun x => nomatch x
  · simpa using h
theorem bk_ne {a b : Addr} {ka kb : List (K × Addr × Value)} {r : Bool} {Q : Value → Shared → Prop} (hu1 : knd.room A.in1) (ha : (a == sysModules) = false) (hb : (b == sysModules) = false)
    (da : s.heap.DictOfH knd a ka) (db : s.heap.DictOfH knd b kb) (hu : A.units < cLine) (hits : ka.length = kb.length → BkHits A.in1 s kb ka r) (h : Q (.bool (!(ka.length == kb.length && r))) s) :
    wpAny (model prog w) A (compareOp .NotEq (.ref a) (.ref b)) Q E s := by
  refine wpAny_richCompare_same_room (op := .NotEq) da.typeIs db.typeIs PySem.F.slot_dict_ne (wpAny_call_entry PySem.F.slot_dict_ne da.typeIs PySem.F.entry_dict_ne ?_ (PySem.F.args_dict_ne_2 _ _)) hu
  show wpAny _ _ (Builtin.Dict.dictSlotArgs "__ne__" ⟨[.ref a, .ref b], []⟩ >>= _) _ _ s
  refine wpAny_bind ?_
  unfold Builtin.Dict.dictSlotArgs
  refine wpAny_bind (wpAny_notOrdered_dict da.typeIs ?_)
  show wpAny _ _ (pure (Value.ref a, Value.ref b)) _ _ s
  refine wpAny_pure ?_
  refine wpAny_bind (wpAny_isInstance (T := "dict") db.typeIs PySem.F.sub_dict_dict ?_)
  simp only [Bool.not_true, Bool.false_eq_true, if_false]
  refine wpAny_bind (wpAny_pure (wpAny_bind (wpAny_pure ?_)))
  refine wpAny_bind (bk_samePairs hu1 ha hb da db hits ?_)
  refine wpAny_pure ⟨_, rfl, ?_, ?_⟩
  · exact fun x => nomatch x
  · simpa using h
end
end PySem.W

/-! == and != of two dicts whose keys are tuples, their values whole numbers -/
namespace Bk
open PySem PySem.Spec PyProof.Rows L2
def getT (ks : List (List Key × Int)) (k : List Key) : Option Int := (ks.find? fun p => decide (p.1 = k)).map (·.2)
theorem getT_pos {p : List Key × Int} {r : List (List Key × Int)} {k : List Key} (e : p.1 = k) : getT (p :: r) k = some p.2 := by simp [getT, List.find?_cons, e]
theorem getT_neg {p : List Key × Int} {r : List (List Key × Int)} {k : List Key} (e : ¬ p.1 = k) : getT (p :: r) k = getT r k := by simp [getT, List.find?_cons, e]
/-- whether two tables of whole numbers are equal -/
def sameT (ks ls : List (List Key × Int)) : Bool := ks.length == ls.length && ks.all fun p => decide (getT ls p.1 = some p.2)
def tabV (ks : List (List Key × Int)) : List (List Key × V) := ks.map fun p => (p.1, V.int p.2)
theorem tab_len (ks : List (List Key × Int)) : (tabV ks).length = ks.length := List.length_map ..
theorem valV_tab (ls : List (List Key × Int)) (k : List Key) : valV (tabV ls) k = (getT ls k).map V.int := by
  induction ls with
  | nil => rfl
  | cons p r ih =>
    show valV ((p.1, V.int p.2) :: tabV r) k = _
    by_cases h : p.1 = k
    · rw [valV_pos h, getT_pos h]
      rfl
    · rw [valV_neg h, ih, getT_neg h]
theorem atKey_none {xs : List (List Key × Addr × Value)} {k : List Key} (e : atKey xs k = none) (z : Addr × Value) : (k, z) ∉ xs := fun hz => by
  unfold atKey at e
  rw [Option.map_eq_none_iff, List.find?_eq_none] at e
  exact e _ hz (decide_eq_true rfl)
theorem atKey_mem {xs : List (List Key × Addr × Value)} {k : List Key} {w : Addr × Value} (e : atKey xs k = some w) : (k, w) ∈ xs := by
  unfold atKey at e
  obtain ⟨⟨k', w'⟩, h1, rfl⟩ := Option.map_eq_some_iff.mp e
  have h2 := List.mem_of_find?_eq_some h1
  have h3 := List.find?_some (p := fun x : List Key × Addr × Value => decide (x.fst = k)) h1
  have h3 : k' = k := of_decide_eq_true h3
  rw [← h3]
  exact h2
theorem hitsT {A : Around} {s : Shared} {H : Hp} {ls : List (List Key × Int)} {vb : List (List Key × Addr × Value)} (rb : KT H (tabV ls) vb) {ks : List (List Key × Int)} : ∀ {va : List (List Key × Addr × Value)}, KT H (tabV ks) va →
    PySem.W.BkHits A s vb va (ks.all fun p => decide (getT ls p.1 = some p.2)) := by
  induction ks with
  | nil =>
    intro va ra
    cases ra
    exact .nil
  | cons p r ih =>
    intro va ra
    cases ra with
    | @cons _ q _ qs h t =>
      obtain ⟨h1, _, h3⟩ := h
      obtain ⟨k, c, v⟩ := q
      have h1 : p.1 = k := h1
      subst h1
      have rr := rb.val p.1
      rw [valV_tab] at rr
      rw [List.all_cons]
      cases e : getT ls p.1 with
      | none =>
        rw [e] at rr
        rw [show decide ((none : Option Int) = some p.2) = false from decide_eq_false (fun z => nomatch z), Bool.false_and]
        refine .miss fun z hz => ?_
        cases e2 : atKey vb p.1 with
        | none => exact atKey_none e2 z hz
        | some w => rw [e2] at rr; exact rr
      | some j =>
        rw [e] at rr
        cases e2 : atKey vb p.1 with
        | none => rw [e2] at rr; exact absurd rr (fun z => z)
        | some w =>
          rw [e2] at rr
          obtain ⟨t1, ht1⟩ : ∃ t, v = Value.int p.2 t := h3
          obtain ⟨t2, ht2⟩ : ∃ t, w.2 = Value.int j t := rr
          have hm := atKey_mem e2
          have q := SeqAt.EqAt.int_int (A := A) (s := s) p.2 t1 j t2
          rw [← ht1, ← ht2] at q
          have ed : decide (some j = some p.2) = (p.2 == j) := by
            by_cases z : p.2 = j
            · subst z; simp
            · have : ¬ j = p.2 := fun x => z x.symm
              simp [z, this]
          rw [ed]
          exact .hit hm q (ih t)
section
variable {X : Cx}
def rEqT (neg : Bool) : R2 := fun x y H Q => ∃ a b ks ls, x = .ref a ∧ y = .ref b ∧ H a = some (.dT (tabV ks)) ∧ H b = some (.dT (tabV ls)) ∧ Q (.bl (if neg then !sameT ks ls else sameT ks ls)) H
theorem op_eqT (hu : X.A.units + 1 < cLine) : OpR X (compareOp .Eq) (rEqT false) := by
  intro pins s σ H x y v u Q I rx ry h
  obtain ⟨a, b, ks, ls, rfl, rfl, ea, eb, q⟩ := h
  obtain rfl : v = Value.ref a := rx
  obtain rfl : u = Value.ref b := ry
  obtain ⟨_, ya, va, ra, da⟩ := dt_of I.hok ea
  obtain ⟨_, yb, vb, rb, db⟩ := dt_of I.hok eb
  have hl1 : va.length = ks.length := by rw [← Paired.length ra]; exact tab_len ks
  have hl2 : vb.length = ls.length := by rw [← Paired.length rb]; exact tab_len ls
  refine PySem.W.bk_eq (knd := tupleKind (mixKind X.prog X.w)) (tupleKind_room_in1 hu) ya yb da db (Nat.lt_of_succ_lt hu) (fun _ => hitsT rb ra) ?_
  rw [hl1, hl2]
  exact ⟨_, H, I, (show RelV (.bl _) _ from rfl), q⟩
theorem op_neT (hu : X.A.units + 1 < cLine) : OpR X (compareOp .NotEq) (rEqT true) := by
  intro pins s σ H x y v u Q I rx ry h
  obtain ⟨a, b, ks, ls, rfl, rfl, ea, eb, q⟩ := h
  obtain rfl : v = Value.ref a := rx
  obtain rfl : u = Value.ref b := ry
  obtain ⟨_, ya, va, ra, da⟩ := dt_of I.hok ea
  obtain ⟨_, yb, vb, rb, db⟩ := dt_of I.hok eb
  have hl1 : va.length = ks.length := by rw [← Paired.length ra]; exact tab_len ks
  have hl2 : vb.length = ls.length := by rw [← Paired.length rb]; exact tab_len ls
  refine PySem.W.bk_ne (knd := tupleKind (mixKind X.prog X.w)) (tupleKind_room_in1 hu) ya yb da db (Nat.lt_of_succ_lt hu) (fun _ => hitsT rb ra) ?_
  rw [hl1, hl2]
  exact ⟨_, H, I, (show RelV (.bl _) _ from rfl), q⟩
end
end Bk

/-! a dict comprehension with tests, its keys tuples -/
namespace Bk
open PySem PySem.Spec PyProof.Rows L2
section
variable {X : Cx}
/-- {k: v for target in iter if ..}, the keys tuples: D the new dict -/
def tDcTI (wi : TI) (g : TG) (tt : TT) (tk tv : TE) (vs : List Nat) : TE := fun σ H Q => wi σ H fun J H1 => ∀ D, H1 D = none → ∃ W : Nat → Nat → Hp → Prop, (∃ m, W 0 m (upd H1 D (.dT []))) ∧ ∀ i m H, W i m H →
  (J.stop i H ∧ Q (.ref D) H) ∨ (J.go i H ∧ ∃ Nx : Hp → Prop, (∀ H', Nx H' → ∃ m', m' < m ∧ W (i + 1) m' H') ∧ ∀ x H', J.yld i H x H' → g x (wipe σ vs) H' fun σ2 H2 => wipe σ2 vs = wipe σ vs ∧ tt σ2 H2 fun bb H3 =>
    if bb = true then tk σ2 H3 fun y H4 => tv σ2 H4 fun z H5 => ∃ kvs k b, y = .ref b ∧ H5 b = some (.tup (k.map kV)) ∧ H5 D = some (.dT kvs) ∧ kvs.length < sizeLine ∧ Nx (upd H5 D (.dT (putK kvs k z))) else Nx H3)
theorem pe_dcTI {kx vx tg iter : Expr} {ifs : List Expr} {scope : Scope} {own : List (Str × Nat)} {pos : Pos} {wi : TI} {g : TG} {tt : TT} {tk tv : TE} (hu : X.A.units < cLine) (hc : X.calm = true) (hN : X.N.Nodup) (hi : PI X tg iter wi) (ok : BlkOk X.N X.env.scope scope own)
    (hg : ∀ (s : Shared) (H : Hp) (C : Addr) (cl : List (Str × Addr)) (fp : List Addr), PG (X.blk s H scope (compEnvC scope cl C X.env) fp) tg g) (ht : ∀ (s : Shared) (H : Hp) (C : Addr) (cl : List (Str × Addr)) (fp : List Addr), PTs (X.blk s H scope (compEnvC scope cl C X.env) fp) ifs tt)
    (hk : ∀ (s : Shared) (H : Hp) (C : Addr) (cl : List (Str × Addr)) (fp : List Addr), PE (X.blk s H scope (compEnvC scope cl C X.env) fp) kx tk)
    (he : ∀ (s : Shared) (H : Hp) (C : Addr) (cl : List (Str × Addr)) (fp : List Addr), PE (X.blk s H scope (compEnvC scope cl C X.env) fp) vx tv) (hs : ∀ x, foldedSetIterable iter X.env x = pure x := by intro _; rfl) :
    PE X (.DictComp kx vx [⟨tg, iter, ifs, 0⟩] scope pos) (tDcTI wi g tt tk tv (own.map (·.2))) := by
  refine ⟨fun pins s σ H Q I h => ?_⟩
  rw [arm_eval_DictComp]
  have fr : ∀ y ∈ scope.names, y.2 = .free → ∃ c, X.env.cells.lookup y.1 = some c := fun y hy e => (ok.free y hy e).elim (fun k => I.ok.has _ (.inl k)) fun k => I.ok.has _ (.inr k)
  refine wpAny_comprehension_free rfl hs (closure_ok fr) ok.kind (fun y hy e => by rw [ok.uniq y hy, e]) (thn (hi.run pins s σ H _ I h) fun xv s1 hx => thn hx fun itv s2 h2 => ?_)
  obtain ⟨it, fp, tn, J, H2, rfl, I2, T, st2, f2, q⟩ := h2
  refine wpAny_newObj_type (newEnv_comp ?_)
  -- the new dict stands at D
  obtain ⟨D, hD⟩ : ∃ D, D = s2.heap.objs.size := ⟨_, rfl⟩
  obtain ⟨W, ⟨m0, w0⟩, turn⟩ := q D (I2.hok.fresh (Nat.le_of_eq hD.symm))
  obtain ⟨s3, hs3⟩ : ∃ s3 : Shared, s3 = { s2 with heap := s2.heap.push { cls := .type "dict", data := .dict #[] } } := ⟨_, rfl⟩
  have hh3 : s3.heap = s2.heap.push { cls := .type "dict", data := .dict #[] } := by rw [hs3]
  have k3 : ∀ b o, s2.heap.get? b = some o → s3.heap.get? b = some o := fun b o e => by rw [hh3]; exact Heap.get?_push_of_some _ e
  have I3 : Inv X pins σ (upd H2 D (.dT [])) s3 := by
    subst hs3 hD
    exact I2.laid (t' := s2.toks) (fun b o e => Heap.get?_push_of_some _ e) (Nat.le_refl _) (dt_empty s2.heap I2.big)
  have young : ∀ b ∈ fp, b < s2.heap.objs.size := fun b hb => (T.obj _ _ st2 b hb).elim fun o e => Heap.lt_size e.1
  have f3 : ∀ b ∈ fp, FpOk X pins (upd H2 D (.dT [])) b ∧ b < s3.heap.objs.size := fun b hb => by
    refine ⟨⟨?_, (f2 b hb).2⟩, by rw [hh3, Heap.size_push]; exact Nat.lt_succ_of_lt (young b hb)⟩
    rw [upd_ne (by rw [hD]; exact Nat.ne_of_lt (young b hb))]
    exact (f2 b hb).1
  have st3 : tn 0 s3.heap := T.keep _ _ _ st2 fun b _ => k3 b
  rw [← hs3]
  obtain ⟨H3, hH3⟩ : ∃ H3, H3 = upd H2 D (.dT []) := ⟨_, rfl⟩
  rw [← hH3] at I3 f3 w0
  have I4 := block_start I3 ok hN f3
  let cl := cellsFrom (s3.heap.objs.size + 1) scope.names (cloFrom X.env.cells scope.names [])
  have pg := hg s3 H3 s3.heap.objs.size cl fp
  have pt := ht s3 H3 s3.heap.objs.size cl fp
  have pk := hk s3 H3 s3.heap.objs.size cl fp
  have pe := he s3 H3 s3.heap.objs.size cl fp
  show codeAny _ _ (.compStart (.DictComp kx vx [⟨tg, iter, ifs, 0⟩] scope pos) 0 (.ref it) (.ref s2.heap.objs.size) (compEnvC scope cl s3.heap.objs.size X.env)) (compPost (model X.prog X.w) X.A X.xe none _ (.ref s2.heap.objs.size) s3.heap.objs.size) { s3 with heap := pushCells (s3.heap.push { cls := .type "dict", data := .dict #[] }) scope.names }
  rw [← hD]
  obtain ⟨ce, hce⟩ : ∃ ce, ce = compEnvC scope cl s3.heap.objs.size X.env := ⟨_, rfl⟩
  have cL : ce.locals = s3.heap.objs.size := by rw [hce]; rfl
  have I4' : Inv (X.blk s3 H3 scope ce fp) [] (wipe σ (own.map (·.2))) H3 { s3 with heap := pushCells (s3.heap.push { cls := .type "dict", data := .dict #[] }) scope.names } := by rw [hce]; exact I4
  rw [← hce] at pg pt pk pe ⊢
  clear I4
  obtain ⟨s4, hs4⟩ : ∃ s4 : Shared, s4 = { s3 with heap := pushCells (s3.heap.push { cls := .type "dict", data := .dict #[] }) scope.names } := ⟨_, rfl⟩
  rw [← hs4] at I4' ⊢
  have st4 : tn 0 s4.heap := T.keep _ _ _ st3 fun b _ o e => by rw [hs4]; exact pushCells_keeps _ _ _ _ (Heap.get?_push_of_some _ e)
  have stat : ∀ {σ' : L2.St} {H' : Hp} {s' : Shared}, Inv (X.blk s3 H3 scope ce fp) [] σ' H' s' → (∀ b ∈ fp, H' b = none) → ∀ b ∈ fp, FpOk (X.blk s3 H3 scope ce fp) [] H' b := fun I' hn b hb =>
    ⟨hn b hb, (I'.ok.exf b hb).1, I'.ok.exfs b hb, .inl hb, fun x c e => (I'.ok.exf b hb).2 x c e, fun p hp => by simp at hp⟩
  suffices loop : codeAny (model X.prog X.w) X.A (.compLoop (.DictComp kx vx [⟨tg, iter, ifs, 0⟩] scope pos) 0 (.ref it) (.ref D) ce) (compPost (model X.prog X.w) X.A X.xe none (EP X pins σ Q) (.ref D) s3.heap.objs.size) s4 from
    codeAny_compStart_dict loop (T.self X.A 0 _ _ _ st4 loop)
  refine compLoop_anyD (fun n s' => ∃ i H', Inv (X.blk s3 H3 scope ce fp) [] (wipe σ (own.map (·.2))) H' s' ∧ tn i s'.heap ∧ (∀ b ∈ fp, H' b = none) ∧ W i n H') ?_ m0 ⟨0, H3, I4', st4, fun b hb => (f3 b hb).1.1, w0⟩
  rintro n s5 ⟨i, H5, I5, st5, n5, w5⟩
  rcases turn i n H5 w5 with ⟨stop, qq⟩ | ⟨go, Nx, hNx, step⟩
  · refine thnF (T.done (X.blk s3 H3 scope ce fp) rfl rfl rfl hc i [] s5 _ H5 (fun _ _ => False) I5 (stat I5 n5) st5 stop) fun r s6 ⟨hr, I6⟩ => ?_
    subst hr
    have I7 : Inv X pins σ H5 s6 := I3.call' (ch := fp) I6.os I6.base I6.hok I6.bare fun b hb => ⟨(f3 b hb).1.2.2.2.1, (f3 b hb).1.2.1, (f3 b hb).1.2.2.2.2.1, (f3 b hb).1.2.2.2.2.2⟩
    obtain ⟨m, hn, _⟩ := I6.loc
    refine ⟨m, by rw [← cL]; exact hn, fun h'' sb => ?_⟩
    obtain ⟨g0, g1, g2, g3, g4, g5⟩ := I3.fpOk (H' := H5) (Nat.le_refl _) (by rw [← cL]; exact I6.free)
    exact ⟨.ref D, H5, I7.turned (t' := s6.toks) (fun b o hb e => (sb.2 b hb).trans e) g0 g1 g3 g4 g5, rfl, qq⟩
  · refine thnF (T.item (X.blk s3 H3 scope ce fp) rfl rfl rfl hc i [] s5 _ H5 (fun _ _ => False) I5 (stat I5 n5) st5 go) fun r s6 ⟨u, hr, h6⟩ => ?_
    subst hr
    refine thnF h6 fun _ s7 ⟨x, H7, I7, r7, y7, st7, n7⟩ => ?_
    have I7' := I7.pinned (stat I7 n7) (T.obj _ _ st7)
    refine thnF (pg.run _ s7 _ H7 x u _ I7' r7 (step x H7 y7)) fun _ s8 ⟨σ8, H8, I8, hw8, q8⟩ => ?_
    refine thnF (pt.run _ s8 σ8 H8 _ I8 q8) fun bb s9 ⟨H9, I9, q9⟩ => ?_
    have fin : ∀ {s' : Shared} {H' : Hp}, Inv (X.blk s3 H3 scope ce fp) ([] ++ pinsAt fp s7.heap) σ8 H' s' → Nx H' → ∃ m, m < n ∧ ∃ i H', Inv (X.blk s3 H3 scope ce fp) [] (wipe σ (own.map (·.2))) H' s' ∧ tn i s'.heap ∧ (∀ b ∈ fp, H' b = none) ∧ W i m H' := fun {s' H'} I' nx => by
      obtain ⟨m', hm, w'⟩ := hNx H' nx
      have pin' : ∀ b ∈ fp, ∀ o, s7.heap.get? b = some o → s'.heap.get? b = some o ∧ H' b = none := fun b hb o e =>
        have z := I'.pin (b, o) (List.mem_append_right _ (List.mem_append_right _ (mem_pinsAt hb e)))
        ⟨z.1, z.2.1⟩
      have hl : (wipe σ (own.map (·.2))).length = σ8.length := by rw [← hw8, wipe_length]
      refine ⟨m', hm, i + 1, H', (I'.unpinned (pins := [])).weak hl (fun j v e => ?_), T.keep _ _ _ st7 fun b hb o e => (pin' b hb o e).1, fun b hb => ?_, w'⟩
      · rw [← hw8] at e
        exact (wipe_some e).1
      · obtain ⟨o, e, _⟩ := T.obj _ _ st7 b hb
        exact (pin' b hb o e).2
    cases bb with
    | false =>
      simp only [Bool.false_eq_true, if_false] at q9 ⊢
      exact fin I9 q9
    | true =>
      simp only [if_true] at q9 ⊢
      refine thnF (pk.run _ s9 σ8 H9 _ I9 q9) fun z s10 ⟨yk, H10, I10, r10, q10⟩ => ?_
      refine thnF (pe.run _ s10 σ8 H10 _ I10 q10) fun z2 s11 ⟨yv, H11, I11, r11, kvs, k, b, ek, hb11, hD11, hz11, nx⟩ => ?_
      subst ek
      exact put_tup (X := X.blk s3 H3 scope ce fp) hu I11 hD11 hz11 hb11 r10 r11 fun s12 I12 => fin I12 nx
end
end Bk

/-! the pairs of a dict whose keys are tuples, walked -/
namespace Bk
open PySem PySem.Spec PyProof.Rows L2
/-- each pair a new tuple of the key's own tuple and the value -/
def Itit (d : Addr) (o : Obj) (kvs : List (List Key × V)) : It :=
  ⟨fun i H => H d = some (.frz o (.dT kvs)) ∧ i < kvs.length, fun i H x H' => ∃ (T : Addr) (k : List Key) (v : V) (q : Addr), kvs[i]? = some (k, v) ∧ H q = some (.tup (k.map kV)) ∧ x = .ref T ∧ H T = none ∧ H' = upd H T (.tup [.ref q, v]), fun i H => H d = some (.frz o (.dT kvs)) ∧ kvs.length ≤ i⟩
section
variable {X : Cx} {pins : List (Addr × Obj)} {σ : L2.St} {H : Hp} {s : Shared} {d : Addr} {o : Obj}
theorem frzTV {kvs : List (List Key × V)} (I : Inv X pins σ H s) (h : H d = some (.frz o (.dT kvs))) :
    (d == sysModules) = false ∧ s.heap.get? d = some o ∧ o.ExactDict ∧ ∃ (es : Array DictEntry) (ep : Nat), o.data = .dict es ep ∧ es.size = kvs.length ∧
      ∀ (i : Nat) (k : List Key) (v : V), kvs[i]? = some (k, v) → ∃ (en : DictEntry) (q : Addr), es[i]? = some en ∧ en.key = .ref q ∧ H q = some (.tup (k.map kV)) ∧ RelV v en.val := by
  obtain ⟨hd, z, hs, xs, pr, o', es, ep, ho, hx, hdt, he, _⟩ := I.hok d _ h
  rw [hd] at ho
  cases ho
  refine ⟨hs, hd, hx, es, ep, hdt, ?_, fun i k v e => ?_⟩
  · have l1 : es.size = xs.length := size_of_entries he
    have l2 : kvs.length = xs.length := Paired.length pr
    omega
  · obtain ⟨b, hb, e1, e2, e3⟩ := paired_get pr e
    have q := entry_at he i
    rw [hb] at q
    exact ⟨_, b.2.1, q, rfl, e2, e3⟩
end
section
variable {P : Program} {w : World} {K : PySem.W.Frag} {d : Addr} {o : Obj} {es : Array DictEntry} {ep : Nat}
theorem turn_itemsT {kvs : List (List Key × V)} {elts : List Expr} {kk : Nat} {tpos : Pos} (it : Addr) (hod : o.data = .dict es ep) :
    Turn P w K (.Tuple elts kk tpos) (Itit d o kvs) [it] it (fun i h => ∃ ok ov, IsItemIter h it d i kvs.length ep ok ov) where
  mem := by simp
  obj := fun i h st b hb => by
    have e : b = it := by simpa using hb
    subst e
    obtain ⟨ok, ov, e⟩ := st
    exact ⟨_, e, fun v z => nomatch z⟩
  keep := fun i h h' st k => let ⟨ok, ov, e⟩ := st; ⟨ok, ov, k it (by simp) _ e⟩
  item := by
    intro X hP hw hK hc i pins s σ H E I hf st hg
    subst hP hw hK
    obtain ⟨hd, hi⟩ := hg
    obtain ⟨hs, hgd, hx, es', ep', hdt, hsz, ent⟩ := frzTV I hd
    obtain ⟨rfl, rfl⟩ := dict_ep hod hdt
    obtain ⟨⟨k, v⟩, hkv⟩ : ∃ p, kvs[i]? = some p := ⟨kvs[i], List.getElem?_eq_getElem hi⟩
    obtain ⟨en, q, hen, hkey, hq, hval⟩ := ent i k v hkv
    obtain ⟨ok, ov, he⟩ := st
    rw [← hsz] at he
    have hlt : it < s.heap.objs.size := Heap.lt_size he
    have hi' : i < es'.size := by omega
    have hen' : es'[i] = en := by
      have e2 := Array.getElem?_eq_getElem hi'
      rw [hen] at e2
      exact (Option.some.inj e2).symm
    refine DT.nextI he ⟨o, hgd, hx, hdt⟩ hi' fun h' ho hT hz hk => ?_
    rw [hen'] at ho hT
    refine ⟨_, rfl, wpAny_letOwnedTupleGo_items (s := { s with heap := h' }) ho fun h'' he' sb => ?_⟩
    have hT2 : h''.get? s.heap.objs.size = some { cls := .type "tuple", data := .seq #[en.key, en.val] } := (sb.2 _ (Nat.ne_of_gt hlt)).trans hT
    have new : ObjOk X.prog X.w (upd H s.heap.objs.size (.tup [V.ref q, v])) h'' s.heap.objs.size (.tup [V.ref q, v]) :=
      ⟨by show 2 ≤ sizeLine; decide, [en.key, en.val], .cons hkey (.cons hval .nil), ⟨_, hT2, rfl, _, rfl⟩⟩
    have I1 : Inv X pins σ (upd H s.heap.objs.size (.tup [V.ref q, v])) { s with heap := h'' } :=
      I.turnedNew (t' := s.toks) (ch := [it]) (fun b ob hb e => (sb.2 b (by simpa using hb)).trans (hk b ob (by simpa using hb) e)) hf (Nat.le_refl _) new
    refine ⟨.ref s.heap.objs.size, _, I1, rfl, ⟨_, k, v, q, hkv, hq, rfl, I.hok.fresh (Nat.le_refl _), rfl⟩, ⟨en.key, en.val, ?_⟩, fun b hb => ?_⟩
    · rw [← hsz]; exact he'
    · have e : b = it := by simpa using hb
      rw [e, upd_ne (Nat.ne_of_lt hlt)]
      exact (hf it (by simp)).1
  done := by
    intro X hP hw hK hc i pins s σ H E I hf st hg
    subst hP hw hK
    obtain ⟨hd, hi⟩ := hg
    obtain ⟨f0, f1, f2, f3, f4, f5⟩ := hf it (by simp)
    obtain ⟨hs, hgd, hx, es', ep', hdt, hsz, ent⟩ := frzTV I hd
    obtain ⟨rfl, rfl⟩ := dict_ep hod hdt
    obtain ⟨ok, ov, he⟩ := st
    rw [← hsz] at he
    exact DT.endI (I.ok.hd hc) he ⟨o, hgd, hx, hdt⟩ (by omega) fun h' eb => ⟨rfl, I.turned (t' := s.toks) (fun b ob hb e => eb b ob hb e) f0 f1 f3 f4 f5⟩
  self := fun A i s Q E st h => let ⟨_, _, e⟩ := st; PySem.W.kcp_self e h
end
/-- d.items(), d locked -/
def iItemsT (td : TE) : TI := fun σ H R => td σ H fun x H1 => ∃ d o kvs, x = .ref d ∧ H1 d = some (.frz o (.dT kvs)) ∧ R (Itit d o kvs) H1
section
variable {X : Cx} {tg e : Expr} {td : TE} {apos cpos : Pos}
theorem pi_itemsT {elts : List Expr} {kk : Nat} {tpos : Pos} (he : PE X e td) (hbase : attributeBase e "items" X.env (eval e X.env) = eval e X.env := by rfl) (hline : (apos.endLine == cpos.line) = true := by rfl) :
    PI X (.Tuple elts kk tpos) (.Call (.Attribute e "items" apos) [] [] cpos) (iItemsT td) := by
  refine ⟨fun pins s σ H R I h => ?_⟩
  refine wpAny_Call_method (T := "dict") (id := "dict.items") hbase rfl hline F.plainAttrs_dict F.slot_dict_items F.type_dict_items (thn (he.run pins s σ H _ I h) fun u s1 ⟨x, H1, I1, rx, d, o, kvs, ex, hd, q⟩ => ?_)
  subst ex
  obtain rfl : u = Value.ref d := rx
  obtain ⟨hs, hgd, hx, es, ep, hdt, hsz, ent⟩ := frzTV I1 hd
  have hm : DT.Raw s1.heap d es ep := ⟨o, hgd, hx, hdt⟩
  refine ⟨hm.typeIs, fun a e => by cases e; exact ⟨o, hgd, hx.2.1⟩, ?_⟩
  have I2 : Inv X pins σ H1 { s1 with heap := s1.heap.push { cls := .type "dict_items", data := .fields #[.ref d] } } := I1.kept (t' := s1.toks) fun b ob q => Heap.get?_push_of_some _ q
  have fin : wpAny (model X.prog X.w) X.A (pyIter (.ref s1.heap.objs.size)) (PIE X pins σ (.Tuple elts kk tpos) R) X.xe { s1 with heap := s1.heap.push { cls := .type "dict_items", data := .fields #[.ref d] } } := by
    refine DT.iterI (d := d) ⟨_, Heap.get?_push_size _ rfl, rfl, rfl⟩ (hm.push _) (pi_one (tk := s1.toks) I2 _ (turn_itemsT _ hdt) ⟨.none, .none, ?_⟩ q)
    rw [← hsz]
    exact Heap.get?_push_size _ rfl
  show wpAny _ _ (callWith cpos (.builtin "dict.items") [.ref d] [] []) _ X.xe s1
  exact method_meetsIn F.slot_dict_items F.entry_dict_items rfl (PySem.evalArgs_none ⟨rfl, hm.typeIs, F.args_dict_items_1 _, _, DT.meetsItems (es := es) (ep := ep) hs, ⟨hm, fin⟩⟩)
end
theorem walk_itemsT {d : Addr} {o : Obj} {kvs : List (List Key × V)} : Walk (Itit d o kvs) kvs.length (fun H => H d = some (.frz o (.dT kvs)))
    (fun i H x H' => ∃ (T : Addr) (k : List Key) (v : V) (q : Addr), kvs[i]? = some (k, v) ∧ H q = some (.tup (k.map kV)) ∧ x = .ref T ∧ H T = none ∧ H' = upd H T (.tup [.ref q, v])) :=
  ⟨fun _ _ hi q => ⟨q, hi⟩, fun _ q => ⟨q, Nat.le_refl _⟩, fun _ _ _ _ _ _ y => y⟩
end Bk

/-! lots as parts of the names; tables by lots; questions as objects -/
namespace Bk
open PySem PySem.Spec PyProof.Rows L2
theorem rows_inc : ∀ n, n < 6 → ∀ r ∈ lotRows n, r.Pairwise (· < ·) := by decide +kernel
theorem rows_below : ∀ n, n < 6 → ∀ r ∈ lotRows n, ∀ x ∈ r, x < n := by decide +kernel
theorem pick_sub {zs : List Str} : ∀ {r : List Nat}, r.Pairwise (· < ·) → (∀ x ∈ r, x < zs.length) → (r.map fun k => zs.getD k Str.empty).Sublist zs := by
  intro r hp hl
  have h := List.map_getElem_sublist (l := zs) (is := r.attach.map fun x => (⟨x.1, hl x.1 x.2⟩ : Fin zs.length)) (by
    rw [List.pairwise_map]
    have : r.attach.Pairwise fun a b => a.1 < b.1 := by
      have := List.pairwise_map (f := Subtype.val) (l := r.attach) (R := (· < ·))
      rw [List.attach_map_subtype_val] at this
      exact this.mp hp
    exact this)
  rw [List.map_map] at h
  have e : r.attach.map ((fun (i : Fin zs.length) => zs[i]) ∘ fun x => (⟨x.1, hl x.1 x.2⟩ : Fin zs.length)) = r.map fun k => zs.getD k Str.empty := by
    have : r.map (fun k => zs.getD k Str.empty) = r.attach.map fun x => zs.getD x.1 Str.empty := by
      conv => lhs; rw [← List.attach_map_subtype_val r, List.map_map]
      rfl
    rw [this]
    refine List.map_congr_left fun x _ => ?_
    show zs[x.1]'(hl x.1 x.2) = zs.getD x.1 Str.empty
    rw [List.getD_eq_getElem?_getD, List.getElem?_eq_getElem (hl x.1 x.2)]
    rfl
  rw [← e]
  exact h
theorem lots_sub {ch : Bool} {zs l : List Str} (hz : zs.length ≤ mostFor ch) (m : l ∈ lotsFor ch zs) : l.Sublist zs := by
  unfold lotsFor at m
  cases ch with
  | true =>
    unfold chainLots at m
    simp only [if_true] at m
    obtain ⟨k, _, m⟩ := List.mem_flatMap.mp m
    unfold longRows at m
    obtain ⟨i, _, rfl⟩ := List.mem_map.mp m
    exact (List.take_sublist _ _).trans (List.drop_sublist _ _)
  | false =>
    unfold lotsOf at m
    simp only [Bool.false_eq_true, if_false] at m
    obtain ⟨r, hr, rfl⟩ := List.mem_map.mp m
    have h6 : zs.length < 6 := Nat.lt_succ_of_le hz
    exact pick_sub (rows_inc _ h6 r hr) (rows_below _ h6 r hr)
/-- the names of zs that stand in k -/
def lotS (zs k : List Str) : List Str := zs.filter fun n => decide (n ∈ k)
theorem lotS_sub : ∀ {l zs : List Str}, l.Sublist zs → zs.Nodup → lotS zs l = l := by
  intro l zs h
  induction h with
  | slnil => intro _; rfl
  | @cons l zs a h ih =>
    intro nd
    obtain ⟨n1, n2⟩ := List.nodup_cons.mp nd
    unfold lotS
    rw [List.filter_cons_of_neg (by
      intro z
      exact n1 (h.subset (of_decide_eq_true z)))]
    exact ih n2
  | @cons_cons l zs a h ih =>
    intro nd
    obtain ⟨n1, n2⟩ := List.nodup_cons.mp nd
    unfold lotS
    rw [List.filter_cons_of_pos (p := fun n => decide (n ∈ a :: l)) (decide_eq_true List.mem_cons_self)]
    congr 1
    have : zs.filter (fun n => decide (n ∈ a :: l)) = zs.filter fun n => decide (n ∈ l) := by
      refine List.filter_congr fun x hx => ?_
      have : x ≠ a := fun e => n1 (e ▸ hx)
      simp [this]
    rw [this]
    exact ih n2
theorem lot_nodup {ch : Bool} {zs l : List Str} (hz : zs.length ≤ mostFor ch) (nd : zs.Nodup) (m : l ∈ lotsFor ch zs) : l.Nodup := (lots_sub hz m).nodup nd
/-- the lot that a list of things tells, or none -/
def toldBy (zs : List Str) (xs : List V) : List Str := zs.filter fun n => inV (.str n) xs
def lotOfV (ch : Bool) (zs : List Str) (xs : List V) : Option (List Str) := if (toldBy zs xs).length = xs.length ∧ toldBy zs xs ∈ lotsFor ch zs then some (toldBy zs xs) else none
theorem toldBy_strs (zs k : List Str) : toldBy zs (k.map V.str) = lotS zs k := by
  unfold toldBy lotS
  refine List.filter_congr fun x _ => ?_
  rw [inV_strs]
theorem lotOfV_lot {ch : Bool} {zs l : List Str} (hz : zs.length ≤ mostFor ch) (nd : zs.Nodup) (m : l ∈ lotsFor ch zs) : lotOfV ch zs (l.map V.str) = some l := by
  unfold lotOfV
  rw [toldBy_strs, lotS_sub (lots_sub hz m) nd, List.length_map, if_pos ⟨rfl, m⟩]
/-- the places tell which rows are lots -/
theorem places_has {ch : Bool} {zs : List Str} (nd : zs.Nodup) (l : List Str) : (valV (placesOf (lotsFor ch zs)) (l.map Sum.inr)).isSome = decide (l ∈ lotsFor ch zs) := by
  rw [← valV_any]
  have hk := places_keys (lots_nodup (ch := ch) nd) (lotsFor ch zs).length (Nat.le_refl _)
  rw [List.take_length] at hk
  have e : (placesOf (lotsFor ch zs)).any (fun kv => decide (kv.1 = l.map Sum.inr)) = ((placesOf (lotsFor ch zs)).map (·.1)).any fun k => decide (k = l.map Sum.inr) := by
    rw [List.any_map]
    rfl
  rw [e, hk]
  by_cases m : l ∈ lotsFor ch zs
  · rw [decide_eq_true m, List.any_eq_true]
    exact ⟨_, List.mem_map.mpr ⟨l, m, rfl⟩, decide_eq_true rfl⟩
  · rw [decide_eq_false m, List.any_eq_false]
    intro k hk z
    obtain ⟨l', m', rfl⟩ := List.mem_map.mp hk
    rw [inr_inj (of_decide_eq_true z)] at m'
    exact m m'
/-! ### tables by lots -/
def tabL (ls : List (List Str)) (f : List Str → Int) : List (List Key × Int) := ls.map fun l => (l.map Sum.inr, f l)
def tableOf (ch : Bool) (zs : List Str) (wt : List Str → Int) : List (List Key × Int) := tabL ((lotsFor ch zs).filter fun l => decide (wt l ≠ 0)) wt
theorem getT_tab (f : List Str → Int) (l : List Str) : ∀ ls : List (List Str), getT (tabL ls f) (l.map Sum.inr) = if l ∈ ls then some (f l) else none
  | [] => rfl
  | x :: r => by
    have ih := getT_tab f l r
    show getT ((x.map Sum.inr, f x) :: tabL r f) _ = _
    by_cases h : x = l
    · subst h
      rw [getT_pos rfl, if_pos List.mem_cons_self]
    · rw [getT_neg (fun z => h (inr_inj z)), ih]
      by_cases m : l ∈ r
      · rw [if_pos m, if_pos (List.mem_cons_of_mem _ m)]
      · rw [if_neg m, if_neg (fun z => (List.mem_cons.mp z).elim (fun e => h e.symm) m)]
theorem getT_table {ch : Bool} {zs : List Str} {wt : List Str → Int} {l : List Str} (m : l ∈ lotsFor ch zs) : (getT (tableOf ch zs wt) (l.map Sum.inr)).getD 0 = wt l := by
  unfold tableOf
  rw [getT_tab]
  by_cases h : wt l = 0
  · have hn : l ∉ (lotsFor ch zs).filter fun l => decide (wt l ≠ 0) := fun z => absurd h (of_decide_eq_true (List.mem_filter.mp z).2)
    rw [if_neg hn, h]
    rfl
  · rw [if_pos (List.mem_filter.mpr ⟨m, decide_eq_true h⟩)]
    rfl
theorem tab_put {ls : List (List Str)} {f : List Str → Int} {l : List Str} (h : l ∉ ls) : putK (tabV (tabL ls f)) (l.map Sum.inr) (V.int (f l)) = tabV (tabL (ls ++ [l]) f) := by
  rw [putK_fresh]
  · unfold tabV tabL
    rw [List.map_append, List.map_append]
    rfl
  · unfold tabV tabL
    rw [List.map_map, List.map_map]
    intro m
    obtain ⟨l', m', e⟩ := List.mem_map.mp m
    rw [inr_inj (show (l'.map Sum.inr : List Key) = l.map Sum.inr from e)] at m'
    exact h m'
theorem tabL_congr {ls : List (List Str)} {f g : List Str → Int} (h : ∀ l ∈ ls, f l = g l) : tabL ls f = tabL ls g := List.map_congr_left fun l m => by rw [h l m]
theorem tableOf_congr {ch : Bool} {zs : List Str} {f g : List Str → Int} (h : ∀ l ∈ lotsFor ch zs, f l = g l) : tableOf ch zs f = tableOf ch zs g := by
  unfold tableOf
  rw [show (lotsFor ch zs).filter (fun l => decide (f l ≠ 0)) = (lotsFor ch zs).filter fun l => decide (g l ≠ 0) from List.filter_congr fun l m => by rw [h l m]]
  exact tabL_congr fun l m => h l (List.mem_filter.mp m).1
theorem sameT_refl (ls : List (List Str)) (f : List Str → Int) : sameT (tabL ls f) (tabL ls f) = true := by
  unfold sameT
  simp only [beq_self_eq_true, Bool.true_and]
  rw [List.all_eq_true]
  intro p hp
  obtain ⟨l, m, rfl⟩ := List.mem_map.mp hp
  refine decide_eq_true ?_
  show getT (tabL ls f) (l.map Sum.inr) = some (f l)
  rw [getT_tab, if_pos m]
theorem sameT_eq {ch : Bool} {zs : List Str} {f g : List Str → Int} (h : ∀ l ∈ lotsFor ch zs, f l = g l) : sameT (tableOf ch zs f) (tableOf ch zs g) = true := by
  rw [tableOf_congr h]
  exact sameT_refl _ _
theorem sameT_ne {ch : Bool} {zs : List Str} (nd : zs.Nodup) {f g : List Str → Int} (h : sameT (tableOf ch zs f) (tableOf ch zs g) = true) : ∀ l ∈ lotsFor ch zs, f l = g l := by
  unfold sameT at h
  rw [Bool.and_eq_true, List.all_eq_true] at h
  obtain ⟨h1, h2⟩ := h
  have h1 : ((lotsFor ch zs).filter fun l => decide (f l ≠ 0)).length = ((lotsFor ch zs).filter fun l => decide (g l ≠ 0)).length := by
    have := eq_of_beq h1
    unfold tableOf tabL at this
    rw [List.length_map, List.length_map] at this
    exact this
  have h2 : ∀ l ∈ (lotsFor ch zs).filter (fun l => decide (f l ≠ 0)), l ∈ (lotsFor ch zs).filter (fun l => decide (g l ≠ 0)) ∧ f l = g l := fun l m => by
    have := of_decide_eq_true (h2 _ (List.mem_map.mpr ⟨l, m, rfl⟩))
    have this : getT (tableOf ch zs g) (l.map Sum.inr) = some (f l) := this
    unfold tableOf at this
    rw [getT_tab] at this
    by_cases z : l ∈ (lotsFor ch zs).filter fun l => decide (g l ≠ 0)
    · rw [if_pos z] at this
      exact ⟨z, (Option.some.inj this).symm⟩
    · rw [if_neg z] at this
      cases this
  intro l m
  by_cases z : f l = 0
  · by_cases z2 : g l = 0
    · rw [z, z2]
    · exfalso
      have hl : l ∈ (lotsFor ch zs).filter fun l => decide (g l ≠ 0) := List.mem_filter.mpr ⟨m, decide_eq_true z2⟩
      have hn : ((lotsFor ch zs).filter fun l => decide (f l ≠ 0)).Nodup := (lots_nodup nd).filter _
      have p := pigeon _ (((lotsFor ch zs).filter fun l => decide (g l ≠ 0)).erase l) hn fun x hx => by
        refine (List.mem_erase_of_ne fun e => ?_).mpr (h2 x hx).1
        subst e
        exact of_decide_eq_true (List.mem_filter.mp hx).2 z
      rw [List.length_erase_of_mem hl] at p
      have := List.length_pos_of_mem hl
      omega
  · exact (h2 l (List.mem_filter.mpr ⟨m, decide_eq_true z⟩)).2
/-! ### questions as objects -/
def questF (x td : Addr) : List (Str × V) := [("folders", .ref x), ("table", .ref td)]
def QuestAt (CF CQ : Addr) (H : Hp) (q x : Addr) (zs : List Str) (ch : Bool) (wt : List Str → Int) : Prop := ∃ dq td, H q = some (.ins CQ dq (questF x td)) ∧ FoldersAt CF H x zs ch ∧ H td = some (.dT (tabV (tableOf ch zs wt)))
theorem QuestAt.same {CF CQ q x : Addr} {H H' : Hp} {zs : List Str} {ch : Bool} {wt : List Str → Int} (h : QuestAt CF CQ H q x zs ch wt) (e : Same H H') : QuestAt CF CQ H' q x zs ch wt :=
  let ⟨dq, td, h1, h2, h3⟩ := h; ⟨dq, td, e _ _ h1, h2.same e, e _ _ h3⟩
theorem look_folders (x td : Addr) : (questF x td).lookup ("folders" : Str) = some (.ref x) := by
  show List.lookup ("folders" : Str) [(("folders" : Str), V.ref x), ("table", .ref td)] = _
  simp [List.lookup]
theorem look_table (x td : Addr) : (questF x td).lookup ("table" : Str) = some (.ref td) := by
  have h : (("table" : Str) == ("folders" : Str)) = false := by decide +kernel
  show List.lookup ("table" : Str) [(("folders" : Str), V.ref x), ("table", .ref td)] = _
  simp [List.lookup, h]
theorem putq1 (v : V) : putF "folders" v [] = ([("folders", v)] : List (Str × V)) := rfl
theorem putq2 (v t : V) : putF "table" t ([("folders", v)] : List (Str × V)) = ([("folders", v), ("table", t)] : List (Str × V)) := by
  have h : ¬ (("folders" : Str) = "table") := by decide +kernel
  simp [putF, h]
end Bk

namespace Bk
open PySem PySem.Spec PyProof.Rows L2
def spIsInt (K : PySem.W.Frag) : Sp := fun vs H Q _ => ∃ (x : V) (t : Value) (b1 b2 : Bool), vs = [x] ∧ TyX K H x t ∧ PySem.W.kitOne K t (.type "int") = some b1 ∧ PySem.W.kitOne K t (.type "bool") = some b2 ∧ Q (.bl (b1 && !b2)) H
def spLotOf (K : PySem.W.Frag) (C : Addr) : Sp := fun vs H Q _ => ∃ (x : Addr) (y : V) (zs : List Str) (ch : Bool), vs = [.ref x, y] ∧ FoldersAt C H x zs ch ∧ zs.Nodup ∧ zs.length ≤ 12 ∧
  ((Sqs K H y false ∧ ∀ H', Same H H' → Q .non H') ∨ ∃ (a : Addr) (xs : List V), y = .ref a ∧ (SqL K H a xs ∨ SqT K H a xs) ∧ Sqs K H y true ∧ xs.all flatV = true ∧ xs.length ≤ 100000 ∧
    (∀ H', Same H H' → lotOfV ch zs xs = none → Q .non H') ∧ ∀ (t : Addr) (l : List Str) (H' : Hp), H t = none → Same H H' → lotOfV ch zs xs = some l → H' t = some (.tup (l.map V.str)) → Q (.ref t) H')
section
variable {P : Program} {w : World} {K : PySem.W.Frag} {mg : Str → Option Value} {base : Heap}
theorem scIsInt : FnScope ["thing"] ["thing"] (defScope (topS 15)) := ⟨rfl, rfl, rfl, by decide +kernel, rfl, by decide +kernel, by decide +kernel⟩
theorem ok_is_int (B : Bi mg) {f : Addr} {fd : FuncData} (F : Fun K "is_integer" "is_integer" (topS 15) f fd) : FnOk P w K mg base CX0 1 f fd ["thing"] (spIsInt K) := by
  refine F.ok scIsInt (fun vs H Q E h => ?_) (fun cdv A outer s H vs Q E hr h => ?_)
  · obtain ⟨x, t, b1, b2, rfl, _⟩ := h
    rfl
  · obtain ⟨x, t, b1, b2, rfl, tx, k1, k2, q⟩ := h
    have nd := scIsInt.nd
    refine ⟨_, (pss_one (ps_ret (pe_and (pe_callB (kIsi K) (by rfl) B.isinstance (by decide +kernel) (pa_cons (pv 0) (pa_cons (pe_bltn (v := .ty "int") (by rfl) B.int (by decide +kernel) rfl) pa_nil))) (pe_one (pe_not (pe_callB (kIsi K) (by rfl) B.isinstance (by decide +kernel) (pa_cons (pv 0) (pa_cons (pe_bltn (v := .ty "bool") (by rfl) B.bool (by decide +kernel) rfl) pa_nil)))))))), ?_⟩
    refine isi1 rfl tx k1 ⟨_, rfl, ?_⟩
    cases b1 with
    | false =>
      refine iteF ?_
      exact q
    | true =>
      refine iteT ?_
      refine isi1 rfl tx k2 ?_
      cases b2 <;> exact ⟨_, rfl, q⟩
theorem scLotOf : FnScope ["folders", "thing", "lot", "name"] ["folders", "thing"] (defScope (topS 33)) := ⟨rfl, rfl, rfl, by decide +kernel, rfl, by decide +kernel, by decide +kernel⟩
theorem ok_lot_of (B : Bi mg) {C f0 f f1 : Addr} {fd fd1 : FuncData} (T : FolT K mg C f0) (c_is_list : Cal P w K mg base CX0 1 "is_list" f1 fd1 ["thing"] (spIsList K)) (F : Fun K "lot_of" "lot_of" (topS 33) f fd) : FnOk P w K mg base CX0 2 f fd ["folders", "thing"] (spLotOf K C) := by
  refine F.ok scLotOf (fun vs H Q E h => ?_) (fun cdv A outer s H vs Q E hr h => ?_)
  · obtain ⟨x, y, zs, ch, rfl, _⟩ := h
    rfl
  · obtain ⟨x, y, zs, ch, rfl, ⟨dx, t, pd, hx, ht, hp⟩, nz, lz, hc⟩ := h
    have nd := scLotOf.nd
    have hu := hu_of hr
    have hr_is_list := hr
    refine ⟨_, (pss_cons (ps_if (pt_not (pt_val (pe_call c_is_list.ok hr_is_list (by rfl) c_is_list.g c_is_list.kp c_is_list.b .nil pass0 (pa_cons (pv 1) pa_nil)))) (pss_one (ps_ret pe_non)) pss_nil)
      (pss_cons (ps_set (i := 2) nd rfl (Or.inl rfl) (kTupleOf K (by rfl) B.tuple (pe_lc (own := [("name", 3)]) rfl nd (kPiT K (pe_fld (pv 0) rfl)) (blkOk_by (N := ["folders", "thing", "lot", "name"]) (sc := defScope (topS 33)) (by decide +kernel)) (fun _ _ _ _ _ => (pg_name (i := 3) nd rfl (Or.inl rfl))) (fun _ _ _ _ _ => (pts_one (pt_cmpR (kIn K) (pv 3) (pv 1) rfl))) (fun _ _ _ _ _ => (pv 3)))))
      (pss_one (ps_ret (pe_ifExp (PW.pt (pw_and (pt_cmpR op_eq (pe_callB (kLen K) (by rfl) B.len PySem.boot_len (pa_cons (pv 2) pa_nil)) (pe_callB (kLen K) (by rfl) B.len PySem.boot_len (pa_cons (pv 1) pa_nil)) (nomark _)) (pw_and1 (pt_cmp (pc_din hu (pv 2) (pe_fld (pv 0) rfl)))))) (pv 2) pe_non))))), ?_⟩
    rcases hc with ⟨b, q⟩ | ⟨a, xs, rfl, hS, b, hf, hl, qn, qs⟩
    · refine ⟨_, rfl, _, false, rfl, b, fun H1 e1 => ⟨_, rfl, ?_⟩⟩
      refine iteT ?_
      exact q H1 e1
    · refine ⟨_, rfl, _, true, rfl, b, fun H1 e1 => ⟨_, rfl, ?_⟩⟩
      refine iteF ?_
      have hS1 : SqL K H1 a xs ∨ SqT K H1 a xs := hS.imp (fun z => e1.seq z) fun z => Same.sqt e1 z
      refine ⟨_, rfl, x, C, dx, _, _, rfl, e1 _ _ hx, T.cl, T.nN, look_names _ _ _, t, rfl, ⟨_, SqT.of (e1 _ _ ht)⟩, fun D nD => lc_it (walk_tup (xs := zs.map V.str)) (UptoF H1 D zs V.str fun n => inV (.str n) xs) (.zero nD) (fun j H' _ u => SqT.of (u.sm _ _ (e1 _ _ ht))) ?_ ?_⟩
      · rintro j v H2 H3 hj u ⟨rfl, hv⟩
        rw [List.getElem?_map] at hv
        obtain ⟨n, hn, rfl⟩ := Option.map_eq_some_iff.mp hv
        refine ⟨rfl, ?_⟩
        refine ⟨_, rfl, _, rfl, a, xs, rfl, hS1.imp (fun z => Same.seq u.sm z) (fun z => Same.sqt u.sm z), rfl, hf, _, rfl, ?_⟩
        cases hi : inV (.str n) xs with
        | false =>
          refine iteF ?_
          exact u.no hn hi (Same.refl _)
        | true =>
          refine iteT ?_
          exact ⟨_, rfl, u.yes nD hn hi (Same.refl _) (by omega)⟩
      · intro H2 u
        have eD := u.all (by rw [List.length_map])
        have e2 := Same.trans e1 u.sm
        have hS2 : SqL K H2 a xs ∨ SqT K H2 a xs := hS.imp (fun z => e2.seq z) fun z => Same.sqt e2 z
        refine .inl ⟨D, _, rfl, SqL.of eD, fun p np => ?_⟩
        have hnp : H p = none := Same.free e2 np
        have ep := same_upd (o := HO.tup ((zs.filter fun n => inV (.str n) xs).map V.str)) np
        have hp3 : upd H2 p (HO.tup ((zs.filter fun n => inV (.str n) xs).map V.str)) p = some (HO.tup ((zs.filter fun n => inV (.str n) xs).map V.str)) := upd_same
        generalize upd H2 p (HO.tup ((zs.filter fun n => inV (.str n) xs).map V.str)) = H3 at ep hp3 ⊢
        have e3 := Same.trans e2 ep
        have hS3 : SqL K H3 a xs ∨ SqT K H3 a xs := hS.imp (fun z => e3.seq z) fun z => Same.sqt e3 z
        have hin := places_has (ch := ch) nz (toldBy zs xs)
        refine ⟨_, rfl, .ref p, _, rfl, .inr ⟨_, SqT.of hp3, rfl⟩, _, rfl, .ref a, xs.length, rfl, hS3.imp (fun z => ⟨xs, z, rfl⟩) (fun z => ⟨xs, z, rfl⟩), rfl, ?_⟩
        refine ⟨_, rfl, ?_⟩
        have elen : ((((zs.filter fun n => inV (.str n) xs).map V.str).length : Nat) : Int) = ((toldBy zs xs).length : Int) := by
          rw [List.length_map]
          rfl
        rw [elen]
        by_cases hlen : (toldBy zs xs).length = xs.length
        · rw [decide_eq_true (by rw [hlen])]
          refine iteT ?_
          refine ⟨_, rfl, _, rfl, x, C, dx, _, _, rfl, e3 _ _ hx, T.cl, T.nP, look_places _ _ _, pd, _, rfl, DGet.t (k := (toldBy zs xs).map Sum.inr) (e3 _ _ hp) ?_, _, rfl, ?_⟩
          · rw [hp3, List.map_map]
            rfl
          · rw [hin]
            by_cases hm : toldBy zs xs ∈ lotsFor ch zs
            · rw [decide_eq_true hm]
              refine iteT ?_
              exact ⟨_, rfl, qs p (toldBy zs xs) H3 hnp e3 (by unfold lotOfV; rw [if_pos ⟨hlen, hm⟩]) hp3⟩
            · rw [decide_eq_false hm]
              refine iteF ?_
              exact qn H3 e3 (by unfold lotOfV; rw [if_neg (fun z => hm z.2)])
        · rw [decide_eq_false (fun z => hlen (by injection z with z; omega))]
          refine iteF ?_
          refine iteF ?_
          exact qn H3 e3 (by unfold lotOfV; rw [if_neg (fun z => hlen z.1)])
end
end Bk

namespace Bk
open PySem PySem.Spec PyProof.Rows L2
/-- a statement that is never reached -/
theorem ps_no {X : Cx} {st : Stmt} : PS X st (fun _ _ _ => False) := ⟨fun _ _ _ _ _ _ h => h.elim⟩
def entT (es : List (List Str × Int)) : List (List Key × Int) := es.map fun e => (e.1.map Sum.inr, e.2)
def foundT (zs : List Str) (es : List (List Str × Int)) : List (List Key × Int) := es.map fun e => ((lotS zs e.1).map Sum.inr, e.2)
/-- the dict of right entries -/
structure Ents (ch : Bool) (zs : List Str) (es : List (List Str × Int)) : Prop where
  few : es.length ≤ 3000
  lot : ∀ e ∈ es, lotOfV ch zs (e.1.map V.str) = some (lotS zs e.1)
  len : ∀ e ∈ es, e.1.length ≤ 1000
  nd : (es.map fun e => lotS zs e.1).Nodup
def spNums (K : PySem.W.Frag) (C : Addr) : Sp := fun vs H Q _ => ∃ (x d dx t pd : Addr) (zs : List Str) (ch : Bool) (es : List (List Str × Int)), vs = [.ref x, .ref d] ∧ H x = some (.ins C dx (foldersF t pd ch)) ∧ H t = some (.tup (zs.map V.str)) ∧ H pd = some (.dT (placesOf (lotsFor ch zs))) ∧ pd ≠ d ∧
  zs.Nodup ∧ zs.length ≤ 12 ∧ H d = some (.dT (tabV (entT es))) ∧ Ents ch zs es ∧ ∀ (D : Addr) (H' : Hp), H D = none → Same H H' → H' D = some (.dT (tabV (foundT zs es))) → Q (.ref D) H'
theorem found_get {zs : List Str} {es : List (List Str × Int)} {l : List Str} (h : ∀ e ∈ es, lotS zs e.1 ≠ l) : getT (foundT zs es) (l.map Sum.inr) = none := by
  induction es with
  | nil => rfl
  | cons e r ih =>
    show getT (((lotS zs e.1).map Sum.inr, e.2) :: foundT zs r) _ = none
    rw [getT_neg (fun z => h e List.mem_cons_self (inr_inj z))]
    exact ih fun e' m => h e' (List.mem_cons_of_mem _ m)
theorem found_put {zs : List Str} {es : List (List Str × Int)} {e : List Str × Int} (h : ∀ e' ∈ es, lotS zs e'.1 ≠ lotS zs e.1) : putK (tabV (foundT zs es)) ((lotS zs e.1).map Sum.inr) (V.int e.2) = tabV (foundT zs (es ++ [e])) := by
  rw [putK_fresh]
  · unfold tabV foundT
    rw [List.map_append, List.map_append]
    rfl
  · unfold tabV foundT
    rw [List.map_map, List.map_map]
    intro m
    obtain ⟨e', m', q⟩ := List.mem_map.mp m
    exact h e' m' (inr_inj q)
section
variable {P : Program} {w : World} {K : PySem.W.Frag} {mg : Str → Option Value} {base : Heap}
theorem scNums : FnScope ["folders", "weights", "found", "key", "number", "lot"] ["folders", "weights"] (defScope (topS 42)) := ⟨rfl, rfl, rfl, by decide +kernel, rfl, by decide +kernel, by decide +kernel⟩
theorem ok_nums (B : Bi mg) {C f0 f f1 f2 : Addr} {fd fd1 fd2 : FuncData} (T : FolT K mg C f0) (c_lot_of : Cal P w K mg base CX0 2 "lot_of" f1 fd1 ["folders", "thing"] (spLotOf K C)) (c_is_integer : Cal P w K mg base CX0 1 "is_integer" f2 fd2 ["thing"] (spIsInt K))
    (F : Fun K "numbers_by_lots" "numbers_by_lots" (topS 42) f fd) : FnOk P w K mg base CX0 3 f fd ["folders", "weights"] (spNums K C) := by
  refine F.ok scNums (fun vs H Q E h => ?_) (fun cdv A outer s H vs Q E hr h => ?_)
  · obtain ⟨x, d, dx, t, pd, zs, ch, es, rfl, _⟩ := h
    rfl
  · obtain ⟨x, d, dx, t, pd, zs, ch, es, rfl, hx, ht, hp, npd, nz, lz, hd, hE, q⟩ := h
    have nd := scNums.nd
    have hu := hu_of hr
    have hr_lot_of : Room 2 _ := hr.mono (by decide)
    have hr_is_integer : Room 1 _ := hr.mono (by decide)
    refine ⟨_, (pss_cons (ps_set (i := 2) nd rfl (Or.inl rfl) pe_dnewT)
      (pss_cons (ps_lock (ps_for PassesOwn.never rfl (pi_itemsT (pv 1)) (kTg K 2 rfl (pgs_cons (pg_name (i := 3) nd rfl (Or.inl rfl)) (pgs_cons (pg_name (i := 4) nd rfl (Or.inl rfl)) pgs_nil))) (pss_cons (ps_set (i := 5) nd rfl (Or.inl rfl) (pe_call c_lot_of.ok hr_lot_of (by rfl) c_lot_of.g c_lot_of.kp c_lot_of.b .nil pass0 (pa_cons (pv 0) (pa_cons (pv 3) pa_nil))))
      (pss_cons (ps_if (PW.pt (pw_or (pt_cmpR op_isN (pv 5) pe_non (nomark _)) (pw_or1 (pt_cmp (pc_din hu (pv 5) (pv 2)))))) (pss_one ps_no) pss_nil)
      (pss_cons (ps_if (pt_not (pt_val (pe_call c_is_integer.ok hr_is_integer (by rfl) c_is_integer.g c_is_integer.kp c_is_integer.b .nil pass0 (pa_cons (pv 4) pa_nil)))) (pss_one ps_no) pss_nil)
      (pss_one (ps_dput hu (pv 2) (pv 5) (pv 4) rfl)))))))
      (pss_one (ps_ret (pv 2))))), ?_⟩
    refine fun D nD => ?_
    have e0 := same_upd (o := HO.dT []) nD
    have hD0 : upd H D (.dT []) D = some (.dT []) := upd_same
    generalize upd H D (.dT []) = H0 at e0 hD0 ⊢
    have nDd : d ≠ D := ne_of_none hd nD
    refine ⟨d, _, e0 _ _ hd, trivial, fun od => ?_⟩
    have hxd : x ≠ d := ne_of hx hd (fun z => nomatch z)
    have htd : t ≠ d := ne_of ht hd (fun z => nomatch z)
    refine ⟨_, rfl, d, od, _, rfl, upd_same, ?_⟩
    refine for_it walk_itemsT (fun i σ' H' => ∃ v3 v4 v5, σ' = [some (.ref x), some (.ref d), some (.ref D), v3, v4, v5] ∧ H' d = some (.frz od (.dT (tabV (entT es)))) ∧ H' D = some (.dT (tabV (foundT zs (es.take i)))) ∧ ∀ b u, b ≠ d → H b = some u → H' b = some u) ?_ ?_ ?_ ?_
    · exact ⟨none, none, none, rfl, upd_same, by rw [upd_ne nDd.symm]; exact hD0, fun b u nb e => by rw [upd_ne nb]; exact e0 _ _ e⟩
    · rintro i σ' H' _ ⟨_, _, _, _, h, _⟩
      exact h
    · rintro i y σ' H1 H2 hi ⟨v3, v4, v5, rfl, hd1, hD1, kp1⟩ ⟨T2, k, v, qa, hk, hqa, rfl, nT, rfl⟩
      unfold tabV entT at hk
      rw [List.map_map, List.getElem?_map] at hk
      obtain ⟨e, he, hkv⟩ := Option.map_eq_some_iff.mp hk
      obtain ⟨rfl, rfl⟩ := Prod.mk.inj hkv
      have eT := same_upd (o := HO.tup [V.ref qa, .int e.2]) nT
      refine ⟨T2, _, rfl, SqT.of upd_same, rfl, _, _, rfl, _, _, rfl, rfl, ?_⟩
      generalize upd H1 T2 (.tup [V.ref qa, .int e.2]) = H2 at eT ⊢
      have kp2 : ∀ b u, b ≠ d → H b = some u → H2 b = some u := fun b u nb z => eT _ _ (kp1 b u nb z)
      have hem := List.mem_of_getElem? he
      have hq2 : H2 qa = some (.tup (e.1.map V.str)) := by
        have := eT _ _ hqa
        rw [List.map_map] at this
        exact this
      have hl := hE.lot e hem
      refine ⟨_, rfl, _, rfl, x, .ref qa, zs, ch, rfl, ⟨dx, t, pd, kp2 _ _ hxd hx, kp2 _ _ htd ht, kp2 _ _ npd hp⟩, nz, lz, .inr ⟨qa, e.1.map V.str, rfl, .inr (SqT.of hq2), sqs_kit (k := "tuple") (b1 := false) (b2 := true) (.base (.tup hq2)) (by decide +kernel) (by decide +kernel), flat_strs _, ?_, fun H' e' hn => ?_, fun p l H3 np e3 hl' hp3 => ?_⟩⟩
      · have := hE.len e hem
        rw [List.length_map]
        omega
      · rw [hl] at hn
        cases hn
      rw [hl] at hl'
      obtain rfl := Option.some.inj hl'
      have hD3 := e3 _ _ (eT _ _ hD1)
      have hd3 := e3 _ _ (eT _ _ hd1)
      have fresh : ∀ e' ∈ es.take i, lotS zs e'.1 ≠ lotS zs e.1 := by
        intro e' m' z
        obtain ⟨j, hj, rfl⟩ := List.mem_take_iff_getElem.mp m'
        have hil := (List.getElem?_eq_some_iff.mp he).1
        have := nodup_inj hE.nd (i := j) (j := i) (by rw [List.length_map]; omega) (by rw [List.length_map]; exact hil) (by
          rw [List.getElem_map, List.getElem_map, z]
          have := (List.getElem?_eq_some_iff.mp he).2
          rw [this])
        omega
      have hno : valV (tabV (foundT zs (es.take i))) ((lotS zs e.1).map Sum.inr) = none := by
        rw [valV_tab, found_get fresh]
        rfl
      have hp3' : H3 p = some (.tup (((lotS zs e.1).map Sum.inr : List Key).map kV)) := by
        rw [hp3, List.map_map]
        rfl
      refine ⟨_, rfl, rfl, _, rfl, ?_⟩
      refine iteF ?_
      refine ⟨_, rfl, _, rfl, D, _, rfl, DGet.t hD3 hp3', _, rfl, ?_⟩
      rw [hno]
      refine iteF ?_
      refine ⟨_, rfl, .int e.2, .type "int", true, false, rfl, .base (.int _), kit_ty (show kitB "int" "int" = some true by decide +kernel), kit_ty (show kitB "int" "bool" = some false by decide +kernel), ?_⟩
      refine ⟨_, rfl, ?_⟩
      refine iteF ?_
      refine ⟨_, rfl, _, rfl, _, rfl, D, _, rfl, DPut.t (k := (lotS zs e.1).map Sum.inr) hD3 hp3' ?_, ?_⟩
      · rw [tab_len]
        unfold foundT
        rw [List.length_map, List.length_take]
        have := hE.few
        exact Evl.sz_lt (by omega)
      · refine ⟨_, _, _, rfl, ?_, ?_, fun b u nb z => ?_⟩
        · rw [upd_ne nDd]
          exact hd3
        · rw [upd_same, found_put fresh, take_succ he]
        · rw [upd_ne (ne_of_none z nD)]
          exact e3 _ _ (kp2 b u nb z)
    · rintro σ' H1 ⟨v3, v4, v5, rfl, hd1, hD1, kp1⟩
      refine ⟨hd1, ?_⟩
      refine ⟨_, rfl, q D _ nD (fun b u e => ?_) ?_⟩
      · by_cases nb : b = d
        · subst nb
          rw [upd_same, ← e, hd]
        · rw [upd_ne nb]
          exact kp1 b u nb e
      · rw [upd_ne nDd.symm]
        have : (tabV (entT es)).length = es.length := by
          unfold tabV entT
          rw [List.length_map, List.length_map]
        rw [this, List.take_length] at hD1
        exact hD1
end
end Bk

namespace Bk
open PySem PySem.Spec PyProof.Rows L2
section
variable {J : It} {n : Nat} {G : Hp → Prop} {Y : Nat → Hp → V → Hp → Prop}
/-- a dict comprehension with tests over it, the keys tuples -/
theorem dcI_it (w : Walk J n G Y) {g : TG} {tt : TT} {tk tv : TE} {vs : List Nat} {σ : L2.St} {H1 : Hp} {D : Addr} {Qd : Hp → Prop} (Pv : Nat → Hp → Prop) (h0 : Pv 0 (upd H1 D (.dT []))) (hG : ∀ i H, i ≤ n → Pv i H → G H)
    (hs : ∀ i x H H', i < n → Pv i H → Y i H x H' → g x (wipe σ vs) H' fun σ2 H2 => wipe σ2 vs = wipe σ vs ∧ tt σ2 H2 fun bb H3 =>
      if bb = true then tk σ2 H3 fun y H4 => tv σ2 H4 fun z H5 => ∃ kvs k b, y = .ref b ∧ H5 b = some (.tup (k.map kV)) ∧ H5 D = some (.dT kvs) ∧ kvs.length < sizeLine ∧ Pv (i + 1) (upd H5 D (.dT (putK kvs k z))) else Pv (i + 1) H3) (hd : ∀ H, Pv n H → Qd H) :
    ∃ W : Nat → Nat → Hp → Prop, (∃ m, W 0 m (upd H1 D (.dT []))) ∧ ∀ i m H, W i m H →
      (J.stop i H ∧ Qd H) ∨ (J.go i H ∧ ∃ Nx : Hp → Prop, (∀ H', Nx H' → ∃ m', m' < m ∧ W (i + 1) m' H') ∧ ∀ x H', J.yld i H x H' → g x (wipe σ vs) H' fun σ2 H2 => wipe σ2 vs = wipe σ vs ∧ tt σ2 H2 fun bb H3 =>
        if bb = true then tk σ2 H3 fun y H4 => tv σ2 H4 fun z H5 => ∃ kvs k b, y = .ref b ∧ H5 b = some (.tup (k.map kV)) ∧ H5 D = some (.dT kvs) ∧ kvs.length < sizeLine ∧ Nx (upd H5 D (.dT (putK kvs k z))) else Nx H3) := by
  refine ⟨fun i m H => m = n - i ∧ i ≤ n ∧ Pv i H, ⟨n, by simp, Nat.zero_le _, h0⟩, ?_⟩
  rintro i m H ⟨rfl, hi, p⟩
  have q := hG i H hi p
  by_cases hlt : i < n
  · refine .inr ⟨w.goes i H hlt q, Pv (i + 1), fun H' p' => ⟨n - (i + 1), by omega, rfl, hlt, p'⟩, fun x H' y => hs i x H H' hlt p (w.yields i H x H' hlt q y)⟩
  · have e : i = n := by omega
    subst e
    exact .inl ⟨w.stops H q, hd H p⟩
/-- the same without tests -/
theorem dcT_itw (w : Walk J n G Y) {g : TG} {tk tv : TE} {vs : List Nat} {σ : L2.St} {H1 : Hp} {D : Addr} {Qd : Hp → Prop} (Pv : Nat → Hp → Prop) (h0 : Pv 0 (upd H1 D (.dT []))) (hG : ∀ i H, i ≤ n → Pv i H → G H)
    (hs : ∀ i x H H', i < n → Pv i H → Y i H x H' → g x (wipe σ vs) H' fun σ2 H2 => wipe σ2 vs = wipe σ vs ∧ tk σ2 H2 fun y H4 => tv σ2 H4 fun z H5 => ∃ kvs k b, y = .ref b ∧ H5 b = some (.tup (k.map kV)) ∧ H5 D = some (.dT kvs) ∧ kvs.length < sizeLine ∧ Pv (i + 1) (upd H5 D (.dT (putK kvs k z)))) (hd : ∀ H, Pv n H → Qd H) :
    ∃ W : Nat → Nat → Hp → Prop, (∃ m, W 0 m (upd H1 D (.dT []))) ∧ ∀ i m H, W i m H →
      (J.stop i H ∧ Qd H) ∨ (J.go i H ∧ ∃ Nx : Hp → Prop, (∀ H', Nx H' → ∃ m', m' < m ∧ W (i + 1) m' H') ∧ ∀ x H', J.yld i H x H' → g x (wipe σ vs) H' fun σ2 H2 => wipe σ2 vs = wipe σ vs ∧
        tk σ2 H2 fun y H4 => tv σ2 H4 fun z H5 => ∃ kvs k b, y = .ref b ∧ H5 b = some (.tup (k.map kV)) ∧ H5 D = some (.dT kvs) ∧ kvs.length < sizeLine ∧ Nx (upd H5 D (.dT (putK kvs k z)))) := by
  refine ⟨fun i m H => m = n - i ∧ i ≤ n ∧ Pv i H, ⟨n, by simp, Nat.zero_le _, h0⟩, ?_⟩
  rintro i m H ⟨rfl, hi, p⟩
  have q := hG i H hi p
  by_cases hlt : i < n
  · refine .inr ⟨w.goes i H hlt q, Pv (i + 1), fun H' p' => ⟨n - (i + 1), by omega, rfl, hlt, p'⟩, fun x H' y => hs i x H H' hlt p (w.yields i H x H' hlt q y)⟩
  · have e : i = n := by omega
    subst e
    exact .inl ⟨w.stops H q, hd H p⟩
end
/-- what the top has written of Question -/
structure QueT (K : PySem.W.Frag) (mg : Str → Option Value) (C fI : Addr) : Prop where
  g : mg "Question" = some (.ref C)
  cl : Cls K C
  nF : NoAttr K C "folders"
  nT : NoAttr K C "table"
  make : Mk K C fI
/-- the i-th key of the places -/
theorem places_key {ch : Bool} {zs : List Str} (nd : zs.Nodup) {i : Nat} {k : List Key} {v : V} (h : (placesOf (lotsFor ch zs))[i]? = some (k, v)) : ∃ l, (lotsFor ch zs)[i]? = some l ∧ k = l.map Sum.inr := by
  have hk := places_keys (lots_nodup (ch := ch) nd) (lotsFor ch zs).length (Nat.le_refl _)
  rw [List.take_length] at hk
  have e : ((placesOf (lotsFor ch zs)).map (·.1))[i]? = some k := by
    rw [List.getElem?_map, h]
    rfl
  rw [hk, List.getElem?_map] at e
  obtain ⟨l, h1, h2⟩ := Option.map_eq_some_iff.mp e
  exact ⟨l, h1, h2.symm⟩
theorem places_length {ch : Bool} {zs : List Str} (nd : zs.Nodup) : (placesOf (lotsFor ch zs)).length = (lotsFor ch zs).length := by
  have hk := places_keys (lots_nodup (ch := ch) nd) (lotsFor ch zs).length (Nat.le_refl _)
  rw [List.take_length] at hk
  have := congrArg List.length hk
  rw [List.length_map, List.length_map] at this
  exact this
theorem str_key (l : List Str) : (l.map Sum.inr : List Key).map kV = l.map V.str := by
  rw [List.map_map]
  rfl
end Bk

namespace Bk
open PySem PySem.Spec PyProof.Rows L2
/-- Question(folders, weights): the entries F that are told -/
def spQuest (K : PySem.W.Frag) (C CQ : Addr) : Sp := fun vs H Q _ => ∃ (q x dq dx t pd : Addr) (wv : V) (zs : List Str) (ch : Bool) (wt : List Str → Int), vs = [.ref q, .ref x, wv] ∧ H q = some (.ins CQ dq []) ∧ H x = some (.ins C dx (foldersF t pd ch)) ∧ H t = some (.tup (zs.map V.str)) ∧ H pd = some (.dT (placesOf (lotsFor ch zs))) ∧
  zs.Nodup ∧ zs.length ≤ mostFor ch ∧ ((wv = .non ∧ ∀ l ∈ lotsFor ch zs, wt l = 0) ∨ ∃ (d : Addr) (es : List (List Str × Int)), wv = .ref d ∧ pd ≠ d ∧ H d = some (.dT (tabV (entT es))) ∧ Ents ch zs es ∧ ∀ l ∈ lotsFor ch zs, wt l = (getT (foundT zs es) (l.map Sum.inr)).getD 0) ∧
  ∀ H', QuestAt C CQ H' q x zs ch wt → (∀ b u, b ≠ q → H b = some u → H' b = some u) → Q .non H'
section
variable {P : Program} {w : World} {K : PySem.W.Frag} {mg : Str → Option Value} {base : Heap}
theorem scQuest : FnScope ["self", "folders", "weights", "told", "lot"] ["self", "folders", "weights"] (defScope (inClass (topS 41) 0)) := ⟨rfl, rfl, rfl, by decide +kernel, rfl, by decide +kernel, by decide +kernel⟩
theorem ok_quest (B : Bi mg) {C CQ f0 fQ f f1 : Addr} {fd fd1 : FuncData} {dvs : List V} (T : FolT K mg C f0) (TQ : QueT K mg CQ fQ) (c_numbers_by_lots : Cal P w K mg base CX0 3 "numbers_by_lots" f1 fd1 ["folders", "weights"] (spNums K C))
    (F : FunD K "__init__" "Question.__init__" (defArgs (inClass (topS 41) 0)) (defBody (inClass (topS 41) 0)) (defScope (inClass (topS 41) 0)) dvs [] f fd) : FnOk P w K mg base CX0 4 f fd ["self", "folders", "weights"] (spQuest K C CQ) := by
  refine F.ok scQuest (fun vs H Q E h => ?_) (fun cdv A outer s H vs Q E hr h => ?_)
  · obtain ⟨q, x, dq, dx, t, pd, wv, zs, ch, wt, rfl, _⟩ := h
    rfl
  · obtain ⟨q, x, dq, dx, t, pd, wv, zs, ch, wt, rfl, hq, hx, ht, hp, nz, lz, hw, qq⟩ := h
    have nd := scQuest.nd
    have hu := hu_of hr
    have l12 : zs.length ≤ 12 := Nat.le_trans lz (by cases ch <;> decide)
    have hr_numbers_by_lots : Room 3 _ := hr.mono (by decide)
    refine ⟨_, (Evl.pss_cut (ps_set (i := 3) nd rfl (Or.inr rfl) (pe_ifExp (pt_cmpR op_isN (pv 2) pe_non (nomark _)) pe_dnewT (pe_call c_numbers_by_lots.ok hr_numbers_by_lots (by rfl) c_numbers_by_lots.g c_numbers_by_lots.kp c_numbers_by_lots.b .nil pass0 (pa_cons (pv 1) (pa_cons (pv 2) pa_nil)))))
      (pss_cons (ps_fld (pv 0) (pv 1) rfl)
      (pss_one (ps_fld (pv 0) (pe_lock (pe_dcTI (own := [("lot", 4)]) hr.units0 rfl nd (pi_keys (pe_fld (pv 1) rfl)) (blkOk_by (N := ["self", "folders", "weights", "told", "lot"]) (sc := defScope (inClass (topS 41) 0)) (by decide +kernel)) (fun _ _ _ _ _ => (pg_name (i := 4) nd rfl (Or.inl rfl))) (fun _ _ _ _ _ => (pts_one (pt_cmpR op_ne (pe_dget2 hu (pv 3) (pv 4) pe_int ⟨rfl, rfl, rfl, rfl⟩) pe_int (nomark _)))) (fun _ _ _ _ _ => (pv 4)) (fun _ _ _ _ _ => (pe_dget hu (pv 3) (pv 4) (fun _ _ => rfl))))) rfl)))), ?_⟩
    -- told
    refine ⟨fun σ1 H1 => ∃ (D : Addr) (F : List (List Key × Int)), σ1 = [some (.ref q), some (.ref x), some wv, some (.ref D), none] ∧ H D = none ∧ Same H H1 ∧ H1 D = some (.dT (tabV F)) ∧ ∀ l ∈ lotsFor ch zs, wt l = (getT F (l.map Sum.inr)).getD 0, ?_, ?_⟩
    · rcases hw with ⟨rfl, h0⟩ | ⟨d, es, rfl, npd, hd, hE, h0⟩
      · refine ⟨_, rfl, rfl, _, rfl, ?_⟩
        refine iteT ?_
        intro D nD
        exact ⟨D, [], rfl, nD, same_upd nD, upd_same, fun l m => by rw [h0 l m]; rfl⟩
      · refine ⟨_, rfl, rfl, _, rfl, ?_⟩
        refine iteF ?_
        exact ⟨_, rfl, _, rfl, x, d, dx, t, pd, zs, ch, es, rfl, hx, ht, hp, npd, nz, l12, hd, hE, fun D H' nD e1 hD => ⟨D, _, rfl, nD, e1, hD, h0⟩⟩
    rintro σ1 H1 ⟨D, F, rfl, nD, e1, hD1, hwt⟩
    -- self.folders
    have hxq : x ≠ q := fun z => by subst z; rw [hx] at hq; injection hq with hq; injection hq with _ _ h3; cases h3
    have htq : t ≠ q := ne_of ht hq (fun z => nomatch z)
    have hpq : pd ≠ q := ne_of hp hq (fun z => nomatch z)
    have hDq : D ≠ q := (ne_of_none hq nD).symm
    refine ⟨_, rfl, _, rfl, q, CQ, dq, [], rfl, e1 _ _ hq, TQ.cl, TQ.nF, by decide, ?_⟩
    rw [putq1]
    have hq2 : upd H1 q (.ins CQ dq [("folders", .ref x)]) q = some (.ins CQ dq [("folders", .ref x)]) := upd_same
    have k2 : ∀ b u, b ≠ q → H b = some u → upd H1 q (.ins CQ dq [("folders", .ref x)]) b = some u := fun b u nb z => by rw [upd_ne nb]; exact e1 _ _ z
    have hD2 : upd H1 q (.ins CQ dq [("folders", .ref x)]) D = some (.dT (tabV F)) := by rw [upd_ne hDq]; exact hD1
    generalize upd H1 q (.ins CQ dq [("folders", .ref x)]) = H2 at hq2 k2 hD2 ⊢
    -- self.table
    have hp2 := k2 _ _ hpq hp
    refine ⟨pd, _, hp2, trivial, fun od => ?_⟩
    have hxp : x ≠ pd := ne_of hx hp (fun z => nomatch z)
    have htp : t ≠ pd := ne_of ht hp (fun z => nomatch z)
    have hqp : q ≠ pd := hpq.symm
    have hDp : D ≠ pd := (ne_of_none hp nD).symm
    have hx3 : upd H2 pd (.frz od (.dT (placesOf (lotsFor ch zs)))) x = some (.ins C dx (foldersF t pd ch)) := by rw [upd_ne hxp]; exact k2 _ _ hxq hx
    have hp3 : upd H2 pd (.frz od (.dT (placesOf (lotsFor ch zs)))) pd = some (.frz od (.dT (placesOf (lotsFor ch zs)))) := upd_same
    have hD3 : upd H2 pd (.frz od (.dT (placesOf (lotsFor ch zs)))) D = some (.dT (tabV F)) := by rw [upd_ne hDp]; exact hD2
    refine ⟨_, rfl, x, C, dx, _, _, rfl, hx3, T.cl, T.nP, look_places _ _ _, pd, od, rfl, .inr ⟨_, hp3, fun D2 nD2 => ?_⟩⟩
    have lots3 : (lotsFor ch zs).length ≤ 2000 := lots_few lz
    refine dcI_it walk_keysT (fun i H' => Same (upd H2 pd (.frz od (.dT (placesOf (lotsFor ch zs))))) H' ∧ H' D2 = some (.dT (tabV (tabL (((lotsFor ch zs).take i).filter fun l => decide (wt l ≠ 0)) wt)))) ?_ (fun i H' _ ⟨e3, _⟩ => e3 _ _ hp3) ?_ ?_
    · exact ⟨same_upd nD2, upd_same⟩
    · rintro i y H3 H4 hi ⟨e3, hd3⟩ ⟨rfl, k, v, qa, hk, rfl, hqa⟩
      obtain ⟨l, hl, rfl⟩ := places_key nz hk
      refine ⟨rfl, ?_⟩
      have hqs : H4 qa = some (.tup ((l.map Sum.inr : List Key).map kV)) := hqa
      have hget : (valV (tabV F) (l.map Sum.inr)).getD (.int 0) = .int (wt l) := by
        rw [valV_tab, hwt l (List.mem_of_getElem? hl)]
        cases getT F (l.map Sum.inr) <;> rfl
      refine ⟨_, rfl, D, rfl, .inr ⟨_, .inl (e3 _ _ hD3)⟩, _, rfl, _, DGet.t (e3 _ _ hD3) hqs, ?_⟩
      rw [hget]
      refine ⟨rfl, _, rfl, ?_⟩
      have htake : (((lotsFor ch zs).take (i + 1)).filter fun l => decide (wt l ≠ 0)) = (((lotsFor ch zs).take i).filter fun l => decide (wt l ≠ 0)) ++ if wt l = 0 then [] else [l] := by
        rw [take_succ hl, List.filter_append]
        by_cases z : wt l = 0
        · simp [z]
        · simp [z]
      by_cases z : wt l = 0
      · rw [show (!decide (V.int (wt l) = V.int 0)) = false by rw [z]; rfl]
        rw [if_pos z, List.append_nil] at htake
        refine iteF ?_
        exact ⟨e3, by rw [htake]; exact hd3⟩
      · rw [show (!decide (V.int (wt l) = V.int 0)) = true by rw [decide_eq_false (fun h => z (by injection h))]; rfl]
        rw [if_neg z] at htake
        refine iteT ?_
        have hg : getT F (l.map Sum.inr) = some (wt l) := by
          have h := hwt l (List.mem_of_getElem? hl)
          cases e : getT F (l.map Sum.inr) with
          | none => rw [e] at h; exact absurd h z
          | some j => rw [e] at h; rw [h]; rfl
        refine ⟨_, rfl, _, rfl, _, rfl, D, .int (wt l), rfl, ?_, _, l.map Sum.inr, qa, rfl, hqs, hd3, ?_, Same.grow e3 nD2, ?_⟩
        · have := DGet.t (e3 _ _ hD3) hqs
          rw [valV_tab, hg] at this
          exact this
        · rw [tab_len]
          unfold tabL
          rw [List.length_map]
          have h1 := List.length_filter_le (fun l => decide (wt l ≠ 0)) ((lotsFor ch zs).take i)
          rw [List.length_take] at h1
          exact Evl.sz_lt (by omega)
        · have hnew : l ∉ ((lotsFor ch zs).take i).filter fun l => decide (wt l ≠ 0) := by
            intro m
            obtain ⟨j, hj, e⟩ := List.mem_take_iff_getElem.mp (List.mem_filter.mp m).1
            have hil := (List.getElem?_eq_some_iff.mp hl).1
            have := nodup_inj (lots_nodup (ch := ch) nz) (i := j) (j := i) (by omega) hil (by
              rw [e]
              exact (List.getElem?_eq_some_iff.mp hl).2.symm)
            omega
          rw [upd_same, tab_put hnew, htake]
    · rintro H3 ⟨e3, hd3⟩
      rw [places_length nz, List.take_length] at hd3
      refine ⟨e3 _ _ hp3, ?_⟩
      have hq3 : upd H2 pd (.frz od (.dT (placesOf (lotsFor ch zs)))) q = some (.ins CQ dq [("folders", .ref x)]) := by rw [upd_ne hqp]; exact hq2
      have ht3 : upd H2 pd (.frz od (.dT (placesOf (lotsFor ch zs)))) t = some (.tup (zs.map V.str)) := by rw [upd_ne htp]; exact k2 _ _ htq ht
      have n2p : D2 ≠ pd := (ne_of_none hp3 nD2).symm
      have n2q : D2 ≠ q := (ne_of_none hq3 nD2).symm
      refine ⟨_, rfl, q, CQ, dq, [("folders", .ref x)], rfl, by rw [upd_ne hqp]; exact e3 _ _ hq3, TQ.cl, TQ.nT, by show 1 < 1000; decide, ?_⟩
      rw [putq2]
      refine qq _ ⟨dq, D2, upd_same, ⟨dx, t, pd, ?_, ?_, ?_⟩, ?_⟩ fun b u nb z => ?_
      · rw [upd_ne hxq, upd_ne hxp]; exact e3 _ _ hx3
      · rw [upd_ne htq, upd_ne htp]; exact e3 _ _ ht3
      · rw [upd_ne hpq, upd_same]
      · rw [upd_ne n2q, upd_ne n2p]; exact hd3
      · rw [upd_ne nb]
        by_cases nb2 : b = pd
        · subst nb2
          rw [upd_same, ← z, hp]
        · rw [upd_ne nb2]
          refine e3 _ _ ?_
          rw [upd_ne nb2]
          exact k2 _ _ nb z
end
end Bk

/-! the same with K told, and xs[::-1] -/
namespace Bk
open PySem PySem.Spec PyProof.Rows L2
section
variable {X : Cx} {CX : CXT} {n : Nat} {C f : Addr} {fd : FuncData} {ps : List Str} {sp : Sp} {E : XK} (K : PySem.W.Frag)
theorem kEqOwn (F : FnOk X.prog X.w X.K X.mg X.base CX n f fd ps sp) (hb : Binds X.K fd ps []) (hx : Passes CX X E) (hr : Room n X.A) (m : Own X.K C "__eq__" f) (e : X.K = K := by rfl) : OpR X (compareOp .Eq) (rCmpOwn K C sp E) := e ▸ op_cmpOwn (op := .Eq) F hb hx hr m
theorem kEqRefl (F : FnOk X.prog X.w X.K X.mg X.base CX n f fd ps sp) (hb : Binds X.K fd ps []) (hx : Passes CX X E) (hr : Room n X.A) (m : Own X.K C "__eq__" f) (e : X.K = K := by rfl) : OpR X (compareOp .Eq) (rEqRefl K C sp E) := e ▸ op_eqRefl F hb hx hr m
theorem kRev {e : Expr} {te : TE} {k : Nat} {p1 p2 p3 pos : Pos} (he : PE X e te) (h : X.K = K := by rfl) : PE X (.Subscript e (.Slice none none (some (.UnaryOp .USub (.Constant (.int 1) k p1) p2)) p3) pos) (tRevL K te) := h ▸ pe_revL he
end
end Bk

namespace Bk
open PySem PySem.Spec PyProof.Rows L2
def spWeight (K : PySem.W.Frag) (C CQ : Addr) : Sp := fun vs H Q _ => ∃ (q x a : Addr) (zs l : List Str) (ch : Bool) (wt : List Str → Int), vs = [.ref q, .ref a] ∧ QuestAt C CQ H q x zs ch wt ∧ zs.Nodup ∧ zs.length ≤ 12 ∧ l ∈ lotsFor ch zs ∧ zs.length ≤ mostFor ch ∧
  H a = some (.tup (l.map V.str)) ∧ ∀ H', Same H H' → Q (.int (wt l)) H'
def spQEq (K : PySem.W.Frag) (C CQ : Addr) : Sp := fun vs H Q _ => ∃ (q x q' x' : Addr) (zs zs' : List Str) (ch ch' : Bool) (wt wt' : List Str → Int), vs = [.ref q, .ref q'] ∧ QuestAt C CQ H q x zs ch wt ∧ QuestAt C CQ H q' x' zs' ch' wt' ∧
  (∀ z ∈ zs, isNameS z = true) ∧ (∀ z ∈ zs', isNameS z = true) ∧ ∀ H', Same H H' → Q (.bl (decide (zs = zs') && decide (ch = ch') && sameT (tableOf ch zs wt) (tableOf ch' zs' wt'))) H'
section
variable {P : Program} {w : World} {K : PySem.W.Frag} {mg : Str → Option Value} {base : Heap}
theorem scWeight : FnScope ["self", "lot", "known"] ["self", "lot"] (defScope (inClass (topS 41) 8)) := ⟨rfl, rfl, rfl, by decide +kernel, rfl, by decide +kernel, by decide +kernel⟩
theorem ok_weight (B : Bi mg) {C CQ f0 fQ f f1 : Addr} {fd fd1 : FuncData} (T : FolT K mg C f0) (TQ : QueT K mg CQ fQ) (c_lot_of : Cal P w K mg base CX0 2 "lot_of" f1 fd1 ["folders", "thing"] (spLotOf K C))
    (F : Fun K "weight" "Question.weight" (inClass (topS 41) 8) f fd) : FnOk P w K mg base CX0 3 f fd ["self", "lot"] (spWeight K C CQ) := by
  refine F.ok scWeight (fun vs H Q E h => ?_) (fun cdv A outer s H vs Q E hr h => ?_)
  · obtain ⟨q, x, a, zs, l, ch, wt, rfl, _⟩ := h
    rfl
  · obtain ⟨q, x, a, zs, l, ch, wt, rfl, QA, nz, l12, m, lz, ha, qq⟩ := h
    obtain ⟨dq, td, hq, FA, htd⟩ := QA
    have nd := scWeight.nd
    have hu := hu_of hr
    have hr_lot_of : Room 2 _ := hr.mono (by decide)
    refine ⟨_, (pss_cons (ps_set (i := 2) nd rfl (Or.inl rfl) (pe_call c_lot_of.ok hr_lot_of (by rfl) c_lot_of.g c_lot_of.kp c_lot_of.b .nil pass0 (pa_cons (pe_fld (pv 0) rfl) (pa_cons (pv 1) pa_nil))))
      (pss_cons (ps_if (pt_cmpR op_isN (pv 2) pe_non (nomark _)) (pss_one ps_no) pss_nil)
      (pss_one (ps_ret (pe_dget2 hu (pe_fld (pv 0) rfl) (pv 2) pe_int ⟨rfl, rfl, rfl, rfl⟩))))), ?_⟩
    have hl := lotOfV_lot (ch := ch) lz nz m
    refine ⟨_, rfl, q, CQ, dq, _, _, rfl, hq, TQ.cl, TQ.nF, look_folders _ _, _, rfl, x, .ref a, zs, ch, rfl, FA, nz, l12, .inr ⟨a, l.map V.str, rfl, .inr (SqT.of ha), sqs_kit (k := "tuple") (b1 := false) (b2 := true) (.base (.tup ha)) (by decide +kernel) (by decide +kernel), flat_strs _, ?_, fun H' e' hn => ?_, fun p l' H1 np e1 hl' hp1 => ?_⟩⟩
    · have := lot_len m
      rw [List.length_map]
      omega
    · rw [hl] at hn
      cases hn
    rw [hl] at hl'
    obtain rfl := Option.some.inj hl'
    refine ⟨_, rfl, rfl, _, rfl, ?_⟩
    refine iteF ?_
    have hp1' : H1 p = some (.tup ((l.map Sum.inr : List Key).map kV)) := by rw [hp1, str_key]
    refine ⟨_, rfl, q, CQ, dq, _, _, rfl, e1 _ _ hq, TQ.cl, TQ.nT, look_table _ _, td, rfl, .inr ⟨_, .inl (e1 _ _ htd)⟩, _, rfl, _, DGet.t (e1 _ _ htd) hp1', ?_⟩
    have hg := getT_table (wt := wt) m
    rw [valV_tab]
    have : ((getT (tableOf ch zs wt) (l.map Sum.inr)).map V.int).getD (.int 0) = .int (wt l) := by
      rw [← hg]
      cases getT (tableOf ch zs wt) (l.map Sum.inr) <;> rfl
    rw [this]
    exact qq H1 e1
theorem scQEq : FnScope ["self", "other"] ["self", "other"] (defScope (inClass (topS 41) 1)) := ⟨rfl, rfl, rfl, by decide +kernel, rfl, by decide +kernel, by decide +kernel⟩
theorem ok_qeq (B : Bi mg) {C CQ f0 fQ fE f : Addr} {fdE fd : FuncData} (T : FolT K mg C f0) (TQ : QueT K mg CQ fQ) (kQ : PySem.W.kitOne K (.ref CQ) (.ref CQ) = some true) (tQ : ∀ (H : Hp) (x dx : Addr) (fs : List (Str × V)), H x = some (.ins CQ dx fs) → TyX K H (.ref x) (.ref CQ))
    (kF : PySem.W.kitOne K (.ref C) (.ref C) = some true) (nC : PySem.W.notFirst K C (.ref C) = true) (tF : ∀ (H : Hp) (x dx : Addr) (fs : List (Str × V)), H x = some (.ins C dx fs) → TyX K H (.ref x) (.ref C))
    (GE : FnOk P w K mg base CX0 1 fE fdE ["self", "other"] (spFEq K C)) (bE : Binds K fdE ["self", "other"] []) (mE : Own K C "__eq__" fE)
    (F : Fun K "__eq__" "Question.__eq__" (inClass (topS 41) 1) f fd) : FnOk P w K mg base CX0 2 f fd ["self", "other"] (spQEq K C CQ) := by
  refine F.ok scQEq (fun vs H Q E h => ?_) (fun cdv A outer s H vs Q E hr h => ?_)
  · obtain ⟨q, x, q', x', zs, zs', ch, ch', wt, wt', rfl, _⟩ := h
    rfl
  · obtain ⟨q, x, q', x', zs, zs', ch, ch', wt, wt', rfl, ⟨dq, td, hq, FA, htd⟩, ⟨dq', td', hq', FA', htd'⟩, hn, hn', qq⟩ := h
    have nd := scQEq.nd
    have hu := hu_of hr
    have g_Question := TQ.g
    have hrE : Room 1 _ := hr.mono (by decide)
    refine ⟨_, (pss_one (ps_ret (pe_and (pe_callB (kIsi K) (by rfl) B.isinstance (by decide +kernel) (pa_cons (pv 1) (pa_cons (pe_glob (v := .ref _) (by rfl) g_Question rfl) pa_nil))) (pe_and (pe_cmpR (kEqOwn K GE bE pass0 hrE mE) (pe_fld (pv 0) rfl) (pe_fld (pv 1) rfl) (nomark _)) (pe_one (pe_cmpR (op_eqT hu) (pe_fld (pv 0) rfl) (pe_fld (pv 1) rfl) (nomark _))))))), ?_⟩
    refine ⟨_, rfl, .ref q', .ref CQ, .ref CQ, .ref CQ, true, rfl, .own _, tQ _ _ _ _ hq', kQ, _, rfl, ?_⟩
    refine iteT ?_
    obtain ⟨dx, t, pd, hx, _, _⟩ := id FA
    obtain ⟨dx', t', pd', hx', _, _⟩ := id FA'
    refine ⟨_, rfl, q, CQ, dq, _, _, rfl, hq, TQ.cl, TQ.nF, look_folders _ _, _, rfl, q', CQ, dq', _, _, rfl, hq', TQ.cl, TQ.nF, look_folders _ _, ?_⟩
    refine ⟨x, dx, _, .ref C, rfl, hx, tF _ _ _ _ hx', nC, x, .ref x', .ref C, zs, ch, _, rfl, FA, hn, tF _ _ _ _ hx', .inr ⟨kF, x', zs', ch', rfl, FA', hn', rfl⟩, fun H1 e1 => ⟨_, rfl, _, rfl, ?_⟩⟩
    have qq := qq H1 e1
    cases hb : decide (zs = zs') && decide (ch = ch') with
    | false =>
      rw [hb] at qq
      refine iteF ?_
      exact qq
    | true =>
      rw [hb, Bool.true_and] at qq
      refine iteT ?_
      refine ⟨_, rfl, q, CQ, dq, _, _, rfl, e1 _ _ hq, TQ.cl, TQ.nT, look_table _ _, _, rfl, q', CQ, dq', _, _, rfl, e1 _ _ hq', TQ.cl, TQ.nT, look_table _ _, ?_⟩
      exact ⟨td, td', _, _, rfl, rfl, e1 _ _ htd, e1 _ _ htd', qq⟩
end
end Bk

/-! comprehensions that map or filter, over lists, tuples and the places -/
namespace Bk
open PySem PySem.Spec PyProof.Rows L2
section
variable {J : It} {G : Hp → Prop} {xs : List V}
/-- [F(x) for x in xs] -/
theorem map_it (w : Walk J xs.length G (YAt xs)) {g : TG} {te : TE} {vs : List Nat} {σ : L2.St} {H1 : Hp} {D : Addr} {Qd : Hp → Prop} (F : V → V) (nD : H1 D = none) (hG : ∀ H', Same H1 H' → G H') (hl : xs.length ≤ 100000)
    (hs : ∀ v H' (R : VK), v ∈ xs → Same H1 H' → (∀ H2, Same H' H2 → R (F v) H2) → g v (wipe σ vs) H' fun σ2 H2 => wipe σ2 vs = wipe σ vs ∧ te σ2 H2 R)
    (hd : ∀ H', Same H1 H' → H' D = some (.lst (xs.map F)) → Qd H') :
    ∃ W : Nat → Nat → Hp → Prop, (∃ m, W 0 m (upd H1 D (.lst []))) ∧ ∀ i m H, W i m H →
      (J.stop i H ∧ Qd H) ∨ (J.go i H ∧ ∃ Nx : Hp → Prop, (∀ H', Nx H' → ∃ m', m' < m ∧ W (i + 1) m' H') ∧ ∀ x H', J.yld i H x H' → g x (wipe σ vs) H' fun σ2 H2 => wipe σ2 vs = wipe σ vs ∧ tYes σ2 H2 fun b H3 =>
        if b = true then te σ2 H3 fun y H4 => ∃ acc, H4 D = some (.lst acc) ∧ acc.length < sizeLine ∧ Nx (upd H4 D (.lst (acc ++ [y]))) else Nx H3) := by
  refine lc_it w (Upto H1 D xs F) (.zero nD) (fun i H' _ u => hG H' u.sm) ?_ fun H' u => hd H' u.sm (u.all rfl)
  rintro i x H' H2 hi u ⟨rfl, hx⟩
  have h := hs x H2 (fun y H4 => ∃ acc, H4 D = some (.lst acc) ∧ acc.length < sizeLine ∧ Upto H1 D xs F (i + 1) (upd H4 D (.lst (acc ++ [y])))) (List.mem_of_getElem? hx) u.sm fun H3 e3 => u.next nD hx e3 hl
  exact h
/-- [x for x in xs if p(x)] -/
theorem filt_it (w : Walk J xs.length G (YAt xs)) {g : TG} {tt : TT} {vs : List Nat} {k : Nat} {σ : L2.St} {H1 : Hp} {D : Addr} {Qd : Hp → Prop} (p : V → Bool) (nD : H1 D = none) (hG : ∀ H', Same H1 H' → G H') (hl : xs.length ≤ 100000)
    (hs : ∀ v H' (R : L2.St → Bool → Hp → Prop), v ∈ xs → Same H1 H' → (∀ σ2 H2, σ2[k]? = some (some v) → Same H' H2 → R σ2 (p v) H2) → g v (wipe σ vs) H' fun σ2 H2 => wipe σ2 vs = wipe σ vs ∧ tt σ2 H2 (R σ2))
    (hd : ∀ H', Same H1 H' → H' D = some (.lst (xs.filter p)) → Qd H') :
    ∃ W : Nat → Nat → Hp → Prop, (∃ m, W 0 m (upd H1 D (.lst []))) ∧ ∀ i m H, W i m H →
      (J.stop i H ∧ Qd H) ∨ (J.go i H ∧ ∃ Nx : Hp → Prop, (∀ H', Nx H' → ∃ m', m' < m ∧ W (i + 1) m' H') ∧ ∀ x H', J.yld i H x H' → g x (wipe σ vs) H' fun σ2 H2 => wipe σ2 vs = wipe σ vs ∧ tt σ2 H2 fun b H3 =>
        if b = true then tVar k σ2 H3 fun y H4 => ∃ acc, H4 D = some (.lst acc) ∧ acc.length < sizeLine ∧ Nx (upd H4 D (.lst (acc ++ [y]))) else Nx H3) := by
  refine lc_it w (UptoF H1 D xs id p) (.zero nD) (fun i H' _ u => hG H' u.sm) ?_ fun H' u => hd H' u.sm (by have := u.all rfl; rwa [List.map_id] at this)
  rintro i x H' H2 hi u ⟨rfl, hx⟩
  have h := hs x H2 (fun σ2 b H3 => if b = true then tVar k σ2 H3 fun y H4 => ∃ acc, H4 D = some (.lst acc) ∧ acc.length < sizeLine ∧ UptoF H1 D xs id p (i + 1) (upd H4 D (.lst (acc ++ [y]))) else UptoF H1 D xs id p (i + 1) H3) (List.mem_of_getElem? hx) u.sm fun σ2 H3 e2 e3 => by
    cases hp : p x with
    | true =>
      rw [if_pos rfl]
      exact ⟨_, e2, u.yes nD hx hp e3 hl⟩
    | false =>
      rw [if_neg Bool.false_ne_true]
      exact u.no hx hp e3
  exact h
end
/-- what a list or a tuple in a slot is gone through -/
def iLT (K : PySem.W.Frag) (tl : TE) : TI := fun σ H R => iList K tl σ H R ∨ iTup K tl σ H R
section
variable {K : PySem.W.Frag} {a : Addr} {xs : List V} {i : Nat} {σ : L2.St} {H : Hp}
theorem walk_S {R : It → Hp → Prop} (hv : σ[i]? = some (some (.ref a))) (hS : SqL K H a xs ∨ SqT K H a xs) (h : ∀ (J : It) (G : Hp → Prop), Walk J xs.length G (YAt xs) → (∀ H', Same H H' → G H') → R J H) : iLT K (tVar i) σ H R := by
  rcases hS with hS | hS
  · exact .inl ⟨_, hv, a, rfl, ⟨xs, hS⟩, h _ _ walk_list fun H' e => e.seq hS⟩
  · exact .inr ⟨_, hv, a, rfl, ⟨xs, hS⟩, h _ _ walk_tup fun H' e => Same.sqt e hS⟩
theorem for_S {g : TG} {tb : TS} {D : Ends} (hv : σ[i]? = some (some (.ref a))) (hS : SqL K H a xs ∨ SqT K H a xs) (Pv : Nat → L2.St → Hp → Prop) (h0 : Pv 0 σ H) (hG : ∀ k σ' H', Pv k σ' H' → Same H H')
    (hs : ∀ k x σ' H', k < xs.length → xs[k]? = some x → Pv k σ' H' → g x σ' H' fun σ2 H3 => tb { D with nx := Pv (k + 1), ct := Pv (k + 1), bk := D.nx } σ2 H3) (hd : ∀ σ' H', Pv xs.length σ' H' → D.nx σ' H') :
    tFor (iLT K (tVar i)) g tb D σ H :=
  walk_S hv hS fun J G wk kG => for_it wk Pv h0 (fun k σ' H' _ p => kG H' (hG k σ' H' p)) (fun k x σ' H' H2 hk p y => by
    obtain ⟨rfl, hx⟩ := y
    exact hs k x σ' H2 hk hx p) hd
theorem map_S {g : TG} {te : TE} {vs : List Nat} {Q : VK} (F : V → V) (hv : σ[i]? = some (some (.ref a))) (hS : SqL K H a xs ∨ SqT K H a xs) (hl : xs.length ≤ 100000)
    (hs : ∀ v H' (R : VK), v ∈ xs → Same H H' → (∀ H2, Same H' H2 → R (F v) H2) → g v (wipe σ vs) H' fun σ2 H2 => wipe σ2 vs = wipe σ vs ∧ te σ2 H2 R)
    (hd : ∀ D H', H D = none → Same H H' → H' D = some (.lst (xs.map F)) → Q (.ref D) H') : tLc (iLT K (tVar i)) g tYes te vs σ H Q :=
  walk_S hv hS fun J G wk kG D nD => map_it wk F nD kG hl hs fun H' e h => hd D H' nD e h
theorem map_L {g : TG} {te : TE} {vs : List Nat} {Q : VK} (F : V → V) (hv : σ[i]? = some (some (.ref a))) (hS : SqL K H a xs) (hl : xs.length ≤ 100000)
    (hs : ∀ v H' (R : VK), v ∈ xs → Same H H' → (∀ H2, Same H' H2 → R (F v) H2) → g v (wipe σ vs) H' fun σ2 H2 => wipe σ2 vs = wipe σ vs ∧ te σ2 H2 R)
    (hd : ∀ D H', H D = none → Same H H' → H' D = some (.lst (xs.map F)) → Q (.ref D) H') : tLc (iList K (tVar i)) g tYes te vs σ H Q :=
  ⟨_, hv, a, rfl, ⟨xs, hS⟩, fun D nD => map_it walk_list F nD (fun H' e => e.seq hS) hl hs fun H' e h => hd D H' nD e h⟩
theorem map_T {g : TG} {te : TE} {vs : List Nat} {Q : VK} (F : V → V) (hv : σ[i]? = some (some (.ref a))) (hS : SqT K H a xs) (hl : xs.length ≤ 100000)
    (hs : ∀ v H' (R : VK), v ∈ xs → Same H H' → (∀ H2, Same H' H2 → R (F v) H2) → g v (wipe σ vs) H' fun σ2 H2 => wipe σ2 vs = wipe σ vs ∧ te σ2 H2 R)
    (hd : ∀ D H', H D = none → Same H H' → H' D = some (.lst (xs.map F)) → Q (.ref D) H') : tLc (iTup K (tVar i)) g tYes te vs σ H Q :=
  ⟨_, hv, a, rfl, ⟨xs, hS⟩, fun D nD => map_it walk_tup F nD (fun H' e => Same.sqt e hS) hl hs fun H' e h => hd D H' nD e h⟩
end
/-- [lot for lot in folders.places if p(lot)] -/
theorem places_it {od : Obj} {pd D : Addr} {ch : Bool} {zs : List Str} {g : TG} {tt : TT} {vs : List Nat} {k : Nat} {σ : L2.St} {H1 : Hp} {Qd : Hp → Prop} (nz : zs.Nodup) (lz : zs.length ≤ mostFor ch) (p : List Str → Bool) (hp : H1 pd = some (.frz od (.dT (placesOf (lotsFor ch zs))))) (nD : H1 D = none)
    (hs : ∀ l q H' (R : L2.St → Bool → Hp → Prop), l ∈ lotsFor ch zs → Same H1 H' → H' q = some (.tup (l.map V.str)) → (∀ σ2 H2, σ2[k]? = some (some (.ref q)) → Same H' H2 → R σ2 (p l) H2) → g (.ref q) (wipe σ vs) H' fun σ2 H2 => wipe σ2 vs = wipe σ vs ∧ tt σ2 H2 (R σ2))
    (hd : ∀ ws H', Same H1 H' → H' D = some (.lst ws) → Ats H' (fun l : List Str => l.map V.str) ws ((lotsFor ch zs).filter p) → Qd H') :
    ∃ W : Nat → Nat → Hp → Prop, (∃ m, W 0 m (upd H1 D (.lst []))) ∧ ∀ i m H, W i m H →
      ((Itkt pd od (placesOf (lotsFor ch zs))).stop i H ∧ Qd H) ∨ ((Itkt pd od (placesOf (lotsFor ch zs))).go i H ∧ ∃ Nx : Hp → Prop, (∀ H', Nx H' → ∃ m', m' < m ∧ W (i + 1) m' H') ∧ ∀ x H', (Itkt pd od (placesOf (lotsFor ch zs))).yld i H x H' → g x (wipe σ vs) H' fun σ2 H2 => wipe σ2 vs = wipe σ vs ∧ tt σ2 H2 fun b H3 =>
        if b = true then tVar k σ2 H3 fun y H4 => ∃ acc, H4 D = some (.lst acc) ∧ acc.length < sizeLine ∧ Nx (upd H4 D (.lst (acc ++ [y]))) else Nx H3) := by
  have lots3 : (lotsFor ch zs).length ≤ 2000 := lots_few lz
  refine lc_it walk_keysT (fun i H' => ∃ ws, Same H1 H' ∧ H' D = some (.lst ws) ∧ Ats H' (fun l : List Str => l.map V.str) ws (((lotsFor ch zs).take i).filter p)) ⟨[], same_upd nD, upd_same, .nil⟩ (fun i H' _ ⟨_, e, _⟩ => e _ _ hp) ?_ ?_
  · rintro i x H' H2 hi ⟨ws, e, hD, at1⟩ ⟨rfl, kk, v, q, hk, rfl, hq⟩
    obtain ⟨l, hl, rfl⟩ := places_key nz hk
    rw [str_key] at hq
    have lenw : ws.length ≤ 2000 := by
      rw [at1.1]
      have h1 := List.length_filter_le p ((lotsFor ch zs).take i)
      rw [List.length_take] at h1
      omega
    have htake : ((lotsFor ch zs).take (i + 1)).filter p = ((lotsFor ch zs).take i).filter p ++ if p l = true then [l] else [] := by
      rw [take_succ hl, List.filter_append]
      cases h : p l <;> simp [h]
    exact hs l q H2 (fun σ2 b H3 => if b = true then tVar k σ2 H3 fun y H4 => ∃ acc, H4 D = some (.lst acc) ∧ acc.length < sizeLine ∧ (∃ ws, Same H1 (upd H4 D (.lst (acc ++ [y]))) ∧ (upd H4 D (.lst (acc ++ [y]))) D = some (.lst ws) ∧ Ats (upd H4 D (.lst (acc ++ [y]))) (fun l : List Str => l.map V.str) ws (((lotsFor ch zs).take (i + 1)).filter p)) else ∃ ws, Same H1 H3 ∧ H3 D = some (.lst ws) ∧ Ats H3 (fun l : List Str => l.map V.str) ws (((lotsFor ch zs).take (i + 1)).filter p))
      (List.mem_of_getElem? hl) e hq fun σ2 H3 e2 e3 => by
      cases h : p l with
      | true =>
        rw [if_pos rfl]
        have hD3 := e3 _ _ hD
        refine ⟨_, e2, ws, hD3, Evl.sz_lt (by omega), ws ++ [.ref q], Same.grow (Same.trans e e3) nD, upd_same, ?_⟩
        rw [htake, if_pos h]
        exact ((at1.same e3).append (Ats.one (e3 _ _ hq))).updL hD3
      | false =>
        rw [if_neg Bool.false_ne_true]
        refine ⟨ws, Same.trans e e3, e3 _ _ hD, ?_⟩
        rw [htake, if_neg (by rw [h]; exact Bool.false_ne_true), List.append_nil]
        exact at1.same e3
  · rintro H' ⟨ws, e, hD, at1⟩
    rw [places_length nz, List.take_length] at at1
    exact hd ws H' e hD at1
end Bk
namespace Bk
open PySem PySem.Spec PyProof.Rows L2
theorem tb1 {r : List V → Hp → VK → Prop} {te : TE} {σ : L2.St} {H : Hp} {R : Bool → Hp → Prop} (h : te σ H fun x H1 => r [x] H1 fun y H2 => ∃ c, y = .bl c ∧ R c H2) : tB (tCB r (tCons te tNil)) σ H R := h
end Bk

/-! iterators that come to their end while an exception is handled -/
namespace Bk
open PySem PySem.Spec PyProof.Rows L2 HotX
section
variable {prog : Program} {w : World} {A : Around} {E : Value → Shared → Prop} {s : Shared}
theorem hot_ne {x1 it : Addr} {o : Obj} {vs : Array Value} (hot : HotAt A x1 s.heap) (ho : s.heap.get? it = some o) (hd : o.data = .fields vs) (h2 : vs[2]? ≠ some .none) : x1 ≠ it := by
  obtain ⟨_, o1, v1, e1, d1, c1⟩ := hot
  intro e
  subst e
  rw [ho] at e1
  cases e1
  rw [hd] at d1
  cases d1
  exact h2 c1
/-- what is left of the end of an iterator once its field is cleared -/
theorem stop_hot {α : Type} {it x1 : Addr} {h1 : Heap} {Q : Option Value → Shared → Prop} (hot : HotAt A x1 h1) (eb : Heap.ExtBut it s.heap h1) (hit : ∃ o, s.heap.get? it = some o) (hQ : ∀ h', Heap.ExtBut it s.heap h' → Q none { s with heap := h' }) :
    wpAny (model prog w) A.in1 (Builtin.SmallTypes.stopIteration (α := α)) (fun _ _ => False) (fun e s1 => wpAny (model prog w) A (isInstance e (.type "StopIteration")) (fun b s2 => b = true ∧ Q none s2) E s1) { s with heap := h1 } := by
  show wpAny _ _ (newExc (.type "StopIteration") [] >>= _) _ _ _
  refine wpAny_bind ?_
  simp only [newExc, newTuple]
  refine wpAny_bind (wpAny_newObj_type ?_ (by size_fits))
  refine wpAny_bind (m := firstArgMember _ _) (wpAny_of_eq (a := Value.none) (by first | rfl | (simp only [firstArgMember]; rfl)) ?_)
  refine wpAny_newObj_type ?_ (by size_fits)
  obtain ⟨hh, o1, v1, e1, d1, c1⟩ := hot
  refine raiseNew_hot (x1 := x1) ⟨hh, o1, v1, Heap.get?_push_of_some _ (Heap.get?_push_of_some _ e1), d1, c1⟩ (Nat.ne_of_lt (Heap.lt_size (Heap.get?_push_of_some _ e1))) (Heap.get?_push_size _ rfl) rfl (by first | (simp; done) | (simp; omega) | (simp only [Array.size_append]; simp; omega)) ?_
  refine wpAny_isInstance (T := "StopIteration") (b := true) ⟨_, Heap.get?_update_self _ (Heap.get?_push_size _ rfl) rfl, rfl⟩ isSubtype_stop ⟨rfl, hQ _ fun b u hb e => ?_⟩
  have e2 := eb b u hb e
  rw [Heap.get?_update_other _ _ (Nat.ne_of_gt (Heap.lt_size (Heap.get?_push_of_some _ e2)))]
  exact Heap.get?_push_of_some _ (Heap.get?_push_of_some _ e2)
theorem hot_keep {x1 it : Addr} {f : Obj → Obj} {h : Heap} (hot : HotAt A x1 h) (nx : x1 ≠ it) : HotAt A x1 (h.update it f) := by
  obtain ⟨hh, o1, v1, e1, d1, c1⟩ := hot
  exact ⟨hh, o1, v1, by rw [Heap.get?_update_other _ _ nx.symm]; exact e1, d1, c1⟩
theorem hot_in {x1 : Addr} {h : Heap} (hot : HotAt A x1 h) : HotAt A.in1 x1 h := hot
/-- a list is at its end -/
theorem list_stop_hot {it l x1 : Addr} {i : Nat} {items : Array Value} {Q : Option Value → Shared → Prop} (hot : HotAt A x1 s.heap) (hit : s.heap.IsListIter it l i) (hl : s.heap.IsList l items) (hx : items[i]? = none)
    (hQ : ∀ h', Heap.ExtBut it s.heap h' → Q none { s with heap := h' }) : wpAny (model prog w) A (pyNext (.ref it)) Q E s := by
  obtain ⟨oi, hoi, hci, hdi⟩ := id hit
  obtain ⟨ol, hol, _, nl, hdl⟩ := hl
  have nx : x1 ≠ it := hot_ne hot hoi hdi (by simp)
  unfold pyNext
  refine wpAny_bind (wpAny_attempt (wpAny_callSpecial?_slot (name := Str.ofString "__next__") hit.typeIs slot_listiter_next (wpAny_call_entry slot_listiter_next hit.typeIs entry_listiter_next ?_ (args_listiter_next _))))
  show wpAny _ _ (field (.ref it) 0 >>= _) _ _ s
  refine wpAny_bind (wpAny_field hoi hdi (x := .ref l) rfl ?_)
  show wpAny _ _ (if (Value.ref l == Value.none) = true then _ else _) _ _ s
  rw [if_neg (by intro z; exact Bool.false_ne_true z : ¬ ((Value.ref l == Value.none) = true))]
  show wpAny _ _ (field (.ref it) 1 >>= _) _ _ s
  refine wpAny_bind (wpAny_field hoi hdi (x := .int i 0) rfl ?_)
  show wpAny _ _ (seqItems? (.ref l) >>= _) _ _ s
  refine wpAny_bind (wpAny_seqItems hol hdl ?_)
  simp only [Int.toNat_natCast, hx]
  refine wpAny_bind (wpAny_rule (wpAny_bind (wpAny_setField hoi hdi (by simp) ?_)))
  refine wpAny_mono (stop_hot (s := s) (E := E) (hot_keep hot nx) (Heap.SameBut.update ..).extBut ⟨_, hoi⟩ hQ) (fun _ _ z => False.elim z) fun e s1 h => ?_
  exact wpAny_bind (wpAny_mono h (fun b s2 ⟨hb, q⟩ => by subst hb; exact wpAny_pure q) fun _ _ z => z)
/-- a tuple is at its end -/
theorem tuple_stop_hot {it t x1 : Addr} {i : Nat} {items : Array Value} {Q : Option Value → Shared → Prop} (hot : HotAt A x1 s.heap) (hit : s.heap.IsTupleIter it t i) (ht : s.heap.IsTuple t items) (hx : items[i]? = none)
    (hQ : ∀ h', Heap.ExtBut it s.heap h' → Q none { s with heap := h' }) : wpAny (model prog w) A (pyNext (.ref it)) Q E s := by
  obtain ⟨oi, hoi, hci, hdi⟩ := id hit
  obtain ⟨ot, hot', _, nt, hdt⟩ := ht
  have nx : x1 ≠ it := hot_ne hot hoi hdi (by simp)
  unfold pyNext
  refine wpAny_bind (wpAny_attempt (wpAny_callSpecial?_slot (name := Str.ofString "__next__") hit.typeIs F.slot_tuple_iterator_next (wpAny_call_entry F.slot_tuple_iterator_next hit.typeIs F.entry_tuple_iterator_next ?_ (F.args_tuple_iterator_next_1 _))))
  show wpAny _ _ (field (.ref it) 0 >>= _) _ _ s
  refine wpAny_bind (wpAny_field hoi hdi (x := .ref t) rfl ?_)
  show wpAny _ _ (if (Value.ref t == Value.none) = true then _ else _) _ _ s
  rw [if_neg (by intro z; exact Bool.false_ne_true z : ¬ ((Value.ref t == Value.none) = true))]
  show wpAny _ _ (field (.ref it) 1 >>= _) _ _ s
  refine wpAny_bind (wpAny_field hoi hdi (x := .int i 0) rfl ?_)
  show wpAny _ _ (seqItems? (.ref t) >>= _) _ _ s
  refine wpAny_bind (wpAny_seqItems hot' hdt ?_)
  simp only [Int.toNat_natCast, hx]
  refine wpAny_bind (wpAny_rule (wpAny_bind (wpAny_setField hoi hdi (by simp) ?_)))
  refine wpAny_mono (stop_hot (s := s) (E := E) (hot_keep hot nx) (Heap.SameBut.update ..).extBut ⟨_, hoi⟩ hQ) (fun _ _ z => False.elim z) fun e s1 h => ?_
  exact wpAny_bind (wpAny_mono h (fun b s2 ⟨hb, q⟩ => by subst hb; exact wpAny_pure q) fun _ _ z => z)
/-- the keys of a dict are at their end -/
theorem key_stop_hot {it d x1 : Addr} {i n ep : Nat} {od : Obj} {es : Array DictEntry} {Q : Option Value → Shared → Prop} (hot : HotAt A x1 s.heap) (hit : s.heap.IsKeyIter it d i n ep) (hod : s.heap.get? d = some od) (hdd : od.data = .dict es ep) (hsz : es.size = n) (hge : n ≤ i)
    (hQ : ∀ h', Heap.ExtBut it s.heap h' → Q none { s with heap := h' }) : wpAny (model prog w) A (pyNext (.ref it)) Q E s := by
  obtain ⟨oi, hoi, hci, hdi⟩ := id hit
  have nx : x1 ≠ it := hot_ne hot hoi hdi (by simp [rawInt])
  unfold pyNext
  refine wpAny_bind (wpAny_attempt (wpAny_callSpecial?_slot (name := Str.ofString "__next__") hit.typeIs F.slot_dict_keyiterator_next (wpAny_call_entry F.slot_dict_keyiterator_next hit.typeIs F.entry_dict_keyiterator_next ?_ (F.args_dict_keyiterator_next_1 _))))
  refine wpAny_bind (wpAny_pure (wpAny_bind (wpAny_bind ?_)))
  first | refine wpAny_bind (wpAny_typeNameOfWhole_keyiter hit.typeIs (wpAny_pure (wpAny_bind (wpAny_fieldsOf hoi hdi ?_)))) | refine wpAny_bind (wpAny_typeNameOf_keyiter hit.typeIs (wpAny_pure (wpAny_bind (wpAny_fieldsOf hoi hdi ?_))))
  have own0 : Builtin.Dict_items.ownsTuple "dict_keyiterator" = false := by decide +kernel
  simp only [own0, Bool.false_eq_true, if_false]
  show wpAny _ _ (if (Value.ref d == Value.none) = true then _ else _) _ _ s
  rw [if_neg (by intro z; exact Bool.false_ne_true z : ¬ ((Value.ref d == Value.none) = true))]
  refine wpAny_bind (wpAny_pure (wpAny_bind (wpAny_dictEntries hod hdd ?_)))
  rw [if_neg (by rw [hsz]; simp)]
  refine wpAny_bind (wpAny_pure (wpAny_bind (wpAny_dictEpoch hod hdd ?_)))
  rw [if_neg (by simp)]
  refine wpAny_pure ?_
  have past : es.size ≤ i := by rw [hsz]; exact hge
  simp only [show ¬ ((i : Int) < 0) from by omega, if_false, Int.toNat_natCast, Array.getElem?_eq_none past]
  first | refine wpAny_bind (wpAny_bind (wpAny_typeNameOfWhole_keyiter hit.typeIs (wpAny_pure ?_))) | refine wpAny_bind (wpAny_bind (wpAny_typeNameOf_keyiter hit.typeIs (wpAny_pure ?_)))
  show wpAny _ _ (setField (.ref it) 0 .none >>= _) _ _ s
  refine wpAny_bind (wpAny_setField hoi hdi (by simp) ?_)
  refine wpAny_mono (stop_hot (s := s) (E := E) (hot_keep hot nx) (Heap.SameBut.update ..).extBut ⟨_, hoi⟩ hQ) (fun _ _ z => False.elim z) fun e s1 h => ?_
  exact wpAny_bind (wpAny_mono h (fun b s2 ⟨hb, q⟩ => by subst hb; exact wpAny_pure q) fun _ _ z => z)
end
end Bk

/-! lists, tuples and the keys of dicts gone through while an exception is handled -/
namespace Bk
open PySem PySem.Spec PyProof.Rows L2 HotX L2H
section
variable {P : Program} {w : World} {K : PySem.W.Frag} {tg : Expr}
theorem turnH_list (a it : Addr) : TurnH P w K tg (Itl K a) [it] it (fun i h => h.IsListIter it a i) where
  mem := List.mem_singleton.mpr rfl
  obj := fun i h st b hb => by
    obtain rfl := List.mem_singleton.mp hb
    obtain ⟨o, e, _, d⟩ := st
    exact ⟨o, e, fun v z => by rw [d] at z; exact nomatch z⟩
  keep := fun i h h' st k => st.at fun o e => k it (List.mem_singleton.mpr rfl) o e
  item := by
    intro X hP hw hK hc i pins s σ H E I hf st ⟨xs, x, hq, hx⟩
    subst hP hw hK
    obtain ⟨its, rv, pl, _⟩ := I.list hq
    obtain ⟨u, hu, ru⟩ := rv.get hx
    obtain ⟨g0, g1, g2, g3, g4, g5⟩ := hf it (List.mem_singleton.mpr rfl)
    refine wpAny_pyNext_list_item st pl.isList (x := u) (by simpa using hu) fun h2 st2 sb => ?_
    have I2 : Inv X pins σ H { s with heap := h2 } := I.turned (t' := s.toks) (fun b o hb e => (sb.2 b hb).trans e) g0 g1 g3 g4 g5
    obtain ⟨o, e, c, d⟩ := id st2
    exact ⟨u, rfl, go_of (s := { s with heap := h2 }) e c d (by decide) ⟨x, H, I2, ru, ⟨rfl, fun ys hy => by rw [I.list_inj hy hq]; exact hx⟩, st2, fun b hb => (hf b hb).1⟩⟩
  done := by
    intro X hP hw hK hc i pins s σ H E I hf st ⟨xs, hq, hx⟩
    subst hP hw hK
    obtain ⟨its, rv, pl, _⟩ := I.list hq
    obtain ⟨g0, g1, g2, g3, g4, g5⟩ := hf it (List.mem_singleton.mpr rfl)
    obtain ⟨x1, hot⟩ := hc.at I
    have hl := rv.length
    exact list_stop_hot hot st pl.isList (by simp; omega) fun h2 eb => ⟨rfl, I.turned (t' := s.toks) (fun b o hb e => eb b o hb e) g0 g1 g3 g4 g5⟩
  self := fun _ _ _ _ _ st q => wpAny_pyIter_listiter st q
theorem turnH_tuple (a it : Addr) : TurnH P w K tg (Itt K a) [it] it (fun i h => h.IsTupleIter it a i) where
  mem := List.mem_singleton.mpr rfl
  obj := fun i h st b hb => by
    obtain rfl := List.mem_singleton.mp hb
    obtain ⟨o, e, _, d⟩ := st
    exact ⟨o, e, fun v z => by rw [d] at z; exact nomatch z⟩
  keep := fun i h h' st k => st.at fun o e => k it (List.mem_singleton.mpr rfl) o e
  item := by
    intro X hP hw hK hc i pins s σ H E I hf st ⟨xs, x, hq, hx⟩
    subst hP hw hK
    obtain ⟨its, rv, pt, _⟩ := I.tuple hq
    obtain ⟨u, hu, ru⟩ := rv.get hx
    obtain ⟨g0, g1, g2, g3, g4, g5⟩ := hf it (List.mem_singleton.mpr rfl)
    refine wpAny_pyNext_tuple_item st (show s.heap.IsTuple a its.toArray from pt) (x := u) (by simpa using hu) fun h2 st2 sb => ?_
    have I2 : Inv X pins σ H { s with heap := h2 } := I.turned (t' := s.toks) (fun b o hb e => (sb.2 b hb).trans e) g0 g1 g3 g4 g5
    obtain ⟨o, e, c, d⟩ := id st2
    exact ⟨u, rfl, go_of (s := { s with heap := h2 }) e c d (by decide) ⟨x, H, I2, ru, ⟨rfl, fun ys hy => by rw [I.tuple_inj hy hq]; exact hx⟩, st2, fun b hb => (hf b hb).1⟩⟩
  done := by
    intro X hP hw hK hc i pins s σ H E I hf st ⟨xs, hq, hx⟩
    subst hP hw hK
    obtain ⟨its, rv, pt, _⟩ := I.tuple hq
    obtain ⟨g0, g1, g2, g3, g4, g5⟩ := hf it (List.mem_singleton.mpr rfl)
    obtain ⟨x1, hot⟩ := hc.at I
    have hl := rv.length
    exact tuple_stop_hot hot st (show s.heap.IsTuple a its.toArray from pt) (by simp; omega) fun h2 eb => ⟨rfl, I.turned (t' := s.toks) (fun b o hb e => eb b o hb e) g0 g1 g3 g4 g5⟩
  self := fun _ _ _ _ _ st q => wpAny_pyIter_tupleiter st q
theorem turnH_keys {d : Addr} {o : Obj} {es : Array DictEntry} {ep : Nat} {kvs : List (Key × V)} (it : Addr) (hod : o.data = .dict es ep) : TurnH P w K tg (Itk d o kvs) [it] it (fun i h => h.IsKeyIter it d i kvs.length ep) where
  mem := List.mem_singleton.mpr rfl
  obj := fun i h st b hb => by
    obtain rfl := List.mem_singleton.mp hb
    obtain ⟨oi, e, _, dd⟩ := st
    exact ⟨oi, e, fun v z => by rw [dd] at z; exact nomatch z⟩
  keep := fun i h h' st k => st.at fun o e => k it (List.mem_singleton.mpr rfl) o e
  item := by
    intro X hP hw hK hc i pins s σ H E I hf st ⟨hd, hi⟩
    subst hP hw hK
    obtain ⟨g0, g1, g2, g3, g4, g5⟩ := hf it (List.mem_singleton.mpr rfl)
    obtain ⟨hs, hgd, hx, es', ep', vs, hdt, hsz, kv, hm⟩ := I.frzK hd
    obtain ⟨rfl, rfl⟩ := dict_ep hod hdt
    obtain ⟨⟨k, v⟩, hkv⟩ : ∃ p, kvs[i]? = some p := ⟨_, List.getElem?_eq_getElem hi⟩
    obtain ⟨u, hu, ru⟩ := kv_get kv hkv
    have len : kvs.length = vs.length := Paired.length kv
    rw [len] at st
    refine wpAny_pyNext_dict_item st hm hu fun key h2 hkey st2 sb => ?_
    have I2 : Inv X pins σ H { s with heap := h2 } := I.turned (t' := s.toks) (fun b ob hb e => (sb.2 b hb).trans e) g0 g1 g3 g4 g5
    obtain ⟨oi, e, c, dd⟩ := id st2
    refine ⟨key, rfl, go_of (s := { s with heap := h2 }) e c dd (by decide) ⟨kV k, H, I2, relV_key (show keyIs k key = true from hkey), ⟨rfl, k, v, hkv, rfl⟩, ?_, fun b hb => (hf b hb).1⟩⟩
    show h2.IsKeyIter it d (i + 1) kvs.length _
    rw [len]
    exact st2
  done := by
    intro X hP hw hK hc i pins s σ H E I hf st ⟨hd, hi⟩
    subst hP hw hK
    obtain ⟨g0, g1, g2, g3, g4, g5⟩ := hf it (List.mem_singleton.mpr rfl)
    obtain ⟨hs, hgd, hx, es', ep', vs, hdt, hsz, kv, hm⟩ := I.frzK hd
    obtain ⟨rfl, rfl⟩ := dict_ep hod hdt
    obtain ⟨x1, hot⟩ := hc.at I
    exact key_stop_hot hot st hgd hdt hsz hi fun h2 eb => ⟨rfl, I.turned (t' := s.toks) (fun b ob hb e => eb b ob hb e) g0 g1 g3 g4 g5⟩
  self := fun _ _ _ _ _ st q => wpAny_pyIter_keyiter st q
end
end Bk

/-! list comprehensions while an exception is handled -/
namespace Bk
open PySem PySem.Spec PyProof.Rows L2 HotX L2H
/-- a comprehension's block there: the handled exception is still known to stand -/
abbrev Cx.bh (X : Cx) (p : Addr × Obj) (s : Shared) (H : Hp) (scope : Scope) (env : Env) (fp : List Addr) : Cx := { X.blk s H scope env fp with pn := [p], calm := false }
theorem bh_hot {X : Cx} {p : Addr × Obj} (hot : Hot1 X.A p) {s : Shared} {H : Hp} {scope : Scope} {env : Env} {fp : List Addr} : HotC (Cx.bh X p s H scope env fp) := ⟨p, hot, List.mem_singleton.mpr rfl⟩
section
variable {X : Cx} {pins : List (Addr × Obj)} {σ : L2.St} {H : Hp} {s : Shared} {p : Addr × Obj}
theorem bh_ok {scope : Scope} {env : Env} {fp : List Addr} (ok : (X.blk s H scope env fp).Ok) : (Cx.bh X p s H scope env fp).Ok :=
  ⟨ok.mod, ok.kind, ok.glob, ok.blt, ok.above, ok.inj, ok.has, ok.cab, (fun z => nomatch z), ok.frames, ok.stk, ok.exf, ok.bs, ok.bsz, ok.noex, ok.exfs, ok.funs, ok.frf⟩
/-- the block's start, with the pin -/
theorem bh_start {scope : Scope} {own : List (Str × Nat)} {fp : List Addr} (I : Inv X pins σ H s) (hp : p ∈ X.pn) (ok : BlkOk X.N X.env.scope scope own) (hN : X.N.Nodup) (hfp : ∀ b ∈ fp, FpOk X pins H b ∧ b < s.heap.objs.size) :
    Inv (Cx.bh X p s H scope (compEnvC scope (cellsFrom (s.heap.objs.size + 1) scope.names (cloFrom X.env.cells scope.names [])) s.heap.objs.size X.env) fp) [] (wipe σ (own.map (·.2))) H { s with heap := pushCells (s.heap.push { cls := .type "dict", data := .dict #[] }) scope.names } := by
  have B := block_start I ok hN hfp
  obtain ⟨g1, g2, g3, g4, g5⟩ := I.pin p (List.mem_append_left _ hp)
  refine ⟨bh_ok B.ok, B.os, B.bare, B.base, B.loc, B.cell, B.free, B.freeC, fun z hz => ?_, B.hok, B.len⟩
  obtain rfl : z = p := by simpa using hz
  refine ⟨pushCells_keeps _ _ _ _ (Heap.get?_push_of_some _ g1), g2, Nat.ne_of_lt (Heap.lt_size g1), fun m => ?_, g5⟩
  exact (List.mem_cons.mp (I.stkSub z.1 m)).elim g3 g4
end
section
variable {X : Cx}
theorem lc_hot {pins : List (Addr × Obj)} {s : Shared} {σ : L2.St} {H : Hp} {Q : VK} {elt tg iter : Expr} {ifs : List Expr} {scope : Scope} {own : List (Str × Nat)} {pos pos' : Pos} {wi : TI} {g : TG} {tt : TT} {te : TE} {use : Option (Value → Sem Unit)} {Qf : Value → Shared → Prop} {p : Addr × Obj}
    (hot : Hot1 X.A p) (hp : p ∈ X.pn) (hN : X.N.Nodup) (I : Inv X pins σ H s) (hi : PIH X tg iter wi) (ok : BlkOk X.N X.env.scope scope own)
    (hg : ∀ (s : Shared) (H : Hp) (C : Addr) (cl : List (Str × Addr)) (fp : List Addr), PG (Cx.bh X p s H scope (compEnvC scope cl C X.env) fp) tg g) (ht : ∀ (s : Shared) (H : Hp) (C : Addr) (cl : List (Str × Addr)) (fp : List Addr), PTs (Cx.bh X p s H scope (compEnvC scope cl C X.env) fp) ifs tt)
    (he : ∀ (s : Shared) (H : Hp) (C : Addr) (cl : List (Str × Addr)) (fp : List Addr), PE (Cx.bh X p s H scope (compEnvC scope cl C X.env) fp) elt te) (hs : ∀ x, foldedSetIterable iter X.env x = pure x)
    (h : tLc wi g tt te (own.map (·.2)) σ H Q)
    (done : ∀ D C s' m H', Inv X pins σ H' s' → Q (.ref D) H' → s'.heap.Ns C m → FpOk X pins H' C → compPost (model X.prog X.w) X.A X.xe use Qf (.ref D) C (.ok .next) s') :
    wpAny (model X.prog X.w) X.A (comprehension (.ListComp elt [⟨tg, iter, ifs, 0⟩] scope pos) scope X.env pos' (newList []) false (eval iter X.env) use) Qf X.xe s := by
  have clo : ∀ y ∈ scope.names, y.2 = .free → ∃ c, X.env.cells.lookup y.1 = some c := fun y hy e => (ok.free y hy e).elim (fun k => I.ok.has _ (.inl k)) fun k => I.ok.has _ (.inr k)
  refine wpAny_comprehension_free (use := use) rfl hs (closure_ok clo) ok.kind (fun y hy e => by rw [ok.uniq y hy, e]) (thn (hi.run pins s σ H _ I h) fun xv t1 hx => thn hx fun itv t2 h2 => ?_)
  obtain ⟨it, fp, tn, J, G2, rfl, J2, T, at2, f2, q⟩ := h2
  refine wpAny_newObj_type (newEnv_comp ?_) (by show 0 ≤ sizeLine; exact Nat.zero_le _)
  have nD : G2 t2.heap.objs.size = none := J2.hok.fresh (Nat.le_refl _)
  obtain ⟨W, ⟨m0, w0⟩, turn⟩ := q t2.heap.objs.size nD
  have fpLt : ∀ b ∈ fp, b < t2.heap.objs.size := fun b hb => let ⟨_, e, _⟩ := T.obj _ _ at2 b hb; Heap.lt_size e
  generalize hD : t2.heap.objs.size = D at nD w0 turn fpLt ⊢
  -- the state with the new list, and the heap with it
  generalize et3 : ({ t2 with heap := t2.heap.push { cls := .type "list", data := .seq ([] : List Value).toArray } } : Shared) = t3
  have ht3 : t3.heap = t2.heap.push { cls := .type "list", data := .seq ([] : List Value).toArray } := by rw [← et3]
  obtain ⟨G3, hG3⟩ : ∃ G3, G3 = upd G2 D (.lst []) := ⟨_, rfl⟩
  rw [← hG3] at w0
  have J3 : Inv X pins σ G3 t3 := by
    rw [hG3, ← et3]
    refine J2.laid (t' := t2.toks) (fun b o e => Heap.get?_push_of_some _ e) (Nat.le_of_eq hD) ⟨Nat.zero_le _, [], 0, .nil, ?_⟩
    rw [← hD]
    exact Heap.get?_push_size _ rfl
  have size3 : t3.heap.objs.size = D + 1 := by rw [ht3, ← hD]; exact Heap.size_push ..
  have f3 : ∀ b ∈ fp, FpOk X pins G3 b ∧ b < t3.heap.objs.size := fun b hb => by
    have lt := fpLt b hb
    refine ⟨⟨?_, (f2 b hb).2⟩, by rw [size3]; exact Nat.lt_succ_of_lt lt⟩
    rw [hG3, upd_ne (Nat.ne_of_lt lt)]
    exact (f2 b hb).1
  have at3 : tn 0 t3.heap := T.keep _ _ _ at2 fun b _ o e => by rw [ht3]; exact Heap.get?_push_of_some _ e
  have J4 := bh_start J3 hp ok hN f3
  have pg := hg t3 G3 t3.heap.objs.size (cellsFrom (t3.heap.objs.size + 1) scope.names (cloFrom X.env.cells scope.names [])) fp
  have pt := ht t3 G3 t3.heap.objs.size (cellsFrom (t3.heap.objs.size + 1) scope.names (cloFrom X.env.cells scope.names [])) fp
  have pe := he t3 G3 t3.heap.objs.size (cellsFrom (t3.heap.objs.size + 1) scope.names (cloFrom X.env.cells scope.names [])) fp
  show codeAny _ _ (.compStart (.ListComp elt [⟨tg, iter, ifs, 0⟩] scope pos) 0 (.ref it) (.ref D) (compEnvC scope (cellsFrom (t3.heap.objs.size + 1) scope.names (cloFrom X.env.cells scope.names [])) t3.heap.objs.size X.env)) (compPost (model X.prog X.w) X.A X.xe use Qf (.ref D) t3.heap.objs.size) { t3 with heap := pushCells (t3.heap.push { cls := .type "dict", data := .dict #[] }) scope.names }
  generalize hc4 : compEnvC scope (cellsFrom (t3.heap.objs.size + 1) scope.names (cloFrom X.env.cells scope.names [])) t3.heap.objs.size X.env = ce at J4 pg pt pe ⊢
  have locals : ce.locals = t3.heap.objs.size := by rw [← hc4]; rfl
  have at4 : tn 0 ({ t3 with heap := pushCells (t3.heap.push { cls := .type "dict", data := .dict #[] }) scope.names } : Shared).heap := T.keep _ _ _ at3 fun b _ o e => pushCells_keeps _ _ _ _ (Heap.get?_push_of_some _ e)
  generalize ({ t3 with heap := pushCells (t3.heap.push { cls := .type "dict", data := .dict #[] }) scope.names } : Shared) = t4 at J4 at4 ⊢
  have hx := bh_hot (X := X) (p := p) hot (s := t3) (H := G3) (scope := scope) (env := ce) (fp := fp)
  -- the iterator's own objects stay apart
  have apart : ∀ {σ' : L2.St} {G' : Hp} {t' : Shared}, Inv (Cx.bh X p t3 G3 scope ce fp) [] σ' G' t' → (∀ b ∈ fp, G' b = none) → ∀ b ∈ fp, FpOk (Cx.bh X p t3 G3 scope ce fp) [] G' b := fun {σ' G' t'} I' hn b hb =>
    ⟨hn b hb, (I'.ok.exf b hb).1, I'.ok.exfs b hb, .inl hb, fun x c e => (I'.ok.exf b hb).2 x c e, fun z hz => by
      obtain rfl : z = p := by simpa using hz
      exact (f3 b hb).1.2.2.2.2.2 z (List.mem_append_left _ hp)⟩
  have loop : codeAny (model X.prog X.w) X.A (.compLoop (.ListComp elt [⟨tg, iter, ifs, 0⟩] scope pos) 0 (.ref it) (.ref D) ce) (compPost (model X.prog X.w) X.A X.xe use Qf (.ref D) t3.heap.objs.size) t4 := by
    refine compLoop_any (fun n t' => ∃ i G', Inv (Cx.bh X p t3 G3 scope ce fp) [] (wipe σ (own.map (·.2))) G' t' ∧ tn i t'.heap ∧ (∀ b ∈ fp, G' b = none) ∧ W i n G') ?_ m0 ⟨0, G3, J4, at4, fun b hb => (f3 b hb).1.1, w0⟩
    rintro n t5 ⟨i, G5, J5, at5, n5, w5⟩
    rcases turn i n G5 w5 with ⟨stop, qq⟩ | ⟨go, Nx, hNx, step⟩
    · refine thnF (T.done (Cx.bh X p t3 G3 scope ce fp) rfl rfl rfl hx i [] t5 _ G5 (fun _ _ => False) J5 (apart J5 n5) at5 stop) fun r t6 ⟨hr, J6⟩ => ?_
      subst hr
      have J7 : Inv X pins σ G5 t6 := J3.call' (ch := fp) J6.os J6.base J6.hok J6.bare fun b hb => let z := (f3 b hb).1; ⟨z.2.2.2.1, z.2.1, z.2.2.2.2.1, z.2.2.2.2.2⟩
      have free : G5 t3.heap.objs.size = none := by
        have z : G5 ce.locals = none := J6.free
        rwa [locals] at z
      obtain ⟨m, hn, _⟩ := J6.loc
      have hn : t6.heap.Ns ce.locals m := hn
      rw [locals] at hn
      exact done D t3.heap.objs.size t6 m G5 J7 qq hn (J3.fpOk (Nat.le_refl _) free)
    · refine thnF (T.item (Cx.bh X p t3 G3 scope ce fp) rfl rfl rfl hx i [] t5 _ G5 (fun _ _ => False) J5 (apart J5 n5) at5 go) fun r t6 ⟨u, hr, h6⟩ => ?_
      subst hr
      refine thnF h6 fun _ t7 ⟨x, G7, J7, r7, y7, at7, n7⟩ => ?_
      have J7' := J7.pinned (apart J7 n7) (T.obj _ _ at7)
      refine thnF (pg.run _ t7 _ G7 x u _ J7' r7 (step x G7 y7)) fun _ t8 ⟨σ8, G8, J8, hw8, q8⟩ => ?_
      refine thnF (pt.run _ t8 σ8 G8 _ J8 q8) fun b t9 ⟨G9, J9, q9⟩ => ?_
      have next : ∀ {t' : Shared} {G' : Hp}, Inv (Cx.bh X p t3 G3 scope ce fp) ([] ++ pinsAt fp t7.heap) σ8 G' t' → Nx G' → ∃ m, m < n ∧ ∃ i G', Inv (Cx.bh X p t3 G3 scope ce fp) [] (wipe σ (own.map (·.2))) G' t' ∧ tn i t'.heap ∧ (∀ b ∈ fp, G' b = none) ∧ W i m G' := fun {t' G'} I' nx => by
        obtain ⟨m', hm, w'⟩ := hNx G' nx
        have stays : ∀ b ∈ fp, ∀ o, t7.heap.get? b = some o → t'.heap.get? b = some o ∧ G' b = none := fun b hb o e =>
          let z := I'.pin (b, o) (List.mem_append_right _ (List.mem_append_right _ (mem_pinsAt hb e)))
          ⟨z.1, z.2.1⟩
        have len8 : (wipe σ (own.map (·.2))).length = σ8.length := by rw [← hw8, wipe_length]
        refine ⟨m', hm, i + 1, G', (I'.unpinned (pins := [])).weak len8 (fun j v e => ?_), T.keep _ _ _ at7 fun b hb o e => (stays b hb o e).1, fun b hb => ?_, w'⟩
        · rw [← hw8] at e
          exact (wipe_some e).1
        · obtain ⟨o, e, _⟩ := T.obj _ _ at7 b hb
          exact (stays b hb o e).2
      cases b with
      | false =>
        simp only [Bool.false_eq_true, if_false] at q9 ⊢
        exact next J9 q9
      | true =>
        simp only [if_true] at q9 ⊢
        refine thnF (pe.run _ t9 σ8 G9 _ J9 q9) fun z t10 ⟨yv, G10, J10, r10, acc, hD10, hz10, nx⟩ => ?_
        exact app_ok (X := Cx.bh X p t3 G3 scope ce fp) J10 hD10 hz10 r10 fun t11 J11 => next J11 nx
  exact codeAny_compStart_list loop (T.self X.A 0 _ _ _ at4 loop)
end
end Bk

/-! the rules for it: lists, tuples, the keys of a dict; list comprehensions; the context of an except suite -/
namespace Bk
open PySem PySem.Spec PyProof.Rows L2 HotX L2H
section
variable {X : Cx} {tg : Expr}
theorem pih_list (K : PySem.W.Frag) {l : Expr} {tl : TE} (hl : PE X l tl) (eK : X.K = K := by rfl) : PIH X tg l (iList K tl) := by
  subst eK
  refine ⟨fun pins s σ H R I h => thn (hl.run pins s σ H _ I h) fun v s1 hv => ?_⟩
  obtain ⟨x, H1, I1, r1, a, rfl, ⟨xs, hq⟩, q⟩ := hv
  cases r1
  obtain ⟨its, rv, pl, hz⟩ := I1.list hq
  refine wpAny_pyIter_list pl.isList ⟨s1.heap.objs.size, [s1.heap.objs.size], _, _, H1, rfl, I1.kept (t' := s1.toks) fun b o e => Heap.get?_push_of_some _ e, turnH_list a _, ⟨_, Heap.get?_push_size _ rfl, rfl, rfl⟩, fun b hb => ?_, q⟩
  obtain rfl := List.mem_singleton.mp hb
  exact I1.fpOk (Nat.le_refl _) (I1.hok.fresh (Nat.le_refl _))
theorem pih_tup (K : PySem.W.Frag) {l : Expr} {tl : TE} (hl : PE X l tl) (eK : X.K = K := by rfl) : PIH X tg l (iTup K tl) := by
  subst eK
  refine ⟨fun pins s σ H R I h => thn (hl.run pins s σ H _ I h) fun v s1 hv => ?_⟩
  obtain ⟨x, H1, I1, r1, a, rfl, ⟨xs, hq⟩, q⟩ := hv
  cases r1
  obtain ⟨its, rv, pt, hz⟩ := I1.tuple hq
  refine wpAny_pyIter_tuple (show s1.heap.IsTuple a its.toArray from pt) ⟨s1.heap.objs.size, [s1.heap.objs.size], _, _, H1, rfl, I1.kept (t' := s1.toks) fun b o e => Heap.get?_push_of_some _ e, turnH_tuple a _, ⟨_, Heap.get?_push_size _ rfl, rfl, rfl⟩, fun b hb => ?_, q⟩
  obtain rfl := List.mem_singleton.mp hb
  exact I1.fpOk (Nat.le_refl _) (I1.hok.fresh (Nat.le_refl _))
theorem pih_or {l : Expr} {w1 w2 : TI} (h1 : PIH X tg l w1) (h2 : PIH X tg l w2) : PIH X tg l (fun σ H R => w1 σ H R ∨ w2 σ H R) := ⟨fun pins s σ H R I h => h.elim (h1.run pins s σ H R I) (h2.run pins s σ H R I)⟩
/-- the keys of a dict, these texts or numbers -/
theorem pih_keys {e : Expr} {td : TE} (he : PE X e td) : PIH X tg e (iKeysM td) := by
  refine ⟨fun pins s σ H R I h => thn (he.run pins s σ H _ I h) fun u s1 hu => ?_⟩
  obtain ⟨x, H1, I1, rx, d, o, kvs, rfl, hd, q⟩ := hu
  obtain rfl : u = Value.ref d := rx
  obtain ⟨hs, hgd, hx, es, ep, vs, hdt, hsz, kv, hm⟩ := I1.frzK hd
  refine iter_keys hs hgd hx hdt ⟨s1.heap.objs.size, [s1.heap.objs.size], _, _, H1, rfl, I1.kept (t' := s1.toks) fun b o e => Heap.get?_push_of_some _ e, turnH_keys _ hdt, ⟨_, Heap.get?_push_size _ rfl, rfl, ?_⟩, fun b hb => ?_, q⟩
  · rw [hsz] <;> rfl
  · obtain rfl := List.mem_singleton.mp hb
    exact I1.fpOk (Nat.le_refl _) (I1.hok.fresh (Nat.le_refl _))
/-- [elt for tg in iter if ..] as a value -/
theorem pe_lcH {elt iter : Expr} {ifs : List Expr} {scope : Scope} {own : List (Str × Nat)} {pos : Pos} {wi : TI} {g : TG} {tt : TT} {te : TE} {p : Addr × Obj} (hot : Hot1 X.A p) (hp : p ∈ X.pn) (hN : X.N.Nodup) (hi : PIH X tg iter wi) (ok : BlkOk X.N X.env.scope scope own)
    (hg : ∀ (s : Shared) (H : Hp) (C : Addr) (cl : List (Str × Addr)) (fp : List Addr), PG (Cx.bh X p s H scope (compEnvC scope cl C X.env) fp) tg g) (ht : ∀ (s : Shared) (H : Hp) (C : Addr) (cl : List (Str × Addr)) (fp : List Addr), PTs (Cx.bh X p s H scope (compEnvC scope cl C X.env) fp) ifs tt)
    (he : ∀ (s : Shared) (H : Hp) (C : Addr) (cl : List (Str × Addr)) (fp : List Addr), PE (Cx.bh X p s H scope (compEnvC scope cl C X.env) fp) elt te) (hs : ∀ x, foldedSetIterable iter X.env x = pure x := by intro _; rfl) :
    PE X (.ListComp elt [⟨tg, iter, ifs, 0⟩] scope pos) (tLc wi g tt te (own.map (·.2))) := by
  refine ⟨fun pins s σ H Q I h => ?_⟩
  rw [eval_ListComp]
  refine lc_hot hot hp hN I hi ok hg ht he hs h fun D C s' m H' I' q hn f => ⟨m, hn, fun h2 sb => ?_⟩
  obtain ⟨g0, g1, g2, g3, g4, g5⟩ := f
  exact ⟨.ref D, H', I'.turned (t' := s'.toks) (fun b o hb e => (sb.2 b hb).trans e) g0 g1 g3 g4 g5, rfl, q⟩
end
end Bk

/-! dict([]) while an exception is handled -/
namespace Bk
open PySem PySem.Spec PyProof.Rows L2 HotX L2H
section
variable {α : Type} {prog : Program} {w : World} {A : Around} {E : Value → Shared → Prop} {s : Shared}
theorem attrErr_hot {x1 : Addr} {o : Value} {name msg : Str} {Q : α → Shared → Prop} (hot : HotAt A x1 s.heap)
    (q : ∀ h' tk e oe, (∀ b ob, s.heap.get? b = some ob → h'.get? b = some ob) → h'.get? e = some oe → oe.cls = .type "AttributeError" → E (.ref e) { s with heap := h', toks := tk }) (hm : msg.length ≤ sizeLine) :
    wpAny (model prog w) A (raiseAttrError o name msg : Sem α) Q E s := by
  unfold raiseAttrError
  refine wpAny_bind (wpAny_mkStr (wpAny_bind ?_) hm)
  simp only [newExc, newTuple]
  refine wpAny_bind (wpAny_newObj_type ?_ (by size_fits))
  refine wpAny_bind (m := firstArgMember _ _) (wpAny_of_eq (a := Value.none) (by simp only [firstArgMember, attrError_no_first]; rfl) ?_)
  rw [ownMembersOf_AttributeError]
  refine wpAny_newObj_type ?_ (by size_fits)
  obtain ⟨hp, g, d, tk, os⟩ := s
  have f1 := sub_AttributeError
  repeat (any_goals (first | assumption | wp_step))
  dsimp only
  obtain ⟨hh, o1, v1, e1, d1, c1⟩ := hot
  have lt1 := Heap.lt_size e1
  refine raiseNew_hot (x1 := x1) ⟨hh, o1, v1, ?_, d1, c1⟩ ?_ (Heap.get?_update_self _ (Heap.get?_push_size _ rfl) rfl) rfl (by first | decide | (simp; done) | (simp; omega)) ?_
  · refine (Heap.get?_update_other _ _ ?_).trans (Heap.get?_push_of_some _ (Heap.get?_push_of_some _ e1))
    simp only [Heap.size_push]
    exact Nat.ne_of_gt (Nat.lt_succ_of_lt lt1)
  · simp only [Heap.size_push]
    exact Nat.ne_of_lt (Nat.lt_succ_of_lt lt1)
  · refine q _ _ _ _ (fun b ob hb => ?_) (Heap.get?_update_self _ (Heap.get?_update_self _ (Heap.get?_push_size _ rfl) rfl) rfl) rfl
    have hlt : b < hp.objs.size := Heap.lt_size hb
    have ne : (hp.push { cls := .type "tuple", data := .seq #[] }).objs.size ≠ b := by
      simp only [Heap.size_push]
      exact Nat.ne_of_gt (Nat.lt_succ_of_lt hlt)
    first
      | exact (Heap.get?_update_other _ _ (by simp only [Heap.size_push]; exact Nat.ne_of_gt (Nat.lt_succ_of_lt hlt))).trans ((Heap.get?_update_other _ _ (by simp only [Heap.size_push]; exact Nat.ne_of_gt (Nat.lt_succ_of_lt hlt))).trans (Heap.get?_push_of_some _ (Heap.get?_push_of_some _ hb)))
end
def specHot (x1 : Addr) : PySem.Spec := fun A R s => HotAt A x1 s.heap ∧ ∀ h' tk e oe, (∀ b ob, s.heap.get? b = some ob → h'.get? b = some ob) → h'.get? e = some oe → oe.cls = .type "AttributeError" → R (.error (.ref e)) { s with heap := h', toks := tk }
theorem meets_keys_hot (x1 a : Addr) (xs : Array Value) (n : Nat) (sl : Array (Option Value)) (nm : Str) (u : Tok) (hmiss : typeLookup (.type "list") nm = pure none) (hname : (["__module__", "__name__", "__qualname__", "__doc__", "__annotations__"] : List Str).contains nm = false) (hsz : nm.length + 100 ≤ sizeLine) :
    Meets (Builtin.«object.__getattribute__» ⟨[.ref a, .str nm u], []⟩) (fun A R s => s.heap.get? a = some { cls := .type "list", dict := none, data := .seq xs n, slots := sl } ∧ specHot x1 A R s) :=
  Meets.of_wp fun prog w A R s hs => by
    obtain ⟨hp, g, d, tk, os⟩ := s
    obtain ⟨hx, hot, q⟩ := hs
    have tl : (⟨hp, g, d, tk, os⟩ : Shared).TypeIs (.ref a) "list" := ⟨_, hx, rfl⟩
    unfold Builtin.«object.__getattribute__»
    repeat (any_goals (first | assumption | wp_step))
    simp only [hname, Bool.false_eq_true, if_false]
    repeat (any_goals (first | assumption | wp_step))
    exact attrErr_hot hot q (attrMsg_fits (by decide +kernel) hsz)
section
variable {prog : Program} {w : World} {A : Around} {E : Value → Shared → Prop} {s : Shared}
theorem list_keys_hot {x1 a : Addr} {o : Obj} {xs : Array Value} {n : Nat} {Q : Option Value → Shared → Prop} (hot : HotAt A x1 s.heap) (hx : s.heap.get? a = some o) (hc : o.cls = .type "list") (hdat : o.data = .seq xs n) (hd : o.dict = none)
    (q : ∀ h' tk, (∀ b ob, s.heap.get? b = some ob → h'.get? b = some ob) → Q none { s with heap := h', toks := tk }) : wpAny (model prog w) A (getAttr? (.ref a) "keys") Q E s := by
  obtain ⟨c, dct, dat, sl⟩ := o
  simp only at hc hdat hd
  subst hc hdat hd
  obtain ⟨hp, g, d, tk, os⟩ := s
  have tl : ∀ tk', (⟨hp, g, d, tk', os⟩ : Shared).TypeIs (.ref a) "list" := fun _ => ⟨_, hx, rfl⟩
  have hmiss := list_no_keys
  have hname : (["__module__", "__name__", "__qualname__", "__doc__", "__annotations__"] : List Str).contains "keys" = false := by decide +kernel
  have hsz : ("keys" : Str).length + 100 ≤ sizeLine := by first | size_fits | decide +kernel
  have f1 := sub_AttributeError
  have f3 := F.slot_list_getattribute.lookup
  have f4 := F.slot_list_getattribute.bind (.ref a)
  have f5 := am_list_getattr_none
  unfold getAttr? getAttrBy?
  repeat (any_goals (first | assumption | exact tl _ | ((with_reducible show wpAny _ _ (call (Value.builtin "list.__getattribute__") _ _) _ _ _); refine call_meets F.slot_list_getattribute (tl _) am_entry_list_getattribute (F.args_list_getattribute_2 _ _) (meets_keys_hot x1 a xs n sl "keys" _ hmiss hname hsz) ⟨hx, hot, fun h' tk' e oe hk he hcl => ?_⟩) | wp_step))
  obtain ⟨ec, ed, eda, es⟩ := oe
  simp only at hcl
  subst hcl
  have hE : ∀ tk2, (⟨h', g, d, tk2, os⟩ : Shared).TypeIs (.ref e) "AttributeError" := fun _ => ⟨_, he, rfl⟩
  show wpAny _ _ (getattributeRaised _ _ _ _ _ _ _) _ _ _
  unfold getattributeRaised
  repeat (any_goals (first | assumption | exact hE _ | wp_step))
  all_goals exact q _ _ hk
end
end Bk

/-! defs that raise (the exception's context told to be None); defs called while an exception is handled -/
namespace Bk
open PySem PySem.Spec PyProof.Rows L2 HotX L2H
/-- dict([]) -/
def rDict0 : List V → Hp → VK → Prop := fun xs H Q => ∃ a : Addr, xs = [.ref a] ∧ H a = some (.lst []) ∧ ∀ p, H p = none → Q (.ref p) (upd H p (.dT []))
theorem call_dict0H {X : Cx} (hc : HotC X) : CallR X (.type "dict") rDict0 := by
  intro pins s σ H xs us Q I r q
  obtain ⟨a, ex, ha, q⟩ := q
  subst ex
  obtain ⟨u, eu, rx⟩ := vals1 r
  subst eu
  cases rx
  obtain ⟨its, rv, pl, hz⟩ := I.list (SqL.of (K := X.K) ha)
  have e0 : its = [] := List.eq_nil_of_length_eq_zero (by rw [← rv.length]; rfl)
  subst e0
  obtain ⟨x1, hot⟩ := hc.at I
  have items : PairItems s.heap (#[] : Array Value) (fun _ => (0 : Nat)) [] := ⟨rfl, fun j k v e => by simp at e⟩
  have plain : PlainSeq "list" s.heap a #[] := by
    obtain ⟨o, n, ho, hcl, hd, hdat⟩ := pl
    exact ⟨o, n, ho, hcl, hd, hdat⟩
  have lt : a < s.heap.objs.size := by
    obtain ⟨o, n, ho, _⟩ := plain
    exact Heap.lt_size ho
  obtain ⟨hp, gn, dr, tk, os⟩ := s
  refine call_dict_arg (PairArg.list (prog := X.prog) (w := X.w) a #[] (fun _ => (0 : Nat)) []) ⟨plain, items⟩ fun s₁ es hdf ok₁ => ?_
  subst es
  obtain ⟨⟨o, n, ho, hcl, hd, hdat⟩, _⟩ := ok₁
  have hot1 : ∀ (h' : Heap), (∀ b ob, hp.get? b = some ob → h'.get? b = some ob) → HotAt X.A x1 h' := fun h' k => by
    obtain ⟨hh, o1, v1, e1, d1, c1⟩ := hot
    exact ⟨hh, o1, v1, k _ _ e1, d1, c1⟩
  have kp : ∀ b ob, hp.get? b = some ob → (hp.push { cls := .type "dict", data := .dict #[] }).get? b = some ob := fun b ob e => Heap.get?_push_of_some _ e
  unfold Builtin.Dict.updateFrom
  refine wpAny_bind (wpAny_typeOf (T := "list") ⟨o, ho, hcl⟩ ?_)
  rw [if_pos (by decide)]
  refine wpAny_bind (list_keys_hot (x1 := x1) (hot1 _ kp) ho hcl hdat hd fun h1 tk1 k1 => ?_)
  simp only [Option.isNone_none, if_true]
  refine wpAny_bind (wpAny_rule ?_)
  have kh : ∀ b ob, hp.get? b = some ob → h1.get? b = some ob := fun b ob e => k1 b ob (kp b ob e)
  have hl1 : h1.IsList a #[] := ⟨o, k1 _ _ ho, hcl, n, hdat⟩
  refine wpAny_bind (wpAny_pyIter_list hl1 ?_)
  refine wpAny_pure ⟨plainId_quiet plain_update_loop _, codeAny_builtin entry_update_loop ?_⟩
  rw [Around.under_plainId plain_update_loop _]
  have it0 : (h1.push { cls := .type "list_iterator", data := .fields #[.ref a, rawInt 0] }).IsListIter h1.objs.size a 0 := ⟨_, Heap.get?_push_size _ rfl, rfl, rfl⟩
  have kk : ∀ b ob, h1.get? b = some ob → (h1.push { cls := .type "list_iterator", data := .fields #[.ref a, rawInt 0] }).get? b = some ob := fun b ob e => Heap.get?_push_of_some _ e
  show wpAny _ _ (pyNext (.ref h1.objs.size) >>= _) _ _ _
  refine wpAny_bind (list_stop_hot (x1 := x1) (i := 0) (items := #[]) (hot1 _ fun b ob e => kk b ob (kh b ob e)) it0 (hl1.at fun ob e => kk _ ob e) rfl fun h2 eb => ?_)
  show wpAny _ _ (Builtin.Dict.addKeywords hp.objs.size [] >>= _) _ _ _
  refine wpAny_bind (wpAny_pure (wpAny_pure ?_))
  have k2 : ∀ b ob, (hp.push { cls := .type "dict", data := .dict #[] }).get? b = some ob → h2.get? b = some ob := fun b ob e => eb b ob (Nat.ne_of_lt (Heap.lt_size (k1 b ob e))) (kk b ob (k1 b ob e))
  refine ⟨rfl, ?_⟩
  have hd0 : h2.DictOfH (tupleKind (mixKind X.prog X.w)) hp.objs.size [] := (Heap.DictOfH.new (knd := tupleKind (mixKind X.prog X.w)) hp).at' (fun ob e => k2 _ ob e) fun y hy => nomatch hy
  exact dt_made (s := ⟨hp, gn, dr, tk, os⟩) (kvs := []) (prs := []) I .nil (Nat.zero_le _) (Nat.le_refl _) hd0 (fun b ob e => k2 b ob (kp b ob e)) fun p hp' => q p hp'
end Bk

/-! defs that raise, told with the exception's context; defs run while an exception is handled; own exceptions made there -/
namespace Bk
open PySem PySem.Spec PyProof.Rows L2 HotX L2H
section
variable {P : Program} {w : World} {K : PySem.W.Frag} {mg : Str → Option Value} {base : Heap} {x qual : Str} {st : Stmt} {f : Addr} {fd : FuncData} {N ps : List Str} {k : Nat} {sp : Sp}
theorem Fun.okN (F : Fun K x qual st f fd) (S : FnScope N ps (defScope st)) (len : ∀ vs H Q E, sp vs H Q E → vs.length = ps.length)
    (hbody : ∀ (cdv : Value) (A : Around) (outer : List Env) (s : Shared) (H : Hp) (vs : List V) (Q : VK) (E : XK), Room k (A.deeper (envOfC qual (defScope st) s.heap.objs.size f cdv)) → sp vs H Q E →
      ∃ t, PSs (cxOf (L2N.CX P w) P w K mg base N qual (defScope st) f cdv A outer s H E) (defBody st) t ∧ t { nx := fun _ H' => Q .non H', rt := Q } (L2.start N vs) H) :
    FnOk P w K mg base (L2N.CX P w) (k + 1) f fd ps sp := by
  obtain ⟨_, _, _, _, _, _, cdv, _, _, rfl, lk, hcd⟩ := F.ex
  exact fn_of lk hcd S len (fun A outer s H vs Q E hr => hbody cdv A outer s H vs Q E hr)
theorem Fun.okH (F : Fun K x qual st f fd) (S : FnScope N ps (defScope st)) (len : ∀ vs H Q E, sp vs H Q E → vs.length = ps.length)
    (hbody : ∀ (cdv : Value) (A : Around) (outer : List Env) (s : Shared) (H : Hp) (vs : List V) (Q : VK) (E : XK) (p : Addr × Obj), Hot1 A p → RoomH k (A.deeper (envOfC qual (defScope st) s.heap.objs.size f cdv)) → sp vs H Q E →
      ∃ t, PSs (cxH CX0 P w K mg base N qual (defScope st) f cdv A outer s H E p) (defBody st) t ∧ t { nx := fun _ H' => Q .non H', rt := Q } (L2.start N vs) H) :
    FnH P w K mg base CX0 (k + 1) f fd ps sp := by
  obtain ⟨_, _, _, _, _, _, cdv, _, _, rfl, lk, hcd⟩ := F.ex
  exact fn_ofH lk hcd S len (fun A outer s H vs Q E p hot hr => hbody cdv A outer s H vs Q E p hot hr)
theorem never_H : FnH P w K mg base CX0 k f fd ps (fun _ _ _ _ => False) := ⟨fun _ _ _ _ h => h.elim, fun _ _ _ _ _ _ _ _ _ _ _ _ _ _ _ _ h => h.elim⟩
end
/-- a def that can be called by its name while an exception is handled -/
structure CalH (P : Program) (w : World) (K : PySem.W.Frag) (mg : Str → Option Value) (base : Heap) (k : Nat) (x : Str) (f : Addr) (fd : FuncData) (ps : List Str) (sp : Sp) : Prop where
  ok : FnH P w K mg base CX0 k f fd ps sp
  g : mg x = some (.ref f)
  kp : PySem.W.keepIn K (.ref f) = true
  b : Binds K fd ps []
theorem passAt0 {X : Cx} (σ : L2.St) : PassesAt CX0 X σ E0 := fun _ _ _ _ _ _ h => h.elim
theorem huH_of {A : Around} {k : Nat} (hr : RoomH k A) : A.units + 1 < cLine := by
  have := hr.un
  omega
section
variable {X : Cx} {CX : CXT} {x : Str} {e : Expr} {es : List Expr} {ta : TA} {p pos : Pos} {C fI : Addr} {k : Nat} {fd : FuncData} {ps : List Str} {sp : Sp}
/-- C(e, ..), its context told -/
theorem pmk_oexN (T : OexC X.K C) (iC : PySem.W.findIn X.K (.ref C) "__init__" = some (some (.ref fI))) (tI : PySem.W.typeIn X.K (.ref fI) = some (.type "function"))
    (F1 : FnOk X.prog X.w X.K X.mg X.base CX k fI fd ps sp) (hr : Room (k + 1) X.A) (hb : Binds X.K fd ps []) (hx : Passes CX X (fun _ _ _ => False)) (hg : Gl X x) (hm : X.mg x = some (.ref C)) (ha : PA X (e :: es) ta)
    (hdb : (x == ("__debug__" : Str)) = false := by decide) (he : starEach (e :: es) X.env = (false, eval e X.env) :: starEach es X.env := by rfl) (hpl : (backTo pos (starEach es X.env)).any (·.1) = false := by rfl) :
    L2N.PMk X (.Call (.Name x p) (e :: es) [] pos) (tMkO C sp [] ta) := by
  intro pins s σ H Q I h
  obtain ⟨_, _, _, _, bm, _, _, _, _, _, _, _, _, _, _, hC, hbm⟩ := T.cls
  refine wpAny_Call_Name_kw (ld_glob I hg hm ?_ hdb)
  refine PySem.W.callWith_K (h₀ := X.base) I.ok.mod.kin T.kC (thn (ha.run pos pins s σ H _ I h) fun us s1 q0 => ?_) he hpl
  obtain ⟨vs, H1, I1, r1, hz, q1⟩ := q0
  refine ⟨I1.kIn, ?_⟩
  obtain ⟨hp, g, dr, tk, os⟩ := s1
  obtain ⟨a, ea⟩ : ∃ a, a = hp.objs.size + 1 := ⟨_, rfl⟩
  have hsz : hp.objs.size ≤ a := by rw [ea]; exact Nat.le_succ _
  obtain ⟨hp2, e2⟩ : ∃ hp2, hp2 = (hp.push (PySem.W.kdv_tup us)).push (PySem.HandSPX.excO C hp.objs.size) := ⟨_, rfl⟩
  have hq := q1 a (I1.hok.fresh hsz)
  rw [List.append_nil] at hq
  have kk : ∀ b o, hp.get? b = some o → hp2.get? b = some o := fun b o z => by
    rw [e2]
    exact Heap.get?_push_of_some _ (Heap.get?_push_of_some _ z)
  have I2 : Inv X pins σ (upd H1 a (exo a C none)) ⟨hp2, g, dr, tk, os⟩ := by
    refine I1.laid (t' := tk) kk hsz (exo_ok (t1 := hp.objs.size) ?_)
    rw [e2, ea]
    heap_get
  have r2 : Vals (V.ref a :: vs) (Value.ref a :: us) := .cons rfl r1
  have hl : (Value.ref a :: us ++ []).length = ps.length := by
    rw [List.append_nil, ← r2.length, F1.len _ _ _ _ hq]
  have hus : us.length ≤ sizeLine := by
    rw [← Paired.length r1, sizeLine_eq]
    omega
  have b2 := hb ⟨hp2, g, dr, tk, os⟩ (Value.ref a :: us) I2.kIn hl
  rw [List.append_nil] at b2
  have code := F1.run _ X.stack _ _ ⟨Value.ref a :: us, []⟩ _ _ _ (fun _ _ _ => False) (hr.make C us []) (I2.env0.make C us []) b2 r2 hq
  show wpAny _ _ (call (.ref C) us) _ _ _
  rw [e2, ea] at code
  refine wpAny_call (PySem.HandSPX.call_own F.excBase_ValueError (fun Y => PySem.HandSPX.refsVE_contains Y bm hbm) (I1.kIn _ _ hC) (PySem.W.looks_findIn I1.kIn iC) (fun self => PySem.W.bind_fn I1.kIn self tI) hus
    (codeAny_mono code fun r s' hq' => ?_))
  match r, hq' with
  | .error er, hq' =>
    rw [e2, ea] at I2
    exact hx pins σ _ _ er s' I2 hq'
  | .ok .next, hq' => exact hq'.elim
  | .ok .brk, hq' => exact hq'.elim
  | .ok .cont, hq' => exact hq'.elim
  | .ok (.ret u), hq' =>
    obtain ⟨v, H2, os2, bare2, un2, hok2, rv, ev, d, fs, ea2, ed, hd1, q2⟩ := hq'
    subst ev
    rw [← ea] at ea2 q2 un2
    rw [← e2] at un2
    obtain ⟨h2, g2, d2, t2, os'⟩ := s'
    obtain ⟨t0, G, J, kG, ge, hoe, na⟩ := mk_end0 (d2 := d2) (t2 := t2) I1 hsz kk un2 hok2 os2 bare2 ea2 ed hd1
    rw [← ea]
    refine ⟨rv, a, _, _, ⟨G, g2, d2, t2, os'⟩, _, .ref C, some d, rfl, J, kG, ge, hoe, ⟨rfl, rfl, fun ws hw => ?_⟩, rfl, rfl, na, rfl, bare2, raises_own T.exC T.tyC, q2⟩
    cases hw
    rfl
end
end Bk

namespace Bk
open PySem PySem.Spec PyProof.Rows L2
/-- an object that can be asked of a tuple of names -/
def Ask (H : Hp) (v : V) : Prop := flatV v = true ∨ Box H v
theorem Ask.same {H H' : Hp} {v : V} (h : Ask H v) (e : Same H H') : Ask H' v := by
  rcases h with h | h
  · exact .inl h
  · refine .inr ?_
    cases h with
    | lst h => exact .lst (e _ _ h)
    | tup h => exact .tup (e _ _ h)
    | dK h => exact .dK (e _ _ h)
/-- the first of some objects that is none of the names -/
def firstNot (zs : List Str) (xs : List V) : Option V := xs.find? fun v => !inV v (zs.map V.str)
theorem firstNot_some {zs : List Str} {xs : List V} {i : Nat} {v : V} (hb : ∀ u ∈ xs.take i, inV u (zs.map V.str) = true) (hv : xs[i]? = some v) (hn : inV v (zs.map V.str) = false) : firstNot zs xs = some v := by
  unfold firstNot
  rw [List.find?_eq_some_iff_append]
  refine ⟨by rw [hn]; rfl, xs.take i, xs.drop (i + 1), ?_, fun u m => by rw [hb u m]; rfl⟩
  obtain ⟨h1, rfl⟩ := List.getElem?_eq_some_iff.mp hv
  rw [← List.drop_eq_getElem_cons h1, List.take_append_drop]
theorem firstNot_none {zs : List Str} {xs : List V} (h : ∀ u ∈ xs, inV u (zs.map V.str) = true) : firstNot zs xs = none := by
  unfold firstNot
  rw [List.find?_eq_none]
  intro u m
  rw [h u m]
  exact Bool.false_ne_true
theorem box_odd {H : Hp} {v : V} (h : Box H v) : ∀ s, v ≠ .str s := fun s e => by
  cases h <;> cases e
theorem none_names {zs : List Str} {xs : List V} (h : firstNot zs xs = none) : ∃ ks : List Str, xs = ks.map V.str ∧ ∀ k ∈ ks, k ∈ zs := by
  induction xs with
  | nil => exact ⟨[], rfl, fun k m => nomatch m⟩
  | cons x r ih =>
    unfold firstNot at h
    rw [List.find?_eq_none] at h
    have h0 := h x List.mem_cons_self
    obtain ⟨ks, rfl, hk⟩ := ih (by
      unfold firstNot
      rw [List.find?_eq_none]
      exact fun u m => h u (List.mem_cons_of_mem _ m))
    have hx : inV x (zs.map V.str) = true := by
      cases e : inV x (zs.map V.str)
      · rw [e] at h0; exact absurd rfl h0
      · rfl
    by_cases hs : ∃ s, x = .str s
    · obtain ⟨s, rfl⟩ := hs
      rw [inV_strs] at hx
      refine ⟨s :: ks, rfl, fun k m => ?_⟩
      rcases List.mem_cons.mp m with rfl | m
      · exact of_decide_eq_true hx
      · exact hk k m
    · rw [inV_odd (fun s e => hs ⟨s, e⟩)] at hx
      cases hx
def spCheck (K : PySem.W.Frag) (C CN : Addr) : Sp := fun vs H Q E => ∃ (x a : Addr) (xs : List V) (zs : List Str) (ch : Bool), vs = [.ref x, .ref a] ∧ FoldersAt C H x zs ch ∧ Sqs K H (.ref a) true ∧ (SqL K H a xs ∨ SqT K H a xs) ∧ (∀ v ∈ xs, Ask H v) ∧
  (∀ v d H', firstNot zs xs = some v → ExcAt H d "name" v H' → E (.ref CN) (some d) H') ∧ ∀ H', firstNot zs xs = none → Same H H' → Q .non H'
section
variable {P : Program} {w : World} {K : PySem.W.Frag} {mg : Str → Option Value} {base : Heap}
theorem scNF : FnScope ["self", "name"] ["self", "name"] (defScope (inClass (topS 7) 0)) := ⟨rfl, rfl, rfl, by decide +kernel, rfl, by decide +kernel, by decide +kernel⟩
theorem ok_NF {C f : Addr} {fd : FuncData} (T : ExT K mg "NoFolder" C f "name") (F : Fun K "__init__" "NoFolder.__init__" (inClass (topS 7) 0) f fd) : FnOk P w K mg base CX0 1 f fd ["self", "name"] (spExcInit C "name") := by
  refine F.ok scNF (fun vs H Q E h => ?_) (fun cdv A outer s H vs Q E hr h => ?_)
  · obtain ⟨a, v, rfl, _⟩ := h
    rfl
  · obtain ⟨a, v, rfl, ha, q⟩ := h
    refine ⟨_, pss_one (ps_ost (pv 0) (pv 1)), ?_⟩
    exact ⟨_, rfl, _, rfl, a, C, rfl, T.o, T.noF, .inl ⟨ha, fun dx ndx hne => q dx ndx hne⟩⟩
theorem scCheck : FnScope ["folders", "names", "name"] ["folders", "names"] (defScope (topS 34)) := ⟨rfl, rfl, rfl, by decide +kernel, rfl, by decide +kernel, by decide +kernel⟩
theorem ok_check (B : Bi mg) {C CN f0 fN fI f f1 : Addr} {fdN fdI fd fd1 : FuncData} (T : FolT K mg C f0) (T_NoFolder : ExT K mg "NoFolder" CN fN "name")
    (G_NoFolder : FnOk P w K mg base CX0 1 fN fdN ["self", "name"] (spExcInit CN "name")) (b_NoFolder : Binds K fdN ["self", "name"] [])
    (GIn : FnOk P w K mg base CX0 3 fI fdI ["self", "x"] (spFInA C)) (bIn : Binds K fdI ["self", "x"] []) (mIn : Own K C "__contains__" fI)
    (c_is_list : Cal P w K mg base CX0 1 "is_list" f1 fd1 ["thing"] (spIsList K)) (F : Fun K "check_named" "check_named" (topS 34) f fd) : FnOk P w K mg base (L2N.CX P w) 4 f fd ["folders", "names"] (spCheck K C CN) := by
  refine Fun.okN F scCheck (fun vs H Q E h => ?_) (fun cdv A outer s H vs Q E hr h => ?_)
  · obtain ⟨x, a, xs, zs, ch, rfl, _⟩ := h
    rfl
  · obtain ⟨x, a, xs, zs, ch, rfl, FA, b, hS, hA, kE, kQ⟩ := h
    have nd := scCheck.nd
    have hu := hu_of hr
    have hrI : Room 3 _ := hr.mono (by decide)
    have hr_is_list : Room 1 _ := hr.mono (by decide)
    have hrE : Room 2 _ := hr.mono (by decide)
    refine ⟨_, (pss_cons (ps_if (pt_not (pt_val (pe_call c_is_list.ok hr_is_list (by rfl) c_is_list.g c_is_list.kp c_is_list.b .nil pass0 (pa_cons (pv 1) pa_nil)))) (pss_one ps_no) pss_nil)
      (pss_one (ps_for (passes_of rfl) rfl (pi_or (kPiL K (pv 1)) (kPiT K (pv 1))) (pg_name (i := 2) nd rfl (Or.inl rfl)) (pss_one (ps_if (pt_cmpR (op_notInOwn GIn bIn pass0 hrI mIn) (pv 2) (pv 0) rfl) (pss_one (L2N.ps_raise rfl (L2N.takes_of rfl rfl rfl rfl) (pmk_oexN T_NoFolder.o T_NoFolder.iC T_NoFolder.tI G_NoFolder hrE b_NoFolder pass0 (by rfl) T_NoFolder.g (pa_cons (pv 2) pa_nil)))) pss_nil))))), ?_⟩
    refine ⟨_, rfl, _, true, rfl, b, fun H1 e1 => ⟨_, rfl, ?_⟩⟩
    refine iteF ?_
    refine for_S rfl (hS.imp (fun z => e1.seq z) fun z => Same.sqt e1 z) (fun i σ' H' => ∃ v2, σ' = [some (.ref x), some (.ref a), v2] ∧ Same H1 H' ∧ ∀ u ∈ xs.take i, inV u (zs.map V.str) = true) ⟨none, rfl, Same.refl _, fun u m => nomatch m⟩ (fun i σ' H' ⟨_, _, e, _⟩ => e) ?_ ?_
    · rintro i v σ' H2 hi hv ⟨v2, rfl, e2, hb⟩
      have e02 := Same.trans e1 e2
      have hA2 := (hA v (List.mem_of_getElem? hv)).same e02
      have FA2 := FA.same e02
      obtain ⟨dx, t, pd, hx, _, _⟩ := id FA2
      refine ⟨_, rfl, _, rfl, x, dx, _, rfl, hx, x, v, zs, ch, inV v (zs.map V.str), rfl, FA2, ?_, fun H3 e3 => ⟨_, rfl, _, rfl, ?_⟩⟩
      · rcases hA2 with h | h
        · exact .inl ⟨h, rfl⟩
        · exact .inr (.inl ⟨h, inV_odd (box_odd h) zs⟩)
      · cases hin : inV v (zs.map V.str) with
        | true =>
          refine iteF ?_
          refine ⟨_, rfl, Same.trans e2 e3, fun u m => ?_⟩
          rw [take_succ hv] at m
          rcases List.mem_append.mp m with m | m
          · exact hb u m
          · rw [List.mem_singleton.mp m]
            exact hin
        | false =>
          refine iteT ?_
          refine mkO_of (v := v) (H1 := H3) (fun R r => ⟨_, rfl, r⟩) fun d H' h => kE v d H' (firstNot_some hb hv hin) ⟨(Same.trans e02 e3).free h.1, Same.trans (Same.trans e02 e3) h.2.1, h.2.2⟩
    · rintro σ' H2 ⟨v2, rfl, e2, hb⟩
      rw [List.take_length] at hb
      exact kQ H2 (firstNot_none hb) (Same.trans e1 e2)
end
end Bk

namespace Bk
open PySem PySem.Spec PyProof.Rows L2
/-- how often the question of some lots counts a lot -/
def cnt (ls : List (List Str)) (l : List Str) : Int := if l ∈ ls then 1 else 0
theorem ones_ent (ls : List (List Str)) : entT (ls.map fun l => (l, (1 : Int))) = tabL ls fun _ => 1 := by
  unfold entT tabL
  rw [List.map_map]
  rfl
theorem ones_found {ch : Bool} {zs : List Str} {ls : List (List Str)} (nz : zs.Nodup) (lz : zs.length ≤ mostFor ch) (h : ∀ l ∈ ls, l ∈ lotsFor ch zs) : foundT zs (ls.map fun l => (l, (1 : Int))) = tabL ls fun _ => 1 := by
  unfold foundT tabL
  rw [List.map_map]
  refine List.map_congr_left fun l m => ?_
  show ((lotS zs l).map Sum.inr, (1 : Int)) = _
  rw [lotS_sub (lots_sub lz (h l m)) nz]
theorem ones_ents {ch : Bool} {zs : List Str} {ls : List (List Str)} (nz : zs.Nodup) (lz : zs.length ≤ mostFor ch) (h : ∀ l ∈ ls, l ∈ lotsFor ch zs) (nl : ls.Nodup) : Ents ch zs (ls.map fun l => (l, (1 : Int))) := by
  have e : ∀ l ∈ ls, lotS zs l = l := fun l m => lotS_sub (lots_sub lz (h l m)) nz
  refine ⟨?_, fun x m => ?_, fun x m => ?_, ?_⟩
  · have h1 := pigeon ls (lotsFor ch zs) nl h
    have h2 := lots_few (ch := ch) lz
    rw [List.length_map]
    omega
  · obtain ⟨l, ml, rfl⟩ := List.mem_map.mp m
    show lotOfV ch zs (l.map V.str) = some (lotS zs l)
    rw [e l ml]
    exact lotOfV_lot lz nz (h l ml)
  · obtain ⟨l, ml, rfl⟩ := List.mem_map.mp m
    have h1 := lot_len (h l ml)
    have h2 : mostFor ch ≤ 12 := by cases ch <;> decide
    show l.length ≤ 1000
    omega
  · rw [List.map_map]
    rw [show ls.map ((fun e : List Str × Int => lotS zs e.1) ∘ fun l => (l, (1 : Int))) = ls from by
      conv => rhs; rw [← List.map_id ls]
      exact List.map_congr_left fun l m => e l m]
    exact nl
def spCounting (C CQ : Addr) : Sp := fun vs H Q _ => ∃ (x D : Addr) (ws : List V) (zs : List Str) (ch : Bool) (ls : List (List Str)), vs = [.ref x, .ref D] ∧ FoldersAt C H x zs ch ∧ zs.Nodup ∧ zs.length ≤ mostFor ch ∧ H D = some (.lst ws) ∧ Ats H (fun l : List Str => l.map V.str) ws ls ∧ (∀ l ∈ ls, l ∈ lotsFor ch zs) ∧ ls.Nodup ∧
  ∀ q H', H q = none → Same H H' → QuestAt C CQ H' q x zs ch (cnt ls) → Q (.ref q) H'
section
variable {P : Program} {w : World} {K : PySem.W.Frag} {mg : Str → Option Value} {base : Heap}
theorem scCounting : FnScope ["folders", "lots", "lot"] ["folders", "lots"] (defScope (topS 46)) := ⟨rfl, rfl, rfl, by decide +kernel, rfl, by decide +kernel, by decide +kernel⟩
theorem ok_counting (B : Bi mg) {C CQ f0 fQ f : Addr} {fdQ fd : FuncData} (T : FolT K mg C f0) (TQ : QueT K mg CQ fQ) (GQ : FnOk P w K mg base CX0 4 fQ fdQ ["self", "folders", "weights"] (spQuest K C CQ)) (bQ : Binds K fdQ ["self", "folders", "weights"] [])
    (F : Fun K "counting" "counting" (topS 46) f fd) : FnOk P w K mg base CX0 6 f fd ["folders", "lots"] (spCounting C CQ) := by
  refine F.ok scCounting (fun vs H Q E h => ?_) (fun cdv A outer s H vs Q E hr h => ?_)
  · obtain ⟨x, D, ws, zs, ch, ls, rfl, _⟩ := h
    rfl
  · obtain ⟨x, D, ws, zs, ch, ls, rfl, FA, nz, lz, hD, at0, hls, nl, qq⟩ := h
    have nd := scCounting.nd
    have hu := hu_of hr
    refine ⟨_, (pss_one (ps_ret (pe_make TQ.make GQ hr (by rfl) TQ.g bQ .nil pass0 (pa_cons (pv 0) (pa_cons (pe_dcT (own := [("lot", 2)]) hr.units0 rfl nd (kPiL K (pv 1)) (blkOk_by (N := ["folders", "lots", "lot"]) (sc := defScope (topS 46)) (by decide +kernel)) (fun _ _ _ _ _ => (pg_name (i := 2) nd rfl (Or.inl rfl))) (fun _ _ _ _ _ => (pv 2)) (fun _ _ _ _ _ => pe_int)) pa_nil))))), ?_⟩
    have lenl : ls.length ≤ 2000 := Nat.le_trans (pigeon ls (lotsFor ch zs) nl hls) (lots_few lz)
    refine ⟨_, rfl, _, rfl, D, rfl, ⟨_, SqL.of hD⟩, fun D2 nD2 => dcT_itw walk_list (fun i H' => Same H H' ∧ H' D2 = some (.dT (tabV (tabL (ls.take i) fun _ => 1)))) ⟨same_upd nD2, upd_same⟩ (fun i H' _ ⟨e, _⟩ => SqL.of (e _ _ hD)) ?_ ?_⟩
    · rintro i v H1 H2 hi ⟨e1, hd1⟩ ⟨rfl, hv⟩
      obtain ⟨l, hl⟩ : ∃ l, ls[i]? = some l := ⟨_, List.getElem?_eq_getElem (by rw [← at0.1]; exact hi)⟩
      obtain ⟨b, rfl, hb⟩ := at0.2 i v l hv hl
      have hb2 : H2 b = some (.tup (l.map V.str)) := e1 _ _ hb
      rw [← str_key] at hb2
      refine ⟨rfl, _, rfl, _, l.map Sum.inr, b, rfl, hb2, hd1, ?_, Same.grow e1 nD2, ?_⟩
      · rw [tab_len]
        unfold tabL
        rw [List.length_map, List.length_take]
        exact Evl.sz_lt (by omega)
      · have hnew : l ∉ ls.take i := by
          intro m
          obtain ⟨j, hj, e⟩ := List.mem_take_iff_getElem.mp m
          have hil := (List.getElem?_eq_some_iff.mp hl).1
          have := nodup_inj nl (i := j) (j := i) (by omega) hil (by
            rw [e]
            exact (List.getElem?_eq_some_iff.mp hl).2.symm)
          omega
        have := tab_put (f := fun _ => (1 : Int)) hnew
        rw [upd_same, this, take_succ hl]
    · rintro H1 ⟨e1, hd1⟩
      rw [at0.1, List.take_length] at hd1
      intro q dx nq ndx hne
      have e2 := Same.grow (o := HO.ins CQ dx []) (Same.grow (o := HO.own q) (Same.refl H1) ndx) nq
      obtain ⟨dx', t, pd, hx, ht, hp⟩ := FA
      have e12 := Same.trans e1 e2
      refine ⟨q, x, dx, dx', t, pd, .ref D2, zs, ch, cnt ls, rfl, upd_same, e12 _ _ hx, e12 _ _ ht, e12 _ _ hp, nz, lz, .inr ⟨D2, ls.map fun l => (l, (1 : Int)), rfl, ?_, ?_, ones_ents nz lz hls nl, fun l m => ?_⟩, fun H' QA hb => ⟨rfl, qq q H' (e1.free nq) (fun b u z => hb b u (ne_of_none (e1 _ _ z) nq) (e12 _ _ z)) QA⟩⟩
      · exact ne_of_none hp nD2
      · rw [ones_ent]
        exact e2 _ _ hd1
      · rw [ones_found nz lz hls, getT_tab]
        unfold cnt
        by_cases h : l ∈ ls
        · rw [if_pos h, if_pos h]; rfl
        · rw [if_neg h, if_neg h]; rfl
end
end Bk

namespace Bk
open PySem PySem.Spec PyProof.Rows L2
/-- which lots a function counts, of the names that are handed over -/
abbrev Cnt := List Str → List Str → List Str → Bool
def cRefers : Cnt := fun _ ks l => ks.any fun k => decide (k ∈ l)
def cFreed : Cnt := fun _ ks l => l.all fun k => decide (k ∈ ks)
def cShared : Cnt := fun _ ks l => ks.all fun k => decide (k ∈ l)
def cJust : Cnt := fun zs ks l => decide (l = zs.filter fun n => decide (n ∈ ks))
def cSent : Cnt := fun _ ks l => decide (ks.getD 1 Str.empty ∈ l) && !decide (ks.getD 0 Str.empty ∈ l)
def cntF (p : Cnt) (ch : Bool) (zs ks : List Str) : List Str → Int := cnt ((lotsFor ch zs).filter (p zs ks))
/-- what all five functions promise -/
def spFn (K : PySem.W.Frag) (C CQ CN : Addr) (p : Cnt) : Sp := fun vs H Q E => ∃ (x a : Addr) (xs : List V) (zs : List Str) (ch : Bool), vs = [.ref x, .ref a] ∧ FoldersAt C H x zs ch ∧ zs.Nodup ∧ zs.length ≤ mostFor ch ∧ (∀ z ∈ zs, isNameS z = true) ∧ Sqs K H (.ref a) true ∧ (SqL K H a xs ∨ SqT K H a xs) ∧ (∀ v ∈ xs, Ask H v) ∧ xs.length ≤ 1000 ∧
  (∀ v d H', firstNot zs xs = some v → ExcAt H d "name" v H' → E (.ref CN) (some d) H') ∧ ∀ ks q H', xs = ks.map V.str → (∀ k ∈ ks, k ∈ zs) → H q = none → Same H H' → QuestAt C CQ H' q x zs ch (cntF p ch zs ks) → Q (.ref q) H'
theorem inV_str (z : Str) (zs : List Str) : inV (.str z) (zs.map V.str) = decide (z ∈ zs) := inV_strs z zs
theorem lot_small {ch : Bool} {zs l : List Str} (lz : zs.length ≤ mostFor ch) (m : l ∈ lotsFor ch zs) : (l.map V.str).length ≤ 100000 := by
  have h1 := lot_len m
  have h2 : mostFor ch ≤ 12 := by cases ch <;> decide
  rw [List.length_map]
  omega
theorem names_small {ch : Bool} {zs : List Str} (lz : zs.length ≤ mostFor ch) : (zs.map V.str).length ≤ 100000 := by
  have h2 : mostFor ch ≤ 12 := by cases ch <;> decide
  rw [List.length_map]
  omega
theorem any_map {α : Type} (f : α → Bool) (l : List α) : (l.map f).any id = l.any f := by
  rw [List.any_map]
  rfl
theorem all_map {α : Type} (f : α → Bool) (l : List α) : (l.map f).all id = l.all f := by
  rw [List.all_map]
  rfl
section
variable {P : Program} {w : World} {K : PySem.W.Frag} {mg : Str → Option Value} {base : Heap}
theorem unlock {H H2 : Hp} {d : Addr} {u v : HO} (hd : H d = some u) (e : Same (upd H d v) H2) : Same H (upd H2 d u) := fun b x h => by
  by_cases z : b = d
  · subst z
    rw [upd_same, ← h, hd]
  · rw [upd_ne z]
    refine e _ _ ?_
    rw [upd_ne z]
    exact h
theorem Ats.unlock {α : Type} {H : Hp} {g : α → List V} {ws : List V} {xs : List α} {d : Addr} {od : Obj} {u v : HO} (a : Ats H g ws xs) (h : H d = some (.frz od v)) : Ats (upd H d u) g ws xs := ⟨a.1, fun i w x h1 h2 => by
  obtain ⟨b, e1, e2⟩ := a.2 i w x h1 h2
  refine ⟨b, e1, ?_⟩
  rw [upd_ne (ne_of e2 h (fun z => nomatch z))]
  exact e2⟩
theorem sq_lock {H : Hp} {a d : Addr} {xs : List V} {ws : List (List Key × V)} {v : HO} (h : SqL K H a xs ∨ SqT K H a xs) (hd : H d = some (.dT ws)) : SqL K (upd H d v) a xs ∨ SqT K (upd H d v) a xs := by
  rcases h with ((h | ⟨o, h⟩) | h) | ((h | ⟨o, h⟩) | h)
  · exact .inl (.inl (.inl (by rw [upd_ne (ne_of h hd (fun z => nomatch z))]; exact h)))
  · exact .inl (.inl (.inr ⟨o, by rw [upd_ne (ne_of h hd (fun z => nomatch z))]; exact h⟩))
  · exact .inl (.inr h)
  · exact .inr (.inl (.inl (by rw [upd_ne (ne_of h hd (fun z => nomatch z))]; exact h)))
  · exact .inr (.inl (.inr ⟨o, by rw [upd_ne (ne_of h hd (fun z => nomatch z))]; exact h⟩))
  · exact .inr (.inr h)
/-- [lot for lot in folders.places if p(lot)], the places locked the while -/
theorem lots_lock {C f0 x dx t pd : Addr} {σ : L2.St} {i k : Nat} {vs : List Nat} {g : TG} {tt : TT} {H : Hp} {Q : VK} {zs : List Str} {ch : Bool} (T : FolT K mg C f0) (hv : σ[i]? = some (some (.ref x))) (hx : H x = some (.ins C dx (foldersF t pd ch))) (hp : H pd = some (.dT (placesOf (lotsFor ch zs))))
    (nz : zs.Nodup) (lz : zs.length ≤ mostFor ch) (p : List Str → Bool)
    (hs : ∀ od l q H' (R : L2.St → Bool → Hp → Prop), l ∈ lotsFor ch zs → Same (upd H pd (.frz od (.dT (placesOf (lotsFor ch zs))))) H' → H' q = some (.tup (l.map V.str)) → (∀ σ2 H2, σ2[k]? = some (some (.ref q)) → Same H' H2 → R σ2 (p l) H2) → g (.ref q) (wipe σ vs) H' fun σ2 H2 => wipe σ2 vs = wipe σ vs ∧ tt σ2 H2 (R σ2))
    (hd : ∀ D ws H', H D = none → Same H H' → H' D = some (.lst ws) → Ats H' (fun l : List Str => l.map V.str) ws ((lotsFor ch zs).filter p) → Q (.ref D) H') :
    tLockE (tLc (iKeys (tFld K (tVar i) "places")) g tt (tVar k) vs) σ H Q := by
  refine ⟨pd, _, hp, trivial, fun od => ?_⟩
  have hxp : x ≠ pd := ne_of hx hp (fun z => nomatch z)
  have hp3 : upd H pd (.frz od (.dT (placesOf (lotsFor ch zs)))) pd = some (.frz od (.dT (placesOf (lotsFor ch zs)))) := upd_same
  refine ⟨_, hv, x, C, dx, _, _, rfl, by rw [upd_ne hxp]; exact hx, T.cl, T.nP, look_places _ _ _, pd, od, rfl, .inr ⟨_, hp3, fun D nD => ?_⟩⟩
  have hDp : D ≠ pd := (ne_of_none hp3 nD).symm
  have nD0 : H D = none := by rw [upd_ne hDp] at nD; exact nD
  refine places_it nz lz p hp3 nD (hs od) fun ws H' e hD at1 => ⟨e _ _ hp3, hd D ws _ nD0 (unlock hp e) ?_ (at1.unlock (e _ _ hp3))⟩
  rw [upd_ne hDp]
  exact hD
theorem scRefers : FnScope ["folders", "names", "lot", "name"] ["folders", "names"] (defScope (topS 47)) := ⟨rfl, rfl, rfl, by decide +kernel, rfl, by decide +kernel, by decide +kernel⟩
theorem ok_refers (B : Bi mg) {C CQ CN f0 f f1 f2 : Addr} {fd fd1 fd2 : FuncData} (T : FolT K mg C f0) (c_check_named : Cal P w K mg base (L2N.CX P w) 4 "check_named" f1 fd1 ["folders", "names"] (spCheck K C CN)) (c_counting : Cal P w K mg base CX0 6 "counting" f2 fd2 ["folders", "lots"] (spCounting C CQ))
    (F : Fun K "refers" "refers" (topS 47) f fd) : FnOk P w K mg base (L2N.CX P w) 7 f fd ["folders", "names"] (spFn K C CQ CN cRefers) := by
  refine Fun.okN F scRefers (fun vs H Q E h => ?_) (fun cdv A outer s H vs Q E hr h => ?_)
  · obtain ⟨x, a, xs, zs, ch, rfl, _⟩ := h
    rfl
  · obtain ⟨x, a, xs, zs, ch, rfl, FA, nz, lz, nm, b, hS, hA, lx, kE, kQ⟩ := h
    have nd := scRefers.nd
    have hu := hu_of hr
    have hr_check_named : Room 4 _ := hr.mono (by decide)
    have hr_counting : Room 6 _ := hr.mono (by decide)
    refine ⟨_, (pss_cons (ps_expr (pe_call c_check_named.ok hr_check_named (by rfl) c_check_named.g c_check_named.kp c_check_named.b .nil (L2N.passes_call (L2N.takes_of rfl rfl rfl rfl) (fun _ _ _ _ h => h)) (pa_cons (pv 0) (pa_cons (pv 1) pa_nil))))
      (pss_one (ps_ret (pe_call c_counting.ok hr_counting (by rfl) c_counting.g c_counting.kp c_counting.b .nil pass0 (pa_cons (pv 0) (pa_cons (pe_lock (pe_lc (own := [("lot", 2)]) rfl nd (pi_keys (pe_fld (pv 0) rfl)) (blkOk_by (N := ["folders", "names", "lot", "name"]) (sc := defScope (topS 47)) (by decide +kernel)) (fun _ _ _ _ _ => (pg_name (i := 2) nd rfl (Or.inr rfl))) (fun _ _ _ _ _ => (pts_one (pt_val (pe_callB (kAny K rfl) (by rfl) B.any (by decide +kernel) (pa_cons (pe_lc (own := [("name", 3)]) rfl nd (pi_or (kPiL K (pv 1)) (kPiT K (pv 1))) (blkOk_by (by with_unfolding_all rfl)) (fun _ _ _ _ _ => (pg_name (i := 3) nd rfl (Or.inl rfl))) (fun _ _ _ _ _ => pts_nil) (fun _ _ _ _ _ => (pe_cmpR (kIn K) (pv 3) (pv 2) rfl))) pa_nil))))) (fun _ _ _ _ _ => (pv 2)))) pa_nil)))))), ?_⟩
    refine ⟨_, rfl, _, rfl, x, a, xs, zs, ch, rfl, FA, b, hS, hA, kE, fun H1 hno e1 => ?_⟩
    obtain ⟨ks, rfl, hks⟩ := none_names hno
    have hS1 : SqL K H1 a (ks.map V.str) ∨ SqT K H1 a (ks.map V.str) := hS.imp (fun z => e1.seq z) fun z => Same.sqt e1 z
    have FA1 := FA.same e1
    obtain ⟨dx, t, pd, hx, ht, hp⟩ := id FA1
    refine ⟨_, rfl, ?_⟩
    refine lots_lock T ?_ hx hp nz lz (cRefers zs ks) ?_ ?_
    · rfl
    · intro od l q H2 R ml e2 hq hR
      have hS2 := (sq_lock (v := .frz od (.dT (placesOf (lotsFor ch zs)))) hS1 hp).imp (fun z => e2.seq z) fun z => Same.sqt e2 z
      refine ⟨rfl, ?_⟩
      refine tb1 ?_
      refine map_S (fun v => V.bl (inV v (l.map V.str))) (by rfl) hS2 (by omega) (fun v H3 R' mv e3 hR' => ?_) fun D H3 nD e3 hD => ?_
      · obtain ⟨k, _, rfl⟩ := List.mem_map.mp mv
        exact ⟨rfl, _, rfl, _, rfl, q, _, rfl, .inr (SqT.of (e3 _ _ hq)), rfl, flat_strs _, hR' H3 (Same.refl _)⟩
      · have hb : (List.map (fun v => V.bl (inV v (l.map V.str))) (ks.map V.str)) = (ks.map fun k => decide (k ∈ l)).map V.bl := by
          rw [List.map_map, List.map_map]
          refine List.map_congr_left fun k _ => ?_
          show V.bl (inV (.str k) (l.map V.str)) = V.bl (decide (k ∈ l))
          rw [inV_str]
        rw [hb] at hD
        refine ⟨D, _, rfl, SqL.of hD, ?_⟩
        rw [any_map]
        exact ⟨_, rfl, hR _ H3 rfl e3⟩
    · intro D ws H2 nD e2 hD at2
      exact ⟨x, D, ws, zs, ch, _, rfl, FA1.same e2, nz, lz, hD, at2, fun l m => (List.mem_filter.mp m).1, (lots_nodup nz).filter _, fun q H3 nq e3 QA => kQ ks q H3 rfl hks ((Same.trans e1 e2).free nq) (Same.trans (Same.trans e1 e2) e3) QA⟩
end
end Bk

namespace Bk
open PySem PySem.Spec PyProof.Rows L2
section
variable {P : Program} {w : World} {K : PySem.W.Frag} {mg : Str → Option Value} {base : Heap}
theorem scFreed : FnScope ["folders", "names", "lot", "name"] ["folders", "names"] (defScope (topS 48)) := ⟨rfl, rfl, rfl, by decide +kernel, rfl, by decide +kernel, by decide +kernel⟩
theorem ok_freed (B : Bi mg) {C CQ CN f0 f f1 f2 : Addr} {fd fd1 fd2 : FuncData} (T : FolT K mg C f0) (c_check_named : Cal P w K mg base (L2N.CX P w) 4 "check_named" f1 fd1 ["folders", "names"] (spCheck K C CN)) (c_counting : Cal P w K mg base CX0 6 "counting" f2 fd2 ["folders", "lots"] (spCounting C CQ))
    (F : Fun K "freed" "freed" (topS 48) f fd) : FnOk P w K mg base (L2N.CX P w) 7 f fd ["folders", "names"] (spFn K C CQ CN cFreed) := by
  refine Fun.okN F scFreed (fun vs H Q E h => ?_) (fun cdv A outer s H vs Q E hr h => ?_)
  · obtain ⟨x, a, xs, zs, ch, rfl, _⟩ := h
    rfl
  · obtain ⟨x, a, xs, zs, ch, rfl, FA, nz, lz, nm, b, hS, hA, lx, kE, kQ⟩ := h
    have nd := scFreed.nd
    have hu := hu_of hr
    have hr_check_named : Room 4 _ := hr.mono (by decide)
    have hr_counting : Room 6 _ := hr.mono (by decide)
    refine ⟨_, (pss_cons (ps_expr (pe_call c_check_named.ok hr_check_named (by rfl) c_check_named.g c_check_named.kp c_check_named.b .nil (L2N.passes_call (L2N.takes_of rfl rfl rfl rfl) (fun _ _ _ _ h => h)) (pa_cons (pv 0) (pa_cons (pv 1) pa_nil))))
      (pss_one (ps_ret (pe_call c_counting.ok hr_counting (by rfl) c_counting.g c_counting.kp c_counting.b .nil pass0 (pa_cons (pv 0) (pa_cons (pe_lock (pe_lc (own := [("lot", 2)]) rfl nd (pi_keys (pe_fld (pv 0) rfl)) (blkOk_by (N := ["folders", "names", "lot", "name"]) (sc := defScope (topS 48)) (by decide +kernel)) (fun _ _ _ _ _ => (pg_name (i := 2) nd rfl (Or.inl rfl))) (fun _ _ _ _ _ => (pts_one (pt_val (pe_callB (kAll K rfl) (by rfl) B.all (by decide +kernel) (pa_cons (pe_lc (own := [("name", 3)]) rfl nd (kPiT K (pv 2)) (blkOk_by (by with_unfolding_all rfl)) (fun _ _ _ _ _ => (pg_name (i := 3) nd rfl (Or.inl rfl))) (fun _ _ _ _ _ => pts_nil) (fun _ _ _ _ _ => (pe_cmpR (kIn K) (pv 3) (pv 1) rfl))) pa_nil))))) (fun _ _ _ _ _ => (pv 2)))) pa_nil)))))), ?_⟩
    refine ⟨_, rfl, _, rfl, x, a, xs, zs, ch, rfl, FA, b, hS, hA, kE, fun H1 hno e1 => ?_⟩
    obtain ⟨ks, rfl, hks⟩ := none_names hno
    have hS1 : SqL K H1 a (ks.map V.str) ∨ SqT K H1 a (ks.map V.str) := hS.imp (fun z => e1.seq z) fun z => Same.sqt e1 z
    have FA1 := FA.same e1
    obtain ⟨dx, t, pd, hx, ht, hp⟩ := id FA1
    refine ⟨_, rfl, ?_⟩
    refine lots_lock T ?_ hx hp nz lz (cFreed zs ks) ?_ ?_
    · rfl
    · intro od l q H2 R ml e2 hq hR
      have hS2 := (sq_lock (v := .frz od (.dT (placesOf (lotsFor ch zs)))) hS1 hp).imp (fun z => e2.seq z) fun z => Same.sqt e2 z
      refine ⟨rfl, ?_⟩
      refine tb1 ?_
      refine map_T (fun v => V.bl (inV v (ks.map V.str))) (by rfl) (SqT.of hq) (lot_small lz ml) (fun v H3 R' mv e3 hR' => ?_) fun D H3 nD e3 hD => ?_
      · obtain ⟨k, _, rfl⟩ := List.mem_map.mp mv
        exact ⟨rfl, _, rfl, _, rfl, a, _, rfl, (hS2.imp (fun z => e3.seq z) fun z => Same.sqt e3 z), rfl, flat_strs _, hR' H3 (Same.refl _)⟩
      · have hb : (List.map (fun v => V.bl (inV v (ks.map V.str))) (l.map V.str)) = (l.map fun k => decide (k ∈ ks)).map V.bl := by
          rw [List.map_map, List.map_map]
          refine List.map_congr_left fun k _ => ?_
          show V.bl (inV (.str k) (ks.map V.str)) = V.bl (decide (k ∈ ks))
          rw [inV_str]
        rw [hb] at hD
        refine ⟨D, _, rfl, SqL.of hD, ?_⟩
        rw [all_map]
        exact ⟨_, rfl, hR _ H3 rfl e3⟩
    · intro D ws H2 nD e2 hD at2
      exact ⟨x, D, ws, zs, ch, _, rfl, FA1.same e2, nz, lz, hD, at2, fun l m => (List.mem_filter.mp m).1, (lots_nodup nz).filter _, fun q H3 nq e3 QA => kQ ks q H3 rfl hks ((Same.trans e1 e2).free nq) (Same.trans (Same.trans e1 e2) e3) QA⟩
theorem scShared : FnScope ["folders", "names", "lot", "name"] ["folders", "names"] (defScope (topS 49)) := ⟨rfl, rfl, rfl, by decide +kernel, rfl, by decide +kernel, by decide +kernel⟩
theorem ok_shared (B : Bi mg) {C CQ CN f0 f f1 f2 : Addr} {fd fd1 fd2 : FuncData} (T : FolT K mg C f0) (c_check_named : Cal P w K mg base (L2N.CX P w) 4 "check_named" f1 fd1 ["folders", "names"] (spCheck K C CN)) (c_counting : Cal P w K mg base CX0 6 "counting" f2 fd2 ["folders", "lots"] (spCounting C CQ))
    (F : Fun K "shared" "shared" (topS 49) f fd) : FnOk P w K mg base (L2N.CX P w) 7 f fd ["folders", "names"] (spFn K C CQ CN cShared) := by
  refine Fun.okN F scShared (fun vs H Q E h => ?_) (fun cdv A outer s H vs Q E hr h => ?_)
  · obtain ⟨x, a, xs, zs, ch, rfl, _⟩ := h
    rfl
  · obtain ⟨x, a, xs, zs, ch, rfl, FA, nz, lz, nm, b, hS, hA, lx, kE, kQ⟩ := h
    have nd := scShared.nd
    have hu := hu_of hr
    have hr_check_named : Room 4 _ := hr.mono (by decide)
    have hr_counting : Room 6 _ := hr.mono (by decide)
    refine ⟨_, (pss_cons (ps_expr (pe_call c_check_named.ok hr_check_named (by rfl) c_check_named.g c_check_named.kp c_check_named.b .nil (L2N.passes_call (L2N.takes_of rfl rfl rfl rfl) (fun _ _ _ _ h => h)) (pa_cons (pv 0) (pa_cons (pv 1) pa_nil))))
      (pss_one (ps_ret (pe_call c_counting.ok hr_counting (by rfl) c_counting.g c_counting.kp c_counting.b .nil pass0 (pa_cons (pv 0) (pa_cons (pe_lock (pe_lc (own := [("lot", 2)]) rfl nd (pi_keys (pe_fld (pv 0) rfl)) (blkOk_by (N := ["folders", "names", "lot", "name"]) (sc := defScope (topS 49)) (by decide +kernel)) (fun _ _ _ _ _ => (pg_name (i := 2) nd rfl (Or.inr rfl))) (fun _ _ _ _ _ => (pts_one (pt_val (pe_callB (kAll K rfl) (by rfl) B.all (by decide +kernel) (pa_cons (pe_lc (own := [("name", 3)]) rfl nd (pi_or (kPiL K (pv 1)) (kPiT K (pv 1))) (blkOk_by (by with_unfolding_all rfl)) (fun _ _ _ _ _ => (pg_name (i := 3) nd rfl (Or.inl rfl))) (fun _ _ _ _ _ => pts_nil) (fun _ _ _ _ _ => (pe_cmpR (kIn K) (pv 3) (pv 2) rfl))) pa_nil))))) (fun _ _ _ _ _ => (pv 2)))) pa_nil)))))), ?_⟩
    refine ⟨_, rfl, _, rfl, x, a, xs, zs, ch, rfl, FA, b, hS, hA, kE, fun H1 hno e1 => ?_⟩
    obtain ⟨ks, rfl, hks⟩ := none_names hno
    have hS1 : SqL K H1 a (ks.map V.str) ∨ SqT K H1 a (ks.map V.str) := hS.imp (fun z => e1.seq z) fun z => Same.sqt e1 z
    have FA1 := FA.same e1
    obtain ⟨dx, t, pd, hx, ht, hp⟩ := id FA1
    refine ⟨_, rfl, ?_⟩
    refine lots_lock T ?_ hx hp nz lz (cShared zs ks) ?_ ?_
    · rfl
    · intro od l q H2 R ml e2 hq hR
      have hS2 := (sq_lock (v := .frz od (.dT (placesOf (lotsFor ch zs)))) hS1 hp).imp (fun z => e2.seq z) fun z => Same.sqt e2 z
      refine ⟨rfl, ?_⟩
      refine tb1 ?_
      refine map_S (fun v => V.bl (inV v (l.map V.str))) (by rfl) hS2 (by omega) (fun v H3 R' mv e3 hR' => ?_) fun D H3 nD e3 hD => ?_
      · obtain ⟨k, _, rfl⟩ := List.mem_map.mp mv
        exact ⟨rfl, _, rfl, _, rfl, q, _, rfl, .inr (SqT.of (e3 _ _ hq)), rfl, flat_strs _, hR' H3 (Same.refl _)⟩
      · have hb : (List.map (fun v => V.bl (inV v (l.map V.str))) (ks.map V.str)) = (ks.map fun k => decide (k ∈ l)).map V.bl := by
          rw [List.map_map, List.map_map]
          refine List.map_congr_left fun k _ => ?_
          show V.bl (inV (.str k) (l.map V.str)) = V.bl (decide (k ∈ l))
          rw [inV_str]
        rw [hb] at hD
        refine ⟨D, _, rfl, SqL.of hD, ?_⟩
        rw [all_map]
        exact ⟨_, rfl, hR _ H3 rfl e3⟩
    · intro D ws H2 nD e2 hD at2
      exact ⟨x, D, ws, zs, ch, _, rfl, FA1.same e2, nz, lz, hD, at2, fun l m => (List.mem_filter.mp m).1, (lots_nodup nz).filter _, fun q H3 nq e3 QA => kQ ks q H3 rfl hks ((Same.trans e1 e2).free nq) (Same.trans (Same.trans e1 e2) e3) QA⟩
end
end Bk

namespace Bk
open PySem PySem.Spec PyProof.Rows L2
section
variable {P : Program} {w : World} {K : PySem.W.Frag} {mg : Str → Option Value} {base : Heap}
theorem named_map (ks zs : List Str) : (zs.map V.str).filter (fun v => inV v (ks.map V.str)) = (zs.filter fun n => decide (n ∈ ks)).map V.str := by
  rw [List.filter_map]
  congr 1
  refine List.filter_congr fun n _ => ?_
  exact inV_str n ks
theorem scJust : FnScope ["folders", "names", "named", "name", "lot"] ["folders", "names"] (defScope (topS 50)) := ⟨rfl, rfl, rfl, by decide +kernel, rfl, by decide +kernel, by decide +kernel⟩
theorem ok_just (B : Bi mg) {C CQ CN f0 f f1 f2 : Addr} {fd fd1 fd2 : FuncData} (T : FolT K mg C f0) (c_check_named : Cal P w K mg base (L2N.CX P w) 4 "check_named" f1 fd1 ["folders", "names"] (spCheck K C CN)) (c_counting : Cal P w K mg base CX0 6 "counting" f2 fd2 ["folders", "lots"] (spCounting C CQ))
    (F : Fun K "just" "just" (topS 50) f fd) : FnOk P w K mg base (L2N.CX P w) 7 f fd ["folders", "names"] (spFn K C CQ CN cJust) := by
  refine Fun.okN F scJust (fun vs H Q E h => ?_) (fun cdv A outer s H vs Q E hr h => ?_)
  · obtain ⟨x, a, xs, zs, ch, rfl, _⟩ := h
    rfl
  · obtain ⟨x, a, xs, zs, ch, rfl, FA, nz, lz, nm, b, hS, hA, lx, kE, kQ⟩ := h
    have nd := scJust.nd
    have hu := hu_of hr
    have hr_check_named : Room 4 _ := hr.mono (by decide)
    have hr_counting : Room 6 _ := hr.mono (by decide)
    refine ⟨_, (pss_cons (ps_expr (pe_call c_check_named.ok hr_check_named (by rfl) c_check_named.g c_check_named.kp c_check_named.b .nil (L2N.passes_call (L2N.takes_of rfl rfl rfl rfl) (fun _ _ _ _ h => h)) (pa_cons (pv 0) (pa_cons (pv 1) pa_nil))))
      (pss_cons (ps_set (i := 2) nd rfl (Or.inr rfl) (kTupleOf K (by rfl) B.tuple (pe_lc (own := [("name", 3)]) rfl nd (kPiT K (pe_fld (pv 0) rfl)) (blkOk_by (N := ["folders", "names", "named", "name", "lot"]) (sc := defScope (topS 50)) (by decide +kernel)) (fun _ _ _ _ _ => (pg_name (i := 3) nd rfl (Or.inl rfl))) (fun _ _ _ _ _ => (pts_one (pt_cmpR (kIn K) (pv 3) (pv 1) rfl))) (fun _ _ _ _ _ => (pv 3)))))
      (pss_one (ps_ret (pe_call c_counting.ok hr_counting (by rfl) c_counting.g c_counting.kp c_counting.b .nil pass0 (pa_cons (pv 0) (pa_cons (pe_lock (pe_lc (own := [("lot", 4)]) rfl nd (pi_keys (pe_fld (pv 0) rfl)) (blkOk_by (N := ["folders", "names", "named", "name", "lot"]) (sc := defScope (topS 50)) (by decide +kernel)) (fun _ _ _ _ _ => (pg_name (i := 4) nd rfl (Or.inl rfl))) (fun _ _ _ _ _ => (pts_one (pt_cmpR (kEqD K hr.units) (pv 4) (pv 2) (nomark _)))) (fun _ _ _ _ _ => (pv 4)))) pa_nil))))))), ?_⟩
    refine ⟨_, rfl, _, rfl, x, a, xs, zs, ch, rfl, FA, b, hS, hA, kE, fun H1 hno e1 => ?_⟩
    obtain ⟨ks, rfl, hks⟩ := none_names hno
    have hS1 : SqL K H1 a (ks.map V.str) ∨ SqT K H1 a (ks.map V.str) := hS.imp (fun z => e1.seq z) fun z => Same.sqt e1 z
    have FA1 := FA.same e1
    obtain ⟨dx, t, pd, hx, ht, hp⟩ := id FA1
    -- named
    have e01 := e1
    refine ⟨_, rfl, x, C, dx, _, _, rfl, hx, T.cl, T.nN, look_names _ _ _, t, rfl, ⟨_, SqT.of ht⟩, fun D0 nD0 => filt_it walk_tup (fun v => inV v (ks.map V.str)) nD0 (fun H' e => SqT.of (e _ _ ht)) (names_small lz) ?_ ?_⟩
    · intro v H2 R mv e2 hR
      obtain ⟨k, _, rfl⟩ := List.mem_map.mp mv
      have hS2 : SqL K H2 a (ks.map V.str) ∨ SqT K H2 a (ks.map V.str) := hS1.imp (fun z => e2.seq z) fun z => Same.sqt e2 z
      exact ⟨rfl, _, rfl, _, rfl, a, _, rfl, hS2, rfl, flat_strs _, _, rfl, hR _ H2 rfl (Same.refl _)⟩
    intro H2 e2 hD0
    rw [named_map] at hD0
    refine .inl ⟨D0, _, rfl, SqL.of hD0, fun p np => ?_⟩
    have ep := same_upd (o := HO.tup ((zs.filter fun n => decide (n ∈ ks)).map V.str)) np
    have hpp : upd H2 p (HO.tup ((zs.filter fun n => decide (n ∈ ks)).map V.str)) p = some (HO.tup ((zs.filter fun n => decide (n ∈ ks)).map V.str)) := upd_same
    generalize upd H2 p (HO.tup ((zs.filter fun n => decide (n ∈ ks)).map V.str)) = H3 at ep hpp ⊢
    have e3 := Same.trans e2 ep
    have FA3 := FA1.same e3
    refine ⟨_, rfl, ?_⟩
    refine lots_lock T ?_ (e3 _ _ hx) (e3 _ _ hp) nz lz (cJust zs ks) ?_ ?_
    · rfl
    · intro od l q H4 R ml e4 hq hR
      have hpl : H4 p = some (HO.tup ((zs.filter fun n => decide (n ∈ ks)).map V.str)) := e4 _ _ (by rw [upd_ne (ne_of hpp (e3 _ _ hp) (fun z => nomatch z))]; exact hpp)
      refine ⟨rfl, ?_⟩
      refine ⟨_, rfl, _, rfl, .tuple (l.map PyData.str), .tuple ((zs.filter fun n => decide (n ∈ ks)).map PyData.str), .tup (SqT.of hq) (dp_strs l), .tup (SqT.of hpl) (dp_strs _), shaped_strs l (fun z m => nm z ((lots_sub lz ml).subset m)), shaped_strs _ (fun z m => nm z (List.mem_filter.mp m).1), _, rfl, ?_⟩
      rw [eqv_strs]
      exact hR _ H4 rfl (Same.refl _)
    · intro D ws H4 nD e4 hD at4
      exact ⟨x, D, ws, zs, ch, _, rfl, FA3.same e4, nz, lz, hD, at4, fun l m => (List.mem_filter.mp m).1, (lots_nodup nz).filter _, fun q H5 nq e5 QA => kQ ks q H5 rfl hks ((Same.trans (Same.trans e1 e3) e4).free nq) (Same.trans (Same.trans (Same.trans e1 e3) e4) e5) QA⟩
def spSent (K : PySem.W.Frag) (C CQ CN : Addr) : Sp := fun vs H Q E => ∃ (x : Addr) (y1 y2 : V) (zs : List Str) (ch : Bool), vs = [.ref x, y1, y2] ∧ FoldersAt C H x zs ch ∧ zs.Nodup ∧ zs.length ≤ mostFor ch ∧ (∀ z ∈ zs, isNameS z = true) ∧ Ask H y1 ∧ Ask H y2 ∧
  (∀ v d H', firstNot zs [y1, y2] = some v → ExcAt H d "name" v H' → E (.ref CN) (some d) H') ∧ ∀ k1 k2 q H', y1 = .str k1 → y2 = .str k2 → k1 ∈ zs → k2 ∈ zs → H q = none → Same H H' → QuestAt C CQ H' q x zs ch (cntF cSent ch zs [k1, k2]) → Q (.ref q) H'
theorem scSent : FnScope ["folders", "one", "other", "lot"] ["folders", "one", "other"] (defScope (topS 51)) := ⟨rfl, rfl, rfl, by decide +kernel, rfl, by decide +kernel, by decide +kernel⟩
theorem ok_sent (B : Bi mg) {C CQ CN f0 f f1 f2 : Addr} {fd fd1 fd2 : FuncData} (T : FolT K mg C f0) (c_check_named : Cal P w K mg base (L2N.CX P w) 4 "check_named" f1 fd1 ["folders", "names"] (spCheck K C CN)) (c_counting : Cal P w K mg base CX0 6 "counting" f2 fd2 ["folders", "lots"] (spCounting C CQ))
    (F : Fun K "sent" "sent" (topS 51) f fd) : FnOk P w K mg base (L2N.CX P w) 7 f fd ["folders", "one", "other"] (spSent K C CQ CN) := by
  refine Fun.okN F scSent (fun vs H Q E h => ?_) (fun cdv A outer s H vs Q E hr h => ?_)
  · obtain ⟨x, y1, y2, zs, ch, rfl, _⟩ := h
    rfl
  · obtain ⟨x, y1, y2, zs, ch, rfl, FA, nz, lz, nm, a1, a2, kE, kQ⟩ := h
    have nd := scSent.nd
    have hu := hu_of hr
    have hr_check_named : Room 4 _ := hr.mono (by decide)
    have hr_counting : Room 6 _ := hr.mono (by decide)
    refine ⟨_, (pss_cons (ps_expr (pe_call c_check_named.ok hr_check_named (by rfl) c_check_named.g c_check_named.kp c_check_named.b .nil (L2N.passes_call (L2N.takes_of rfl rfl rfl rfl) (fun _ _ _ _ h => h)) (pa_cons (pv 0) (pa_cons (pe_lst (pa_cons (pv 1) (pa_cons (pv 2) pa_nil))) pa_nil))))
      (pss_one (ps_ret (pe_call c_counting.ok hr_counting (by rfl) c_counting.g c_counting.kp c_counting.b .nil pass0 (pa_cons (pv 0) (pa_cons (pe_lock (pe_lc (own := [("lot", 3)]) rfl nd (pi_keys (pe_fld (pv 0) rfl)) (blkOk_by (N := ["folders", "one", "other", "lot"]) (sc := defScope (topS 51)) (by decide +kernel)) (fun _ _ _ _ _ => (pg_name (i := 3) nd rfl (Or.inl rfl))) (fun _ _ _ _ _ => (pts_one (PW.pt (pw_and (pt_cmpR (kIn K) (pv 2) (pv 3) rfl) (pw_and1 (pt_cmpR (kNotIn K) (pv 1) (pv 3) rfl)))))) (fun _ _ _ _ _ => (pv 3)))) pa_nil)))))), ?_⟩
    refine ⟨_, rfl, _, rfl, _, rfl, by show 2 ≤ sizeLine; rw [sizeLine_eq]; omega, fun a na => ?_⟩
    have e0 := same_upd (o := HO.lst [y1, y2]) na
    have ha : upd H a (.lst [y1, y2]) a = some (.lst [y1, y2]) := upd_same
    generalize upd H a (.lst [y1, y2]) = H0 at e0 ha ⊢
    refine ⟨x, a, [y1, y2], zs, ch, rfl, FA.same e0, sqs_kit (k := "list") (b1 := true) (b2 := false) (.base (.lst ha)) (by decide +kernel) (by decide +kernel), .inl (SqL.of ha), ?_, fun v d H' hv h => kE v d H' hv ⟨e0.free h.1, Same.trans e0 h.2.1, h.2.2⟩, fun H1 hno e1' => ?_⟩
    · intro v m
      rcases List.mem_cons.mp m with rfl | m
      · exact a1.same e0
      · rw [List.mem_singleton.mp m]
        exact a2.same e0
    have e1 := Same.trans e0 e1'
    obtain ⟨ks, ek, hks⟩ := none_names hno
    obtain ⟨k1, k2, rfl⟩ : ∃ k1 k2, ks = [k1, k2] := by
      match ks, ek with
      | [k1, k2], _ => exact ⟨k1, k2, rfl⟩
      | [], e => cases e
      | [_], e => cases e
      | _ :: _ :: _ :: _, e => cases e
    have ek1 : y1 = .str k1 := by injection ek
    have ek2 : y2 = .str k2 := by injection ek with _ ek; injection ek
    subst ek1 ek2
    have h1z := hks k1 List.mem_cons_self
    have h2z := hks k2 (List.mem_cons_of_mem _ List.mem_cons_self)
    have FA1 := FA.same e1
    obtain ⟨dx, t, pd, hx, ht, hp⟩ := id FA1
    refine ⟨_, rfl, ?_⟩
    refine lots_lock T ?_ hx hp nz lz (cSent zs [k1, k2]) ?_ ?_
    · rfl
    · intro od l q H2 R ml e2 hq hR
      have hR : R [some (.ref x), some (.str k1), some (.str k2), some (.ref q)] (decide (k2 ∈ l) && !decide (k1 ∈ l)) H2 := hR _ H2 rfl (Same.refl _)
      refine ⟨rfl, ?_⟩
      refine ⟨_, rfl, _, rfl, q, _, rfl, .inr (SqT.of hq), rfl, flat_strs _, _, rfl, ?_⟩
      rw [inV_str]
      by_cases h2 : k2 ∈ l
      · rw [decide_eq_true h2]
        rw [decide_eq_true h2, Bool.true_and] at hR
        refine iteT ?_
        refine ⟨_, rfl, _, rfl, q, _, rfl, .inr (SqT.of hq), rfl, flat_strs _, _, rfl, ?_⟩
        rw [inV_str]
        exact hR
      · rw [decide_eq_false h2]
        rw [decide_eq_false h2, Bool.false_and] at hR
        refine iteF ?_
        exact hR
    · intro D ws H2 nD e2 hD at2
      exact ⟨x, D, ws, zs, ch, _, rfl, FA1.same e2, nz, lz, hD, at2, fun l m => (List.mem_filter.mp m).1, (lots_nodup nz).filter _, fun q H3 nq e3 QA => kQ k1 k2 q H3 rfl rfl h1z h2z ((Same.trans e1 e2).free nq) (Same.trans (Same.trans e1 e2) e3) QA⟩
def spWhole (C CQ : Addr) : Sp := fun vs H Q _ => ∃ (x : Addr) (zs : List Str) (ch : Bool), vs = [.ref x] ∧ FoldersAt C H x zs ch ∧ zs.Nodup ∧ zs.length ≤ mostFor ch ∧ ∀ q H', H q = none → Same H H' → QuestAt C CQ H' q x zs ch (cnt (lotsFor ch zs)) → Q (.ref q) H'
theorem scWhole : FnScope ["folders"] ["folders"] (defScope (topS 52)) := ⟨rfl, rfl, rfl, by decide +kernel, rfl, by decide +kernel, by decide +kernel⟩
theorem ok_whole (B : Bi mg) {C CQ f0 f f2 fT : Addr} {fd fd2 fdT : FuncData} (T : FolT K mg C f0) (c_counting : Cal P w K mg base CX0 6 "counting" f2 fd2 ["folders", "lots"] (spCounting C CQ))
    (GLots : FnOk P w K mg base CX0 1 fT fdT ["self"] (spFLots C)) (bLots : Binds K fdT ["self"] []) (mLots : Meth K C "lots" fT)
    (F : Fun K "whole" "whole" (topS 52) f fd) : FnOk P w K mg base CX0 7 f fd ["folders"] (spWhole C CQ) := by
  refine F.ok scWhole (fun vs H Q E h => ?_) (fun cdv A outer s H vs Q E hr h => ?_)
  · obtain ⟨x, zs, ch, rfl, _⟩ := h
    rfl
  · obtain ⟨x, zs, ch, rfl, FA, nz, lz, kQ⟩ := h
    have nd := scWhole.nd
    have hu := hu_of hr
    have hrE : Room 1 _ := hr.mono (by decide)
    have hr_counting : Room 6 _ := hr.mono (by decide)
    refine ⟨_, (pss_one (ps_ret (pe_call c_counting.ok hr_counting (by rfl) c_counting.g c_counting.kp c_counting.b .nil pass0 (pa_cons (pv 0) (pa_cons (pe_meth0 (pv 0) T.cl mLots GLots hrE bLots .nil pass0) pa_nil))))), ?_⟩
    obtain ⟨dx, t, pd, hx, ht, hp⟩ := id FA
    refine ⟨_, rfl, _, rfl, x, dx, _, rfl, hx, look_lots _ _ _, x, zs, ch, rfl, FA, nz, fun D ws H1 nD e1 hD at1 => ?_⟩
    exact ⟨x, D, ws, zs, ch, _, rfl, FA.same e1, nz, lz, hD, at1, fun l m => m, lots_nodup nz, fun q H3 nq e3 QA => kQ q H3 (e1.free nq) (Same.trans e1 e3) QA⟩
end
end Bk

/-! + - * of instances whose class says them itself; a whole number times such an instance -/
namespace Bk
open PySem PySem.Spec PyProof.Rows L2
section
variable {X : Cx} {CX : CXT} {n : Nat} {C f : Addr} {fd : FuncData} {ps : List Str} {sp : Sp} {E : XK}
/-- x op y of two such instances; it tells an object -/
def rBinOwn (C : Addr) (sp : Sp) (E : XK) : R2 := fun x y H Q => ∃ (a dx b dy : Addr) (fs gs : List (Str × V)), x = .ref a ∧ y = .ref b ∧ H a = some (.ins C dx fs) ∧ H b = some (.ins C dy gs) ∧ sp [.ref a, .ref b] H (fun v H' => ∃ p : Addr, v = .ref p ∧ Q (.ref p) H') E
theorem op_binOwn {op : Operator} (F : FnOk X.prog X.w X.K X.mg X.base CX n f fd ps sp) (hb : Binds X.K fd ps []) (hx : Passes CX X E) (hr : Room n X.A) (m : Own X.K C (PySem.dunder op.info.2) f) (hc : PySem.W.selfFirst X.K C = true) : OpR X (binaryOp op) (rBinOwn C sp E) := by
  intro pins s σ H x y v u Q I rx ry h
  obtain ⟨a, dx, b, dy, fs, gs, rfl, rfl, ha, hb', hs⟩ := h
  cases rx
  cases ry
  obtain ⟨mA, J, _⟩ := ins_get I.hok ha
  obtain ⟨od, J, _⟩ := J.look
  obtain ⟨mB, J2, _⟩ := ins_get I.hok hb'
  obtain ⟨_, hF⟩ := I.fr
  refine PySem.W.binop_K (op := op) hF I.ok.mod.kin J (looks_cls J2.obj rfl) hc m.at_ m.fn (wpAny_mono (own_run (vs := [.ref a, .ref b]) F hb hx ⟨hr, rfl⟩ I (.cons rfl (.cons rfl .nil)) hs) (fun v s' hv => ?_) fun _ _ z => z)
  obtain ⟨z, H', I', rv, p, rfl, q⟩ := hv
  cases rv
  exact ⟨.ref p, H', I', rfl, q⟩
/-- x * k, k a whole number -/
def rMulInt (C : Addr) (sp : Sp) (E : XK) : R2 := fun x y H Q => ∃ (a dx : Addr) (fs : List (Str × V)) (i : Int), x = .ref a ∧ y = .int i ∧ H a = some (.ins C dx fs) ∧ sp [.ref a, .int i] H (fun v H' => ∃ p : Addr, v = .ref p ∧ Q (.ref p) H') E
/-- what the top says of a class with own * from both sides -/
structure MulT (K : PySem.W.Frag) (C fM fR : Addr) : Prop where
  sf : PySem.W.selfFirst K C = true
  m : Own K C "__mul__" fM
  r : Own K C "__rmul__" fR
  i1 : PySem.W.findIn K (.type "int") "__mul__" = some (some (.builtin "int.__mul__"))
  i2 : PySem.W.findIn K (.type "int") "__rmul__" = some (some (.builtin "int.__rmul__"))
  s1 : PySem.W.subIn K (.type "int") (.ref C) = some false
  s2 : PySem.W.subIn K (.ref C) (.type "int") = some false
theorem op_mulInt {fR : Addr} (F : FnOk X.prog X.w X.K X.mg X.base CX n f fd ps sp) (hb : Binds X.K fd ps []) (hx : Passes CX X E) (hr : Room n X.A) (m : MulT X.K C f fR) : OpR X (binaryOp .Mult) (rMulInt C sp E) := by
  intro pins s σ H x y v u Q I rx ry h
  obtain ⟨a, dx, fs, i, rfl, rfl, ha, hs⟩ := h
  cases rx
  obtain ⟨t, rfl⟩ := (show ∃ t, u = Value.int i t from ry)
  obtain ⟨mA, J, _⟩ := ins_get I.hok ha
  obtain ⟨od, J, _⟩ := J.look
  obtain ⟨_, hF⟩ := I.fr
  refine PySem.W.ksp_binT (op := .Mult) (T := "int") hF I.ok.mod.kin J rfl m.sf m.m.at_ m.m.fn m.r.at_ (.inr ⟨_, rfl⟩) m.i1 m.i2 m.s1 (wpAny_mono (own_run (vs := [.ref a, .int i]) F hb hx ⟨hr, rfl⟩ I (.cons rfl (.cons ⟨t, rfl⟩ .nil)) hs) (fun v s' hv => ?_) fun _ _ z => z)
  obtain ⟨z, H', I', rv, p, rfl, q⟩ := hv
  cases rv
  exact ⟨.ref p, H', I', rfl, q⟩
end
theorem int_mul_other (i : Int) (t : Tok) (l : Addr) (o : Obj) (ho : ∀ v, o.data ≠ .prim v) : Meets (Builtin.«int.__mul__» ⟨[.int i t, .ref l], []⟩) (fun _ R s => s.heap.get? l = some o ∧ R (.ok (.ret Value.notImplemented)) s) :=
  .of_wp fun prog w A R s h => by
    obtain ⟨hp, g, d, tk, os⟩ := s
    obtain ⟨hl, h⟩ := h
    obtain ⟨c, dd, dat, sl⟩ := o
    cases dat <;> first | exact absurd rfl (ho _) | (wp_walk; exact ⟨_, rfl, h⟩)
end Bk
namespace Bk
open PySem PySem.Spec PyProof.Rows L2
section
variable {X : Cx} {CX : CXT} {n : Nat} {C f : Addr} {fd : FuncData} {ps : List Str} {sp : Sp} {E : XK}
/-- k * x, k a whole number -/
def rIntMul (C : Addr) (sp : Sp) (E : XK) : R2 := fun x y H Q => ∃ (a dx : Addr) (fs : List (Str × V)) (i : Int), x = .int i ∧ y = .ref a ∧ H a = some (.ins C dx fs) ∧ sp [.ref a, .int i] H (fun v H' => ∃ p : Addr, v = .ref p ∧ Q (.ref p) H') E
theorem op_intMul {fM : Addr} (F : FnOk X.prog X.w X.K X.mg X.base CX n f fd ps sp) (hb : Binds X.K fd ps []) (hx : Passes CX X E) (hr : Room n X.A) (m : MulT X.K C fM f) : OpR X (binaryOp .Mult) (rIntMul C sp E) := by
  intro pins s σ H x y v u Q I rx ry h
  obtain ⟨a, dx, fs, i, rfl, rfl, ha, hs⟩ := h
  cases ry
  obtain ⟨t, rfl⟩ := (show ∃ t, v = Value.int i t from rx)
  obtain ⟨mA, J, _⟩ := ins_get I.hok ha
  have hobj := J.obj
  obtain ⟨od, J, _⟩ := J.look
  obtain ⟨_, hF⟩ := I.fr
  have KX : X.K.In s.heap := I.kIn
  have run := own_run (vs := [.ref a, .int i]) (us := [.ref a, .int i t]) F hb hx ⟨hr, rfl⟩ I (.cons rfl (.cons ⟨t, rfl⟩ .nil)) hs
  have one := PySem.W.ksp_try (Q := EP X pins σ Q) KX J m.r.at_ m.r.fn (b := .int i t) (wpAny_mono run (fun v s' hv => by
    obtain ⟨z, H', I', rv, p, rfl, q⟩ := hv
    cases rv
    exact ⟨.ref p, H', I', rfl, q⟩) fun _ _ z => z)
  obtain ⟨cd, rest, hcd, hm⟩ := PySem.W.ksp_first m.sf
  have L1 : PySem.W.Looks (model X.prog X.w) s.heap (typeOf (.ref a)) (.ref C) := J.type
  have L2' : PySem.W.Looks (model X.prog X.w) s.heap (fillsNumberSlot (.ref C) "mul") true := PySem.W.fills_K KX hcd hm m.m.at_
  have L3 : PySem.W.Looks (model X.prog X.w) s.heap (isSubtype (.ref C) (.type "int")) false := PySem.W.looks_subIn KX m.s2
  unfold binaryOp
  refine wpAny_holding (wpAny_bind ?_)
  unfold binaryOp1
  refine wpAny_bind (wpAny_pure (wpAny_bind (L1.here ?_)))
  have hne : (Value.type "int" == Value.ref C) = false := Bool.eq_false_iff.mpr fun q => by cases beq_iff_eq.mp q
  have hi : s.TypeIs (.int i t) "int" := rfl
  have nomul : ∀ {Q' : Option Value → Shared → Prop}, Q' none s → wpAny (model X.prog X.w) X.A (tryMethod (.int i t) (PySem.dunder "mul") (.ref a)) Q' X.xe s := fun {Q'} q => by
    unfold tryMethod
    refine wpAny_bind (wpAny_callSpecial?_slot hi PySem.F.slot_int_mul (call_meets PySem.F.slot_int_mul hi PySem.F.entry_int_mul (PySem.F.args_int_mul_2 _ _) (int_mul_other i t a _ (fun v z => by cases z)) ⟨hobj, ?_⟩))
    exact wpAny_pure q
  refine wpAny_bind (wpAny_of_eq PySem.F.fills_int_mul ?_)
  simp only [hne, Bool.false_eq_true, if_false]
  refine wpAny_bind (L2'.here ?_)
  simp only [Bool.and_self, if_true]
  refine wpAny_bind (L3.here ?_)
  simp only [Bool.false_eq_true, if_false, Bool.not_false, Bool.and_self, if_true]
  refine wpAny_bind (wpAny_pure ?_)
  simp only [Bool.false_eq_true, if_false]
  refine wpAny_bind (nomul ?_)
  simp only [Bool.false_eq_true, if_false, Bool.not_false, Bool.and_self, if_true]
  refine wpAny_bind (wpAny_mono one (fun r s' hr' => ?_) fun _ _ e => e)
  obtain ⟨v, rfl, hq⟩ := hr'
  refine wpAny_bind (wpAny_rule (wpAny_pure ?_))
  exact wpAny_pure hq
end
end Bk

namespace Bk
open PySem PySem.Spec PyProof.Rows L2
theorem take_fresh {ls : List (List Str)} (nd : ls.Nodup) {i : Nat} {l : List Str} (hl : ls[i]? = some l) : l ∉ ls.take i := fun m => by
  obtain ⟨j, hj, e⟩ := List.mem_take_iff_getElem.mp m
  have hil := (List.getElem?_eq_some_iff.mp hl).1
  have := nodup_inj nd (i := j) (j := i) (by omega) hil (by
    rw [e]
    exact (List.getElem?_eq_some_iff.mp hl).2.symm)
  omega
/-- the entries of a dict by such lots, all of them lots of the folders -/
theorem ents_some {ch : Bool} {zs : List Str} (nz : zs.Nodup) (lz : zs.length ≤ mostFor ch) {ls : List (List Str)} (f : List Str → Int) (sub : ∀ l ∈ ls, l ∈ lotsFor ch zs) (nl : ls.Nodup) : Ents ch zs (ls.map fun l => (l, f l)) where
  few := by
    rw [List.length_map]
    have h1 := pigeon ls (lotsFor ch zs) nl sub
    have := lots_few (ch := ch) lz
    omega
  lot := fun e he => by
    obtain ⟨l, m, rfl⟩ := List.mem_map.mp he
    show lotOfV ch zs (l.map V.str) = some (lotS zs l)
    rw [lotOfV_lot lz nz (sub l m), lotS_sub (lots_sub lz (sub l m)) nz]
  len := fun e he => by
    obtain ⟨l, m, rfl⟩ := List.mem_map.mp he
    have h1 := lot_len (sub l m)
    have h2 : mostFor ch ≤ 12 := by cases ch <;> decide
    show l.length ≤ 1000
    omega
  nd := by
    rw [List.map_map]
    have e : ls.map ((fun e : List Str × Int => lotS zs e.1) ∘ fun l => (l, f l)) = ls := by
      conv => rhs; rw [← List.map_id ls]
      exact List.map_congr_left fun l m => lotS_sub (lots_sub lz (sub l m)) nz
    rw [e]
    exact nl
theorem ent_some (ls : List (List Str)) (f : List Str → Int) : entT (ls.map fun l => (l, f l)) = tabL ls f := by
  unfold entT tabL
  rw [List.map_map]
  rfl
theorem found_some {ch : Bool} {zs : List Str} (nz : zs.Nodup) (lz : zs.length ≤ mostFor ch) {ls : List (List Str)} (f : List Str → Int) (sub : ∀ l ∈ ls, l ∈ lotsFor ch zs) : foundT zs (ls.map fun l => (l, f l)) = tabL ls f := by
  unfold foundT tabL
  rw [List.map_map]
  refine List.map_congr_left fun l m => ?_
  show ((lotS zs l).map Sum.inr, f l) = _
  rw [lotS_sub (lots_sub lz (sub l m)) nz]
theorem far_new {C x d : Addr} {H1 H : Hp} {zs : List Str} {ch : Bool} (FA : FoldersAt C H1 x zs ch) (nd : H1 d = none) (e : Same H1 H) : ∀ dx t pd, H x = some (.ins C dx (foldersF t pd ch)) → pd ≠ d := fun dx t pd hx => by
  obtain ⟨dx', t', pd', hx', ht', hp'⟩ := FA
  have h := e _ _ hx'
  rw [hx] at h
  have h := Option.some.inj h
  injection h with _ _ h3
  have h4 : pd = pd' := by
    unfold foldersF at h3
    simpa using (List.cons.inj (List.cons.inj (List.cons.inj h3).2).2).1
  rw [h4]
  exact ne_of_none hp' nd
/-- Question(folders, d) of a dict by lots -/
theorem make_quest {K : PySem.W.Frag} {C CQ : Addr} {H : Hp} {x d : Addr} {zs : List Str} {ch : Bool} {ls : List (List Str)} {f wt : List Str → Int} {R : Addr → Hp → Prop} (FA : FoldersAt C H x zs ch) (nz : zs.Nodup) (lz : zs.length ≤ mostFor ch) (hd : H d = some (.dT (tabV (tabL ls f)))) (far : ∀ dx t pd, H x = some (.ins C dx (foldersF t pd ch)) → pd ≠ d)
    (sub : ∀ l ∈ ls, l ∈ lotsFor ch zs) (nl : ls.Nodup) (hw : ∀ l ∈ lotsFor ch zs, wt l = if l ∈ ls then f l else 0) (r : ∀ q H', H q = none → Same H H' → QuestAt C CQ H' q x zs ch wt → R q H') :
    ∀ q dq, H q = none → H dq = none → dq ≠ q → spQuest K C CQ [.ref q, .ref x, .ref d] (upd (upd H dq (.own q)) q (.ins CQ dq [])) (fun v H' => v = .non ∧ R q H') E0 := by
  rintro q dq nq ndq hne
  have e2 := Same.grow (o := HO.ins CQ dq []) (Same.grow (o := HO.own q) (Same.refl H) ndq) nq
  obtain ⟨dx, t, pd, hx, ht, hp⟩ := FA
  refine ⟨q, x, dq, dx, t, pd, .ref d, zs, ch, wt, rfl, upd_same, e2 _ _ hx, e2 _ _ ht, e2 _ _ hp, nz, lz, .inr ⟨d, ls.map fun l => (l, f l), rfl, far _ _ _ hx, ?_, ents_some nz lz f sub nl, fun l m => ?_⟩, fun H' QA hb => ⟨rfl, r q H' nq (fun b u z => hb b u (ne_of_none z nq) (e2 _ _ z)) QA⟩⟩
  · rw [ent_some]
    exact e2 _ _ hd
  · rw [found_some nz lz f sub, getT_tab, hw l m]
    by_cases h : l ∈ ls
    · rw [if_pos h, if_pos h]; rfl
    · rw [if_neg h, if_neg h]; rfl
/-- added(one, other, sign) of questions about equal folders -/
def spAdded (C CQ : Addr) : Sp := fun vs H Q _ => ∃ (q x q' x' : Addr) (zs : List Str) (ch : Bool) (wt wt' : List Str → Int) (sg : Int), vs = [.ref q, .ref q', .int sg] ∧ QuestAt C CQ H q x zs ch wt ∧ QuestAt C CQ H q' x' zs ch wt' ∧ (∀ z ∈ zs, isNameS z = true) ∧ zs.Nodup ∧ zs.length ≤ mostFor ch ∧ -(2 ^ 64) < sg ∧ sg < 2 ^ 64 ∧
  ∀ D H', H D = none → Same H H' → H' D = some (.dT (tabV (tabL (lotsFor ch zs) fun l => wt l + sg * wt' l))) → Q (.ref D) H'
section
variable {P : Program} {w : World} {K : PySem.W.Frag} {mg : Str → Option Value} {base : Heap}
theorem scAdded : FnScope ["one", "other", "sign", "lot"] ["one", "other", "sign"] (defScope (topS 43)) := ⟨rfl, rfl, rfl, by decide +kernel, rfl, by decide +kernel, by decide +kernel⟩
theorem ok_added (B : Bi mg) {C CQ f0 fQ fE f : Addr} {fdE fd : FuncData} (T : FolT K mg C f0) (TQ : QueT K mg CQ fQ) (kT : PySem.W.kitOne K (.ref C) (.ref C) = some true) (tF : ∀ (H : Hp) (x dx : Addr) (fs : List (Str × V)), H x = some (.ins C dx fs) → TyX K H (.ref x) (.ref C))
    (GE : FnOk P w K mg base CX0 1 fE fdE ["self", "other"] (spFEq K C)) (bE : Binds K fdE ["self", "other"] []) (mE : Own K C "__eq__" fE) (cE : eqCls K C fE = true) (F : Fun K "added" "added" (topS 43) f fd) : FnOk P w K mg base CX0 3 f fd ["one", "other", "sign"] (spAdded C CQ) := by
  refine F.ok scAdded (fun vs H Q E h => ?_) (fun cdv A outer s H vs Q E hr h => ?_)
  · obtain ⟨q, x, q', x', zs, ch, wt, wt', sg, rfl, _⟩ := h
    rfl
  · obtain ⟨q, x, q', x', zs, ch, wt, wt', sg, rfl, QA, QB, nm, nz, lz, g1, g2, qq⟩ := h
    have nd := scAdded.nd
    have hu := hu_of hr
    have hrN := hr
    refine ⟨_, (pss_cons (ps_if (pt_cmpR (op_neOwn GE bE pass0 hrN cE mE.fn) (pe_fld (pv 0) rfl) (pe_fld (pv 1) rfl) (nomark _)) (pss_one ps_no) pss_nil)
      (pss_one (ps_ret (pe_lock (pe_dcT (own := [("lot", 3)]) hr.units0 rfl nd (pi_keys (pe_fld (pe_fld (pv 0) rfl) rfl)) (blkOk_by (N := ["one", "other", "sign", "lot"]) (sc := defScope (topS 43)) (by decide +kernel)) (fun _ _ _ _ _ => (pg_name (i := 3) nd rfl (Or.inl rfl))) (fun _ _ _ _ _ => (pv 3)) (fun _ _ _ _ _ => (pe_op op_add (pe_dget2 hu (kFld K (pv 0)) (pv 3) pe_int ⟨rfl, rfl, rfl, rfl⟩) (pe_op op_mul (pv 2) (pe_dget2 hu (kFld K (pv 1)) (pv 3) pe_int ⟨rfl, rfl, rfl, rfl⟩))))))))), ?_⟩
    obtain ⟨dq, td, hq, FA, htd⟩ := id QA
    obtain ⟨dq', td', hq', FB, htd'⟩ := id QB
    obtain ⟨dx, t, pd, hx, ht, hp⟩ := id FA
    obtain ⟨dx', t', pd', hx', ht', hp'⟩ := id FB
    refine ⟨_, rfl, q, CQ, dq, _, _, rfl, hq, TQ.cl, TQ.nF, look_folders _ _, _, rfl, q', CQ, dq', _, _, rfl, hq', TQ.cl, TQ.nF, look_folders _ _, x, dx, x', dx', _, _, rfl, rfl, hx, hx', x, .ref x', .ref C, zs, ch, _, rfl, FA, nm, tF _ _ _ _ hx', .inr ⟨kT, x', zs, ch, rfl, FB, nm, rfl⟩, fun H1 e1 => ⟨_, rfl, _, rfl, ?_⟩⟩
    rw [decide_eq_true rfl, decide_eq_true rfl]
    refine iteF ?_
    have hp1 := e1 _ _ hp
    refine ⟨pd, _, hp1, trivial, fun od => ?_⟩
    have hxp : x ≠ pd := ne_of hx hp (fun z => nomatch z)
    have hqp : q ≠ pd := ne_of hq hp (fun z => nomatch z)
    have hqp' : q' ≠ pd := ne_of hq' hp (fun z => nomatch z)
    have hp3 : upd H1 pd (.frz od (.dT (placesOf (lotsFor ch zs)))) pd = some (.frz od (.dT (placesOf (lotsFor ch zs)))) := upd_same
    refine ⟨_, rfl, q, CQ, dq, _, _, rfl, by rw [upd_ne hqp]; exact e1 _ _ hq, TQ.cl, TQ.nF, look_folders _ _, x, C, dx, _, _, rfl, by rw [upd_ne hxp]; exact e1 _ _ hx, T.cl, T.nP, look_places _ _ _, pd, od, rfl, .inr ⟨_, hp3, fun D2 nD2 => ?_⟩⟩
    have hDp : D2 ≠ pd := (ne_of_none hp3 nD2).symm
    have nD1 : H1 D2 = none := by rw [upd_ne hDp] at nD2; exact nD2
    have lots3 : (lotsFor ch zs).length ≤ 2000 := lots_few lz
    have keep : ∀ {b : Addr} {o : HO} {H' : Hp}, Same (upd H1 pd (.frz od (.dT (placesOf (lotsFor ch zs))))) H' → b ≠ pd → H b = some o → H' b = some o := fun e nb h => e _ _ (by rw [upd_ne nb]; exact e1 _ _ h)
    refine dcT_itw walk_keysT (fun i H' => Same (upd H1 pd (.frz od (.dT (placesOf (lotsFor ch zs))))) H' ∧ H' D2 = some (.dT (tabV (tabL ((lotsFor ch zs).take i) fun l => wt l + sg * wt' l)))) ⟨same_upd nD2, upd_same⟩ (fun i H' _ ⟨e3, _⟩ => e3 _ _ hp3) ?_ ?_
    · rintro i y H3 H4 hi ⟨e3, hd3⟩ ⟨rfl, k, v, qa, hk, rfl, hqa⟩
      obtain ⟨l, hl, rfl⟩ := places_key nz hk
      have ml := List.mem_of_getElem? hl
      have hqs : H4 qa = some (.tup ((l.map Sum.inr : List Key).map kV)) := hqa
      have get : ∀ (wt : List Str → Int), (valV (tabV (tableOf ch zs wt)) (l.map Sum.inr)).getD (.int 0) = .int (wt l) := fun wt => by
        rw [valV_tab, ← getT_table (wt := wt) ml]
        cases getT (tableOf ch zs wt) (l.map Sum.inr) <;> rfl
      have hq4 := keep e3 hqp hq
      have hq4' := keep e3 hqp' hq'
      have tb : ∀ {td : Addr} {kvs : List (List Key × V)}, H td = some (.dT kvs) → H4 td = some (.dT kvs) ∨ ∃ o, H4 td = some (.frz o (.dT kvs)) := fun {td kvs} h => by
        by_cases z : td = pd
        · subst z
          rw [hp] at h
          cases h
          exact .inr ⟨od, e3 _ _ hp3⟩
        · exact .inl (keep e3 z h)
      have gt : ∀ {td : Addr} {kvs : List (List Key × V)}, H td = some (.dT kvs) → DGet H4 td (.ref qa) (valV kvs (l.map Sum.inr)) := fun {td kvs} h => .inr ⟨kvs, _, qa, tb h, rfl, hqs, rfl⟩
      refine ⟨rfl, _, rfl, _, rfl, q, CQ, dq, _, _, rfl, hq4, TQ.cl, TQ.nT, look_table _ _, td, rfl, .inr ⟨_, tb htd⟩, _, rfl, _, gt htd, ?_⟩
      rw [get wt]
      refine ⟨_, rfl, _, rfl, q', CQ, dq', _, _, rfl, hq4', TQ.cl, TQ.nT, look_table _ _, td', rfl, .inr ⟨_, tb htd'⟩, _, rfl, _, gt htd', ?_⟩
      rw [get wt']
      refine ⟨sg, wt' l, rfl, rfl, .inl ⟨g1, g2⟩, wt l, sg * wt' l, rfl, rfl, _, l.map Sum.inr, qa, rfl, hqs, hd3, ?_, Same.grow e3 nD2, ?_⟩
      · rw [tab_len]
        unfold tabL
        rw [List.length_map, List.length_take]
        exact Evl.sz_lt (by omega)
      · have := tab_put (f := fun l => wt l + sg * wt' l) (take_fresh (lots_nodup (ch := ch) nz) hl)
        rw [upd_same, this, take_succ hl]
    · rintro H3 ⟨e3, hd3⟩
      rw [places_length nz, List.take_length] at hd3
      exact ⟨e3 _ _ hp3, qq D2 _ (e1.free nD1) (Same.trans e1 (unlock hp1 e3)) (by rw [upd_ne hDp]; exact hd3)⟩
end
end Bk

namespace Bk
open PySem PySem.Spec PyProof.Rows L2
/-- self + other, self - other: sg tells which -/
def spPlus (C CQ : Addr) (sg : Int) : Sp := fun vs H Q _ => ∃ (q x q' x' : Addr) (zs : List Str) (ch : Bool) (wt wt' : List Str → Int), vs = [.ref q, .ref q'] ∧ QuestAt C CQ H q x zs ch wt ∧ QuestAt C CQ H q' x' zs ch wt' ∧ (∀ z ∈ zs, isNameS z = true) ∧ zs.Nodup ∧ zs.length ≤ mostFor ch ∧
  ∀ y H', H y = none → Same H H' → QuestAt C CQ H' y x zs ch (fun l => wt l + sg * wt' l) → Q (.ref y) H'
def spTimes (C CQ : Addr) : Sp := fun vs H Q _ => ∃ (q x : Addr) (zs : List Str) (ch : Bool) (wt : List Str → Int) (k : Int), vs = [.ref q, .int k] ∧ QuestAt C CQ H q x zs ch wt ∧ zs.Nodup ∧ zs.length ≤ mostFor ch ∧ (∀ l ∈ lotsFor ch zs, CMul (wt l) k) ∧
  ∀ y H', H y = none → Same H H' → QuestAt C CQ H' y x zs ch (fun l => wt l * k) → Q (.ref y) H'
section
variable {P : Program} {w : World} {K : PySem.W.Frag} {mg : Str → Option Value} {base : Heap}
theorem plus_end {C CQ : Addr} {H H1 : Hp} {x D : Addr} {zs : List Str} {ch : Bool} {wt : List Str → Int} {R : Addr → Hp → Prop} (FA : FoldersAt C H x zs ch) (nz : zs.Nodup) (lz : zs.length ≤ mostFor ch) (nD : H D = none) (e1 : Same H H1) (hD : H1 D = some (.dT (tabV (tabL (lotsFor ch zs) wt))))
    (r : ∀ y H', H y = none → Same H H' → QuestAt C CQ H' y x zs ch wt → R y H') : ∀ q dq, H1 q = none → H1 dq = none → dq ≠ q → spQuest K C CQ [.ref q, .ref x, .ref D] (upd (upd H1 dq (.own q)) q (.ins CQ dq [])) (fun v H' => v = .non ∧ R q H') E0 :=
  make_quest (FA.same e1) nz lz hD (far_new FA nD e1) (fun l m => m) (lots_nodup nz) (fun l m => by rw [if_pos m]) fun q H' nq e QA => r q H' (e1.free nq) (Same.trans e1 e) QA
theorem scPlus : FnScope ["self", "other"] ["self", "other"] (defScope (inClass (topS 41) 3)) := ⟨rfl, rfl, rfl, by decide +kernel, rfl, by decide +kernel, by decide +kernel⟩
theorem ok_plus (B : Bi mg) {C CQ fQ f f1 : Addr} {fdQ fd fd1 : FuncData} (TQ : QueT K mg CQ fQ) (GQ : FnOk P w K mg base CX0 4 fQ fdQ ["self", "folders", "weights"] (spQuest K C CQ)) (bQ : Binds K fdQ ["self", "folders", "weights"] [])
    (c_added : Cal P w K mg base CX0 3 "added" f1 fd1 ["one", "other", "sign"] (spAdded C CQ)) (F : Fun K "__add__" "Question.__add__" (inClass (topS 41) 3) f fd) : FnOk P w K mg base CX0 6 f fd ["self", "other"] (spPlus C CQ 1) := by
  refine F.ok scPlus (fun vs H Q E h => ?_) (fun cdv A outer s H vs Q E hr h => ?_)
  · obtain ⟨q, x, q', x', zs, ch, wt, wt', rfl, _⟩ := h
    rfl
  · obtain ⟨q, x, q', x', zs, ch, wt, wt', rfl, QA, QB, nm, nz, lz, qq⟩ := h
    have nd := scPlus.nd
    have hu := hu_of hr
    have hr_added : Room 3 _ := hr.mono (by decide)
    refine ⟨_, (pss_one (ps_ret (pe_make TQ.make GQ hr (by rfl) TQ.g bQ .nil pass0 (pa_cons (pe_fld (pv 0) rfl) (pa_cons (pe_call c_added.ok hr_added (by rfl) c_added.g c_added.kp c_added.b .nil pass0 (pa_cons (pv 0) (pa_cons (pv 1) (pa_cons pe_int pa_nil)))) pa_nil))))), ?_⟩
    obtain ⟨dq, td, hq, FA, htd⟩ := id QA
    exact ⟨_, rfl, q, CQ, dq, _, _, rfl, hq, TQ.cl, TQ.nF, look_folders _ _, _, rfl, _, rfl, q, x, q', x', zs, ch, wt, wt', 1, rfl, QA, QB, nm, nz, lz, by decide, by decide, fun D H1 nD e1 hD => plus_end FA nz lz nD e1 hD qq⟩
theorem scMinus : FnScope ["self", "other"] ["self", "other"] (defScope (inClass (topS 41) 4)) := ⟨rfl, rfl, rfl, by decide +kernel, rfl, by decide +kernel, by decide +kernel⟩
theorem ok_minus (B : Bi mg) {C CQ fQ f f1 : Addr} {fdQ fd fd1 : FuncData} (TQ : QueT K mg CQ fQ) (GQ : FnOk P w K mg base CX0 4 fQ fdQ ["self", "folders", "weights"] (spQuest K C CQ)) (bQ : Binds K fdQ ["self", "folders", "weights"] [])
    (c_added : Cal P w K mg base CX0 3 "added" f1 fd1 ["one", "other", "sign"] (spAdded C CQ)) (F : Fun K "__sub__" "Question.__sub__" (inClass (topS 41) 4) f fd) : FnOk P w K mg base CX0 6 f fd ["self", "other"] (spPlus C CQ (-1)) := by
  refine F.ok scMinus (fun vs H Q E h => ?_) (fun cdv A outer s H vs Q E hr h => ?_)
  · obtain ⟨q, x, q', x', zs, ch, wt, wt', rfl, _⟩ := h
    rfl
  · obtain ⟨q, x, q', x', zs, ch, wt, wt', rfl, QA, QB, nm, nz, lz, qq⟩ := h
    have nd := scMinus.nd
    have hu := hu_of hr
    have hr_added : Room 3 _ := hr.mono (by decide)
    refine ⟨_, (pss_one (ps_ret (pe_make TQ.make GQ hr (by rfl) TQ.g bQ .nil pass0 (pa_cons (pe_fld (pv 0) rfl) (pa_cons (pe_call c_added.ok hr_added (by rfl) c_added.g c_added.kp c_added.b .nil pass0 (pa_cons (pv 0) (pa_cons (pv 1) (pa_cons (pe_un un_neg pe_int) pa_nil)))) pa_nil))))), ?_⟩
    obtain ⟨dq, td, hq, FA, htd⟩ := id QA
    exact ⟨_, rfl, q, CQ, dq, _, _, rfl, hq, TQ.cl, TQ.nF, look_folders _ _, _, rfl, _, rfl, _, rfl, q, x, q', x', zs, ch, wt, wt', -1, rfl, QA, QB, nm, nz, lz, by decide, by decide, fun D H1 nD e1 hD => plus_end FA nz lz nD e1 hD qq⟩
end
end Bk

namespace Bk
open PySem PySem.Spec PyProof.Rows L2
theorem tab_at {ls : List (List Str)} {f : List Str → Int} {i : Nat} {k : List Key} {v : V} (h : (tabV (tabL ls f))[i]? = some (k, v)) : ∃ l, ls[i]? = some l ∧ k = l.map Sum.inr ∧ v = .int (f l) := by
  unfold tabV tabL at h
  rw [List.map_map, List.getElem?_map] at h
  obtain ⟨l, h1, h2⟩ := Option.map_eq_some_iff.mp h
  obtain ⟨rfl, rfl⟩ := Prod.mk.inj h2
  exact ⟨l, h1, rfl, rfl⟩
theorem tab_length (ls : List (List Str)) (f : List Str → Int) : (tabV (tabL ls f)).length = ls.length := by
  rw [tab_len]
  exact List.length_map ..
section
variable {P : Program} {w : World} {K : PySem.W.Frag} {mg : Str → Option Value} {base : Heap}
theorem scMul : FnScope ["self", "other", "lot"] ["self", "other"] (defScope (inClass (topS 41) 6)) := ⟨rfl, rfl, rfl, by decide +kernel, rfl, by decide +kernel, by decide +kernel⟩
theorem ok_mul (B : Bi mg) {C CQ fQ f f1 : Addr} {fdQ fd fd1 : FuncData} (TQ : QueT K mg CQ fQ) (GQ : FnOk P w K mg base CX0 4 fQ fdQ ["self", "folders", "weights"] (spQuest K C CQ)) (bQ : Binds K fdQ ["self", "folders", "weights"] [])
    (c_is_integer : Cal P w K mg base CX0 1 "is_integer" f1 fd1 ["thing"] (spIsInt K)) (F : Fun K "__mul__" "Question.__mul__" (inClass (topS 41) 6) f fd) : FnOk P w K mg base CX0 6 f fd ["self", "other"] (spTimes C CQ) := by
  refine F.ok scMul (fun vs H Q E h => ?_) (fun cdv A outer s H vs Q E hr h => ?_)
  · obtain ⟨q, x, zs, ch, wt, k, rfl, _⟩ := h
    rfl
  · obtain ⟨q, x, zs, ch, wt, k, rfl, QA, nz, lz, hm, qq⟩ := h
    have nd := scMul.nd
    have hu := hu_of hr
    have hr_is_integer : Room 1 _ := hr.mono (by decide)
    refine ⟨_, (pss_cons (ps_if (pt_not (pt_val (pe_call c_is_integer.ok hr_is_integer (by rfl) c_is_integer.g c_is_integer.kp c_is_integer.b .nil pass0 (pa_cons (pv 1) pa_nil)))) (pss_one ps_no) pss_nil)
      (pss_one (ps_ret (pe_make TQ.make GQ hr (by rfl) TQ.g bQ .nil pass0 (pa_cons (pe_fld (pv 0) rfl) (pa_cons (pe_lock (pe_dcT (own := [("lot", 2)]) hr.units0 rfl nd (pi_keys (pe_fld (pv 0) rfl)) (blkOk_by (N := ["self", "other", "lot"]) (sc := defScope (inClass (topS 41) 6)) (by decide +kernel)) (fun _ _ _ _ _ => (pg_name (i := 2) nd rfl (Or.inl rfl))) (fun _ _ _ _ _ => (pv 2)) (fun _ _ _ _ _ => (pe_op op_mul (pe_dget hu (kFld K (pv 0)) (pv 2) (fun _ _ => rfl)) (pv 1))))) pa_nil)))))), ?_⟩
    obtain ⟨dq, td, hq, FA, htd⟩ := id QA
    refine ⟨_, rfl, .int k, .type "int", true, false, rfl, .base (.int k), kit_ty (show kitB "int" "int" = some true by decide +kernel), kit_ty (show kitB "int" "bool" = some false by decide +kernel), true, rfl, ?_⟩
    refine iteF ?_
    refine ⟨_, rfl, q, CQ, dq, _, _, rfl, hq, TQ.cl, TQ.nF, look_folders _ _, td, _, htd, trivial, fun od => ?_⟩
    have hp3 : upd H td (.frz od (.dT (tabV (tableOf ch zs wt)))) td = some (.frz od (.dT (tabV (tableOf ch zs wt)))) := upd_same
    have hqt : q ≠ td := ne_of hq htd (fun z => nomatch z)
    refine ⟨_, rfl, q, CQ, dq, _, _, rfl, by rw [upd_ne hqt]; exact hq, TQ.cl, TQ.nT, look_table _ _, td, od, rfl, .inr ⟨_, hp3, fun D2 nD2 => ?_⟩⟩
    have hDt : D2 ≠ td := (ne_of_none hp3 nD2).symm
    have nD : H D2 = none := by rw [upd_ne hDt] at nD2; exact nD2
    have lots3 : (lotsFor ch zs).length ≤ 2000 := lots_few lz
    generalize els : (lotsFor ch zs).filter (fun l => decide (wt l ≠ 0)) = ls at *
    have etab : tableOf ch zs wt = tabL ls wt := by
      unfold tableOf
      rw [els]
    have sub : ∀ l ∈ ls, l ∈ lotsFor ch zs := fun l m => by
      rw [← els] at m
      exact (List.mem_filter.mp m).1
    have nl : ls.Nodup := by
      rw [← els]
      exact (lots_nodup nz).filter _
    have len : ls.length ≤ 2000 := by
      have := pigeon ls (lotsFor ch zs) nl sub
      omega
    rw [etab] at hp3 nD2 htd ⊢
    refine dcT_itw walk_keysT (fun i H' => Same (upd H td (.frz od (.dT (tabV (tabL ls wt))))) H' ∧ H' D2 = some (.dT (tabV (tabL (ls.take i) fun l => wt l * k)))) ⟨same_upd nD2, upd_same⟩ (fun i H' _ ⟨e3, _⟩ => e3 _ _ hp3) ?_ ?_
    · rintro i y H3 H4 hi ⟨e3, hd3⟩ ⟨rfl, kk, v, qa, hk, rfl, hqa⟩
      obtain ⟨l, hl, rfl, rfl⟩ := tab_at hk
      have ml := List.mem_of_getElem? hl
      have hq4 : H4 q = some (.ins CQ dq (questF x td)) := e3 _ _ (by rw [upd_ne hqt]; exact hq)
      have g : DGet H4 td (.ref qa) (some (.int (wt l))) := by
        have g : valV (tabV (tabL ls wt)) (l.map Sum.inr) = some (.int (wt l)) := by
          rw [valV_tab, getT_tab, if_pos ml]
          rfl
        exact .inr ⟨_, _, qa, .inr ⟨od, e3 _ _ hp3⟩, rfl, hqa, g.symm⟩
      refine ⟨rfl, _, rfl, _, rfl, q, CQ, dq, _, _, rfl, hq4, TQ.cl, TQ.nT, look_table _ _, _, rfl, td, .int (wt l), rfl, g, _, rfl, wt l, k, rfl, rfl, hm l (sub l ml), _, l.map Sum.inr, qa, rfl, hqa, hd3, ?_, Same.grow e3 nD2, ?_⟩
      · rw [tab_length, List.length_take]
        exact Evl.sz_lt (by omega)
      · have := tab_put (f := fun l => wt l * k) (take_fresh nl hl)
        rw [upd_same, this, take_succ hl]
    · rintro H3 ⟨e3, hd3⟩
      rw [tab_length, List.take_length] at hd3
      have e1 := unlock htd e3
      have hD : upd H3 td (.dT (tabV (tabL ls wt))) D2 = some (.dT (tabV (tabL ls fun l => wt l * k))) := by rw [upd_ne hDt]; exact hd3
      refine ⟨e3 _ _ hp3, make_quest (FA.same e1) nz lz hD (far_new FA nD e1) sub nl (fun l m => ?_) fun y H' ny e QY => qq y H' (e1.free ny) (Same.trans e1 e) QY⟩
      by_cases z : l ∈ ls
      · rw [if_pos z]
      · rw [if_neg z]
        have : wt l = 0 := by
          rw [← els] at z
          by_cases h : wt l = 0
          · exact h
          · exact absurd (List.mem_filter.mpr ⟨m, decide_eq_true h⟩) z
        rw [this, Int.zero_mul]
theorem scRmul : FnScope ["self", "other"] ["self", "other"] (defScope (inClass (topS 41) 7)) := ⟨rfl, rfl, rfl, by decide +kernel, rfl, by decide +kernel, by decide +kernel⟩
theorem ok_rmul (B : Bi mg) {C CQ fM f : Addr} {fdM fd : FuncData} (GM : FnOk P w K mg base CX0 6 fM fdM ["self", "other"] (spTimes C CQ)) (bM : Binds K fdM ["self", "other"] []) (M : MulT K CQ fM f)
    (F : Fun K "__rmul__" "Question.__rmul__" (inClass (topS 41) 7) f fd) : FnOk P w K mg base CX0 7 f fd ["self", "other"] (spTimes C CQ) := by
  refine F.ok scRmul (fun vs H Q E h => ?_) (fun cdv A outer s H vs Q E hr h => ?_)
  · obtain ⟨q, x, zs, ch, wt, k, rfl, _⟩ := h
    rfl
  · obtain ⟨q, x, zs, ch, wt, k, rfl, QA, nz, lz, hm, qq⟩ := h
    have nd := scRmul.nd
    have hu := hu_of hr
    refine ⟨_, (pss_one (ps_ret (pe_op (op_mulInt GM bM pass0 hr M) (pv 0) (pv 1)))), ?_⟩
    obtain ⟨dq, td, hq, FA, htd⟩ := id QA
    exact ⟨_, rfl, _, rfl, q, dq, _, k, rfl, rfl, hq, q, x, zs, ch, wt, k, rfl, QA, nz, lz, hm, fun y H' ny e QY => ⟨y, rfl, qq y H' ny e QY⟩⟩
end
end Bk

namespace Bk
open PySem PySem.Spec PyProof.Rows L2
/-- first_more(one, other): the first lot that counts more often in the one, or None -/
def spMore (C CQ : Addr) : Sp := fun vs H Q _ => ∃ (q x q' x' : Addr) (zs : List Str) (ch : Bool) (wt wt' : List Str → Int), vs = [.ref q, .ref q'] ∧ QuestAt C CQ H q x zs ch wt ∧ QuestAt C CQ H q' x' zs ch wt' ∧ (∀ z ∈ zs, isNameS z = true) ∧ zs.Nodup ∧ zs.length ≤ mostFor ch ∧
  (∀ H', Same H H' → (∀ l ∈ lotsFor ch zs, wt l ≤ wt' l) → Q .non H') ∧ ∀ l b H', Same H H' → (lotsFor ch zs).find? (fun l => decide (wt' l < wt l)) = some l → H' b = some (.tup (l.map V.str)) → Q (.ref b) H'
def spLe (C CQ : Addr) : Sp := fun vs H Q _ => ∃ (q x q' x' : Addr) (zs : List Str) (ch : Bool) (wt wt' : List Str → Int), vs = [.ref q, .ref q'] ∧ QuestAt C CQ H q x zs ch wt ∧ QuestAt C CQ H q' x' zs ch wt' ∧ (∀ z ∈ zs, isNameS z = true) ∧ zs.Nodup ∧ zs.length ≤ mostFor ch ∧
  ∀ H', Same H H' → Q (.bl ((lotsFor ch zs).all fun l => decide (wt l ≤ wt' l))) H'
section
variable {P : Program} {w : World} {K : PySem.W.Frag} {mg : Str → Option Value} {base : Heap}
theorem scMore : FnScope ["one", "other", "more", "lot"] ["one", "other"] (defScope (topS 44)) := ⟨rfl, rfl, rfl, by decide +kernel, rfl, by decide +kernel, by decide +kernel⟩
theorem ok_more (B : Bi mg) {C CQ f f1 : Addr} {fd fd1 : FuncData} (c_added : Cal P w K mg base CX0 3 "added" f1 fd1 ["one", "other", "sign"] (spAdded C CQ)) (F : Fun K "first_more" "first_more" (topS 44) f fd) : FnOk P w K mg base CX0 4 f fd ["one", "other"] (spMore C CQ) := by
  refine F.ok scMore (fun vs H Q E h => ?_) (fun cdv A outer s H vs Q E hr h => ?_)
  · obtain ⟨q, x, q', x', zs, ch, wt, wt', rfl, _⟩ := h
    rfl
  · obtain ⟨q, x, q', x', zs, ch, wt, wt', rfl, QA, QB, nm, nz, lz, q1, q2⟩ := h
    have nd := scMore.nd
    have hu := hu_of hr
    have hr_added := hr
    refine ⟨_, (pss_cons (ps_set (i := 2) nd rfl (Or.inl rfl) (pe_call c_added.ok hr_added (by rfl) c_added.g c_added.kp c_added.b .nil pass0 (pa_cons (pv 0) (pa_cons (pv 1) (pa_cons (pe_un un_neg pe_int) pa_nil)))))
      (pss_cons (ps_lock (ps_for PassesOwn.never rfl (pi_keys (pv 2)) (pg_name (i := 3) nd rfl (Or.inl rfl)) (pss_one (ps_if (pt_cmpR op_gt (pe_dget hu (pv 2) (pv 3) (fun _ _ => rfl)) pe_int (nomark _)) (pss_one (ps_ret (pv 3))) pss_nil))))
      (pss_one (ps_ret pe_non)))), ?_⟩
    refine ⟨_, rfl, _, rfl, _, rfl, q, x, q', x', zs, ch, wt, wt', -1, rfl, QA, QB, nm, nz, lz, by decide, by decide, fun D H1 nD e1 hD => ?_⟩
    have lots3 : (lotsFor ch zs).length ≤ 2000 := lots_few lz
    refine ⟨D, _, hD, trivial, fun od => ?_⟩
    have hp3 : upd H1 D (.frz od (.dT (tabV (tabL (lotsFor ch zs) fun l => wt l + -1 * wt' l)))) D = some (.frz od (.dT (tabV (tabL (lotsFor ch zs) fun l => wt l + -1 * wt' l)))) := upd_same
    refine ⟨_, rfl, D, od, rfl, .inr ⟨_, hp3, ?_⟩⟩
    refine for_it walk_keysT (fun i σ' H' => ∃ v3, σ' = [some (.ref q), some (.ref q'), some (.ref D), v3] ∧ Same (upd H1 D (.frz od (.dT (tabV (tabL (lotsFor ch zs) fun l => wt l + -1 * wt' l))))) H' ∧ ∀ l ∈ (lotsFor ch zs).take i, wt l ≤ wt' l) ?_ (fun i σ' H' _ ⟨_, _, e, _⟩ => e _ _ hp3) ?_ ?_
    · exact ⟨none, rfl, Same.refl _, fun l m => nomatch m⟩
    · rintro i y σ' H2 H3 hi ⟨v3, rfl, e2, hle⟩ ⟨rfl, kk, v, qa, hk, rfl, hqa⟩
      obtain ⟨l, hl, rfl, rfl⟩ := tab_at hk
      have ml := List.mem_of_getElem? hl
      have g : DGet H3 D (.ref qa) (some (.int (wt l + -1 * wt' l))) := by
        have g : valV (tabV (tabL (lotsFor ch zs) fun l => wt l + -1 * wt' l)) (l.map Sum.inr) = some (.int (wt l + -1 * wt' l)) := by
          rw [valV_tab, getT_tab, if_pos ml]
          rfl
        exact .inr ⟨_, _, qa, .inr ⟨od, e2 _ _ hp3⟩, rfl, hqa, g.symm⟩
      refine ⟨_, rfl, _, rfl, D, .int (wt l + -1 * wt' l), rfl, g, _, 0, rfl, rfl, _, rfl, ?_⟩
      refine ite2 (fun c1 => ?_) (fun c1 => ?_)
      · have c1 : wt l + -1 * wt' l > 0 := of_decide_eq_true c1
        refine ⟨_, rfl, e2 _ _ hp3, ?_⟩
        have e1u := unlock hD e2
        refine q2 l qa _ (Same.trans e1 e1u) ?_ ?_
        · rw [List.find?_eq_some_iff_append]
          refine ⟨decide_eq_true (by omega), (lotsFor ch zs).take i, (lotsFor ch zs).drop (i + 1), ?_, fun u m => ?_⟩
          · obtain ⟨h1, rfl⟩ := List.getElem?_eq_some_iff.mp hl
            rw [← List.drop_eq_getElem_cons h1, List.take_append_drop]
          · have := hle u m
            simp
            omega
        · have hq : H3 qa = some (.tup ((l.map Sum.inr : List Key).map kV)) := hqa
          rw [str_key] at hq
          rw [upd_ne (ne_of hq (e2 _ _ hp3) (fun z => nomatch z))]
          exact hq
      · have c1 : ¬ wt l + -1 * wt' l > 0 := fun z => c1 (decide_eq_true z)
        refine ⟨_, rfl, e2, fun u m => ?_⟩
        rw [take_succ hl] at m
        rcases List.mem_append.mp m with m | m
        · exact hle u m
        · rw [List.mem_singleton.mp m]
          omega
    · rintro σ' H2 ⟨v3, rfl, e2, hle⟩
      rw [tab_length, List.take_length] at hle
      exact ⟨e2 _ _ hp3, q1 _ (Same.trans e1 (unlock hD e2)) hle⟩
theorem scLe : FnScope ["self", "other"] ["self", "other"] (defScope (inClass (topS 41) 2)) := ⟨rfl, rfl, rfl, by decide +kernel, rfl, by decide +kernel, by decide +kernel⟩
theorem ok_le (B : Bi mg) {C CQ f f1 : Addr} {fd fd1 : FuncData} (c_first_more : Cal P w K mg base CX0 4 "first_more" f1 fd1 ["one", "other"] (spMore C CQ)) (F : Fun K "__le__" "Question.__le__" (inClass (topS 41) 2) f fd) : FnOk P w K mg base CX0 5 f fd ["self", "other"] (spLe C CQ) := by
  refine F.ok scLe (fun vs H Q E h => ?_) (fun cdv A outer s H vs Q E hr h => ?_)
  · obtain ⟨q, x, q', x', zs, ch, wt, wt', rfl, _⟩ := h
    rfl
  · obtain ⟨q, x, q', x', zs, ch, wt, wt', rfl, QA, QB, nm, nz, lz, qq⟩ := h
    have nd := scLe.nd
    have hu := hu_of hr
    have hr_first_more := hr
    refine ⟨_, (pss_one (ps_ret (pe_cmpR op_isN (pe_call c_first_more.ok hr_first_more (by rfl) c_first_more.g c_first_more.kp c_first_more.b .nil pass0 (pa_cons (pv 0) (pa_cons (pv 1) pa_nil))) pe_non (nomark _)))), ?_⟩
    refine ⟨_, rfl, _, rfl, q, x, q', x', zs, ch, wt, wt', rfl, QA, QB, nm, nz, lz, fun H1 e1 hall => ?_, fun l b H1 e1 hf hb => ?_⟩
    · have := qq H1 e1
      rw [List.all_eq_true.mpr fun l m => decide_eq_true (hall l m)] at this
      exact ⟨rfl, this⟩
    · have := qq H1 e1
      have h1 := List.mem_of_find?_eq_some hf
      have h2 := List.find?_some hf
      have : (lotsFor ch zs).all (fun l => decide (wt l ≤ wt' l)) = false := by
        rw [List.all_eq_false]
        refine ⟨l, h1, ?_⟩
        have := of_decide_eq_true h2
        simp
        omega
      rename_i this2
      rw [this] at this2
      refine ⟨rfl, ?_⟩
      rw [show decide (V.ref b = V.non) = false from decide_eq_false (fun z => by cases z)]
      exact this2
end
end Bk

/-! a lambda without parameters handed to a def that calls it where errors are caught, their context told -/
namespace Bk
open PySem PySem.Spec PyProof.Rows L2 LamX
/-- the lambda's context: errors leave it with their context told -/
def lamN (X : Cx) (A : Around) (outer : List Env) (s : Shared) (H : Hp) (E : XK) (scope : Scope) (f c' : Addr) : Cx :=
  (lamCx X A outer s H E0 scope f c').tr [] fun e s' => wpAny (model X.prog X.w) (A.deeper (lamEnv X scope s.heap.objs.size f c')) (leaving (lamEnv X scope s.heap.objs.size f c') e)
    (fun _ t => L2N.CX X.prog X.w outer H s E e t) (fun u t => L2N.CX X.prog X.w outer H s E u t) s'
section
variable {X : Cx} {pins : List (Addr × Obj)} {σ : L2.St} {H : Hp} {s : Shared}
/-- the call of the parameter that holds the lambda -/
theorem act_n {Z : Cx} {f c' : Addr} {pm ctv : Value} {params : Arguments} {body : Expr} {scope : Scope} {k i : Nat} {a : Str} {E : L2.St → XK} {tb : XK → TE} {p1 p2 : Pos} {N' : List Str} {x' : Str} {sg : Scope} {g : Addr} {cdg : Value} {pn : List (Addr × Obj)} {xe : Value → Shared → Prop}
    (hZ : Z = (cxOf CX0 X.prog X.w X.K X.mg X.base N' x' sg g cdg X.A X.stack s H E0).tr pn xe)
    (I : Inv X pins σ H s) (L : LamS X.env.scope scope) (hf : s.heap.get? f = some (PySem.W.kla_obj "<lambda>" (X.env.qual ++ "<lambda>") params body scope (cloFrom X.env.cells scope.names []) pm c' ctv)) (hfn : H f = none) (hfr : f ∉ frs X.stack)
    (hbind : bindArgs (PySem.W.kla_fn "<lambda>" (X.env.qual ++ "<lambda>") params body scope (cloFrom X.env.cells scope.names []) pm (.ref c') ctv) ⟨[], []⟩ = pure [])
    (hx : ∀ τ, PassesAt (L2N.CX X.prog X.w) Z τ (E τ)) (hr : Room (k + 1) (X.A.deeper (envOfC x' sg s.heap.objs.size g cdg)))
    (hbody : ∀ (A : Around) (outer : List Env) (s : Shared) (H : Hp) (E : XK), Room k (A.deeper (lamEnv X scope s.heap.objs.size f c')) → PE (lamN X A outer s H E scope f c') body (tb E))
    (hN : N'[i]? = some a) (hv : Vis sg a) (hd : (a == ("__debug__" : Str)) = false) (hcd : (a == ("__classdict__" : Str)) = false) :
    PE Z (.Call (.Name a p1) [] [] p2) (fun σZ HZ Q => σZ[i]? = some (some (.ref f)) ∧ HZ c' = some (CodeO c' (X.env.qual ++ "<lambda>")) ∧ tb (E σZ) σ HZ Q) := by
  subst hZ
  constructor
  rintro pinsZ sZ σZ HZ Q IZ ⟨hs, hc, ht⟩
  refine wpAny_Call_Name_kw (thn ((pe_var (pos := p1) (i := i) hN hv hd hcd).run pinsZ sZ σZ HZ (fun v H1 => v = .ref f ∧ H1 = HZ) IZ ⟨.ref f, hs, rfl, rfl⟩) ?_)
  rintro u t ⟨v, H1, I1, r1, ev, eH⟩
  subst ev
  rw [eH] at I1
  obtain rfl : u = Value.ref f := r1
  have at1 : t.heap.get? f = some (PySem.W.kla_obj "<lambda>" (X.env.qual ++ "<lambda>") params body scope (cloFrom X.env.cells scope.names []) pm c' ctv) :=
    I1.base.keep f _ hf hfn hfr (fun z => nomatch (show f ∈ ([] : List Addr) from z))
  refine PySem.W.callWith_F0 ⟨_, _, _, _, at1⟩ ?_
  have un : Un (frs X.stack) [] H HZ s.heap t.heap := I1.base
  obtain ⟨⟨oc, vs, tt, hoc, hdc, hvc⟩, _, _⟩ := I1.hok c' _ hc
  have code : codeAny (model X.prog X.w) (X.A.deeper (envOfC x' sg s.heap.objs.size g cdg)) (.call (.ref f) ⟨[], []⟩) (CR (L2N.CX X.prog X.w) (envOfC x' sg s.heap.objs.size g cdg :: X.stack) X.prog X.w HZ t Q (E σZ)) t := by
    refine PySem.W.kla_callFunE hr.depth at1 rfl L.co L.gen rfl ⟨c', oc, vs, tt, rfl, hoc, hdc, hvc⟩ ?_
    rw [hbind]
    refine wpAny_pure (wpAny_newFunctionEnv (fun y hy => (L.own y hy).2) (fun y hy => absurd hy (by simp)) (fun h₁ hns hsb => ⟨I1.nolimit.fresh _ hsb, ?_⟩) L.kind)
    show codeAny _ _ (.expr body (lamEnv X scope t.heap.objs.size f c')) _ _
    have kp : ∀ b o, t.heap.get? b = some o → h₁.get? b = some o := fun b o e => hsb.extBut b o (Nat.ne_of_lt (Heap.lt_size e)) (Heap.get?_push_of_some _ e)
    have J0 := lam_start2 (f := f) (c' := c') (E := E0) (tk := t.toks + ([] : List (Str × Value)).length) I L I1.env0 hr.hd un hns kp
    have J : Inv (lamN X (X.A.deeper (envOfC x' sg s.heap.objs.size g cdg)) (envOfC x' sg s.heap.objs.size g cdg :: X.stack) t HZ (E σZ) scope f c') [] σ HZ { t with heap := h₁, toks := t.toks + ([] : List (Str × Value)).length } := J0.toTry _
    refine PySem.W.kla_codeExpr (wpAny_mono ((hbody _ _ t HZ (E σZ) (hr.deeper _)).run [] _ _ HZ Q J ht) ?_ fun e s' hq => hq)
    rintro v s' ⟨w', H', J', rv, q⟩
    exact ⟨w', H', J'.os, J'.bare, J'.base, J'.hok, rv, q⟩
  refine wpAny_call (codeAny_mono code fun r s' hq => ?_)
  match r, hq with
  | .error e, hq => exact hx σZ pinsZ HZ t e s' I1 hq
  | .ok (.ret u), hq => exact I1.after hq
  | .ok .next, hq => exact hq.elim
  | .ok .brk, hq => exact hq.elim
  | .ok .cont, hq => exact hq.elim
end
/-- what the def that got the lambda at its first place makes of it -/
def GivesN (X : Cx) (N' : List Str) (x : Str) (sg : Scope) (g : Addr) (cdg : Value) (bg : List Stmt) (a q : Str) (k : Nat) (TT : (XK → Hp → VK → Prop) → Hp → VK → Prop) : Prop :=
  ∀ (f c' : Addr) (s : Shared) (H : Hp) (Q : VK) (tl : XK → Hp → VK → Prop), Room (k + 1) (X.A.deeper (envOfC x sg s.heap.objs.size g cdg)) →
    (∀ (W : WX) (pn : List (Addr × Obj)) (xe : Value → Shared → Prop) (p1 p2 : Pos), L2N.Takes ((cxOf CX0 X.prog X.w X.K X.mg X.base N' x sg g cdg X.A X.stack s H E0).tr pn xe) W →
      PE ((cxOf CX0 X.prog X.w X.K X.mg X.base N' x sg g cdg X.A X.stack s H E0).tr pn xe) (.Call (.Name a p1) [] [] p2) (fun σZ HZ Q => σZ[0]? = some (some (.ref f)) ∧ HZ c' = some (CodeO c' q) ∧ tl (WE W σZ) HZ Q)) →
    H c' = some (CodeO c' q) → TT tl H Q →
    ∃ t, PSs (cxOf CX0 X.prog X.w X.K X.mg X.base N' x sg g cdg X.A X.stack s H E0).nox bg t ∧ t { nx := fun _ H' => Q .non H', rt := Q } (L2.start N' [.ref f]) H
section
variable {X : Cx}
/-- x(lambda: body) -/
theorem pe_giveN {T : List (Addr × Str)} {TT : (XK → Hp → VK → Prop) → Hp → VK → Prop} {x a : Str} {g c P0 : Addr} {k : Nat} {st : Stmt} {fd : FuncData} {N' : List Str}
    {params : Arguments} {body : Expr} {scope : Scope} {t : XK → TE} {p lpos pos : Pos} (F : Fun X.K x x st g fd) (hg : Gl X x) (hm : X.mg x = some (.ref g)) (hb : Binds X.K fd [a] []) (Sg : FnScope N' [a] (defScope st)) (hN : N'[0]? = some a) (hva : Vis (defScope st) a)
    (hG : ∀ cdv, GivesN X N' x (defScope st) g cdv (defBody st) a (X.env.qual ++ "<lambda>") k TT)
    (TB : TabB X.base X.mg c P0) (hcode : X.env.code = .ref c) (hmT : (P0, X.env.qual ++ "<lambda>") ∈ T) (hu : ∀ p ∈ T, p.1 = P0 → p.2 = X.env.qual ++ "<lambda>") (hr : Room (k + 2) X.A) (L : LamS X.env.scope scope) (hdef : defaultsOf params X.env = ([], []))
    (hbind : ∀ (q : Str) (cl : List (Str × Addr)) (pm cv ctv : Value), bindArgs (PySem.W.kla_fn "<lambda>" q params body scope cl pm cv ctv) ⟨[], []⟩ = pure [])
    (hbody : ∀ (A : Around) (outer : List Env) (s : Shared) (H : Hp) (E : XK) (f c' : Addr), Room k (A.deeper (lamEnv X scope s.heap.objs.size f c')) → PE (lamN X A outer s H E scope f c') body (t E))
    (hdb : (x == ("__debug__" : Str)) = false := by decide) (hd : (a == ("__debug__" : Str)) = false := by decide) (hcd : (a == ("__classdict__" : Str)) = false := by decide) :
    PE X (.Call (.Name x p) [.Lambda params body scope lpos] [] pos) (tLam T TT t) := by
  constructor
  rintro pins s σ H Q I ⟨hT, h⟩
  have kp := F.kp
  obtain ⟨_, _, _, _, _, _, cdv, _, _, rfl, lk, hcg⟩ := F.ex
  refine wpAny_Call_Name_kw (ld_glob I hg hm ?_ hdb)
  refine PySem.W.callWith_K (h₀ := X.base) I.ok.mod.kin kp ?_ (by rfl) (by rfl)
  show wpAny _ _ (spliced ((false, eval (.Lambda params body scope lpos) X.env) :: backTo pos (starEach [] X.env))) _ _ s
  refine Calls.spliced_cons (lam_make2 I TB hcode hmT hu hT hdef (L.has I.ok) ?_)
  intro f c' pm' ctv H1 s' I1 eN T1 hf hfn hfr hco
  refine Calls.spliced_nil ⟨I1.kIn, ?_⟩
  have code : codeAny (model X.prog X.w) X.A (.call (.ref g) ⟨[.ref f], []⟩) (CR CX0 X.stack X.prog X.w H1 s' Q E0) s' := by
    refine run_ofS (N := N') (ps := [a]) (us := [.ref f]) (vs := [.ref f]) lk hcg Sg hr I1.env0 (hb s' [.ref f] I1.kIn rfl) (.cons rfl .nil) rfl fun hr' => ?_
    obtain ⟨t', ht', hq'⟩ := hG cdv f c' s' H1 Q (fun E H' Q' => t E σ H' Q') hr' (fun W pn xe p1 p2 tk => act_n (i := 0) (E := fun τ => WE W τ) (tb := t) rfl I1 L hf hfn hfr (hbind _ _ _ _ _) (fun τ => L2N.passAt tk τ) hr' (fun A outer s H E hr2 => hbody A outer s H E f c' hr2) hN hva hd hcd) hco (h H1 eN T1)
    exact ⟨t', ht'.nox, hq'⟩
  refine wpAny_call (codeAny_mono code fun r s2 hq => ?_)
  match r, hq with
  | .error e, hq => exact (show False from hq).elim
  | .ok (.ret u), hq => exact I1.after hq
  | .ok .next, hq => exact hq.elim
  | .ok .brk, hq => exact hq.elim
  | .ok .cont, hq => exact hq.elim
end
end Bk

/-! raising an own error class without an own __init__, its context told; * of an instance and an odd thing, from both sides; the contrary of an instance -/
namespace Bk
open PySem PySem.Spec PyProof.Rows L2
/-- an own error class that takes nothing -/
structure BareT (K : PySem.W.Frag) (mg : Str → Option Value) (x : Str) (C : Addr) : Prop where
  q : PySem.W.excIn K C [.type "ValueError", .type "Exception", .type "BaseException", .type "object"] "ValueError.__new__" = true
  g : mg x = some (.ref C)
  kp : PySem.W.keepIn K (.ref C) = true
  sub : PySem.W.subIn K (.ref C) (.type "BaseException") = some true
  ty : PySem.W.typeIn K (.ref C) = some (.type "type")
section
variable {X : Cx} {C : Addr} {x : Str} {p pos : Pos}
/-- C() -/
theorem pmk_bareN (T : BareT X.K X.mg x C) (hg : Gl X x) (hdb : (x == ("__debug__" : Str)) = false := by decide) : L2N.PMk X (.Call (.Name x p) [] [] pos) (fun _ H Q => Q (.ref C) none H) := by
  intro pins s σ H Q I h
  refine wpAny_Call_Name_kw (ld_glob I hg T.g ?_ hdb)
  refine PySem.W.callWith_K0 I.kIn T.kp ?_
  show wpAny _ _ (call (.ref C) []) _ _ _
  obtain ⟨bm, N, nm, qn, bs, hdct, sn, sub, ab, col, dd, k0, k1, k2, k3, k5, mN, hC, hN, hni, Y⟩ := exc_obj I.kIn T.q
  refine wpAny_call_exc_subT F.excBase_ValueError Y hC hN hni (fun h' a hm => ?_) (Nat.zero_le _)
  exact L2N.mk_of I hm (raises_own T.sub T.ty) h (I.hok.gone hm.new)
end
/-- whether the class T fills the place of * -/
def mulFill (K : PySem.W.Frag) (T : String) : Option Bool :=
  match PySem.W.findIn K (.type T) (PySem.dunder "mul"), PySem.W.findIn K (.type T) (dunderR "mul") with
  | some fo, some ro => some ((fo.isSome && !isSeqSlot fo) || (ro.isSome && !isSeqSlot ro))
  | _, _ => none
theorem fill_of {K : PySem.W.Frag} {T : String} {b : Bool} (h : mulFill K T = some b) : ∃ fo ro, PySem.W.findIn K (.type T) (PySem.dunder "mul") = some fo ∧ PySem.W.findIn K (.type T) (dunderR "mul") = some ro ∧ b = ((fo.isSome && !isSeqSlot fo) || (ro.isSome && !isSeqSlot ro)) := by
  unfold mulFill at h
  cases e1 : PySem.W.findIn K (.type T) (PySem.dunder "mul") with
  | none => rw [e1] at h; cases h
  | some fo =>
    cases e2 : PySem.W.findIn K (.type T) (dunderR "mul") with
    | none => rw [e1, e2] at h; cases h
    | some ro =>
      rw [e1, e2] at h
      exact ⟨fo, ro, rfl, rfl, (Option.some.inj h).symm⟩
/-- what the top says of a class of odd things beside C -/
structure OddT (K : PySem.W.Frag) (C : Addr) (T : String) (b : Bool) : Prop where
  f : mulFill K T = some b
  s : PySem.W.subIn K (.type T) (.ref C) = some false
section
variable {X : Cx} {CX : CXT} {n : Nat} {C f : Addr} {fd : FuncData} {ps : List Str} {sp : Sp} {E : XK}
/-- x * y, y an odd thing: it only raises -/
def rMulOdd (K : PySem.W.Frag) (C : Addr) (sp : Sp) (E : XK) : R2 := fun x y H Q => ∃ (a dx : Addr) (fs : List (Str × V)) (T : String) (b : Bool), x = .ref a ∧ TyX K H y (.type T) ∧ OddT K C T b ∧ H a = some (.ins C dx fs) ∧ sp [.ref a, y] H (fun _ _ => False) E
theorem op_mulOdd {fR : Addr} (F : FnOk X.prog X.w X.K X.mg X.base CX n f fd ps sp) (hb : Binds X.K fd ps []) (hx : Passes CX X E) (hr : Room n X.A) (m : MulT X.K C f fR) : OpR X (binaryOp .Mult) (rMulOdd X.K C sp E) := by
  intro pins s σ H x y v u Q I rx ry h
  obtain ⟨a, dx, fs, T, b, rfl, ty, od, ha, hs⟩ := h
  cases rx
  obtain ⟨hh, g0, d0, tt, os⟩ := s
  obtain ⟨mA, J, _⟩ := ins_get I.hok ha
  obtain ⟨od', J, _⟩ := J.look
  obtain ⟨P, kit, hP, hbl⟩ := kit_of I ry ty
  obtain ⟨fo, ro, h1, h2, eb⟩ := fill_of od.f
  obtain ⟨_, hF⟩ := I.fr
  have KX : X.K.In hh := I.kIn
  have run : wpAny (model X.prog X.w) X.A (call (.ref f) [.ref a, u]) (PySem.W.CmpBack (EP X pins σ Q)) X.xe ⟨hh, g0, d0, tt, os⟩ := wpAny_mono (own_run (vs := [.ref a, y]) (us := [.ref a, u]) F hb hx ⟨hr, rfl⟩ I (.cons rfl (.cons ry .nil)) hs) (fun v s' hv => by
    obtain ⟨z, H', I', rv, k⟩ := hv
    exact k.elim) fun _ _ z => z
  have one := PySem.W.ksp_try (Q := EP X pins σ Q) (b := u) KX J m.m.at_ m.m.fn run
  obtain ⟨cd, rest, hcd, hm⟩ := PySem.W.ksp_first m.sf
  have L1 : PySem.W.Looks (model X.prog X.w) hh (typeOf (.ref a)) (.ref C) := J.type
  have L2 : PySem.W.Looks (model X.prog X.w) hh (typeOf u) (.type T) := kit.1 _ _ KX hP
  have L3 : PySem.W.Looks (model X.prog X.w) hh (fillsNumberSlot (.ref C) "mul") true := PySem.W.fills_K KX hcd hm m.m.at_
  have L4 : PySem.W.Looks (model X.prog X.w) hh (fillsNumberSlot (.type T) "mul") b := by
    rw [eb]
    exact PySem.W.ksp_fillsT KX h1 h2
  have L5 : PySem.W.Looks (model X.prog X.w) hh (isSubtype (.type T) (.ref C)) false := PySem.W.looks_subIn KX od.s
  have L6 : PySem.W.Looks (model X.prog X.w) hh (numberSlotInPython (.ref C) "mul") true := PySem.W.ksp_inPy KX m.m.at_ m.r.at_ (.inr ⟨_, rfl⟩)
  have L7 : PySem.W.Looks (model X.prog X.w) hh (numberSlotInPython (.type T) "mul") false := PySem.W.Looks.of_pure rfl
  have L8 : PySem.W.Looks (model X.prog X.w) hh (typeLookup (.type T) (dunderR "mul")) ro := PySem.W.looks_findIn KX h2
  have hne : (Value.ref C == Value.type T) = false := Bool.eq_false_iff.mpr fun q => by cases beq_iff_eq.mp q
  unfold binaryOp
  refine wpAny_holding (wpAny_bind ?_)
  unfold binaryOp1
  refine wpAny_bind (L1.here (wpAny_bind (L2.here (wpAny_bind (L3.here ?_)))))
  simp only [hne, Bool.false_eq_true, if_false]
  refine wpAny_bind (L4.here ?_)
  cases b with
  | false =>
    ksp_lk
    refine wpAny_mono one (fun w s2 hw => ?_) (fun _ _ z => z)
    obtain ⟨z, rfl, hz⟩ := hw
    ksp_lk
    exact hz
  | true =>
    ksp_lk
    refine wpAny_mono one (fun w s2 hw => ?_) (fun _ _ z => z)
    obtain ⟨z, rfl, hz⟩ := hw
    ksp_lk
    exact hz
/-- y * x, y an odd thing: it only raises -/
def rOddMul (K : PySem.W.Frag) (C : Addr) (sp : Sp) (E : XK) : R2 := fun y x H Q => ∃ (a dx : Addr) (fs : List (Str × V)) (T : String) (b : Bool), x = .ref a ∧ TyX K H y (.type T) ∧ OddT K C T b ∧ (b = false ∨ (∃ v, y = .bl v) ∧ PySem.W.subIn K (.ref C) (.type T) = some false) ∧ H a = some (.ins C dx fs) ∧ sp [.ref a, y] H (fun _ _ => False) E
theorem bool_mul_other (i : Bool) (l : Addr) (o : Obj) (ho : ∀ v, o.data ≠ .prim v) : Meets (Builtin.«int.__mul__» ⟨[.bool i, .ref l], []⟩) (fun _ R s => s.heap.get? l = some o ∧ R (.ok (.ret Value.notImplemented)) s) :=
  .of_wp fun prog w A R s h => by
    obtain ⟨hp, g, d, tk, os⟩ := s
    obtain ⟨hl, h⟩ := h
    obtain ⟨c, dd, dat, sl⟩ := o
    cases dat <;> first | exact absurd rfl (ho _) | (wp_walk; exact ⟨_, rfl, h⟩)
theorem op_oddMul {fM : Addr} (F : FnOk X.prog X.w X.K X.mg X.base CX n f fd ps sp) (hb : Binds X.K fd ps []) (hx : Passes CX X E) (hr : Room n X.A) (m : MulT X.K C fM f) : OpR X (binaryOp .Mult) (rOddMul X.K C sp E) := by
  intro pins s σ H y x u v Q I ry rx h
  obtain ⟨a, dx, fs, T, b, rfl, ty, od, hbt, ha, hs⟩ := h
  cases rx
  obtain ⟨hh, g0, d0, tt, os⟩ := s
  obtain ⟨mA, J, _⟩ := ins_get I.hok ha
  have hobj := J.obj
  obtain ⟨od', J, _⟩ := J.look
  obtain ⟨P, kit, hP, hbl⟩ := kit_of I ry ty
  obtain ⟨fo, ro, h1, h2, eb⟩ := fill_of od.f
  have KX : X.K.In hh := I.kIn
  have run : wpAny (model X.prog X.w) X.A (call (.ref f) [.ref a, u]) (PySem.W.CmpBack (EP X pins σ Q)) X.xe ⟨hh, g0, d0, tt, os⟩ := wpAny_mono (own_run (vs := [.ref a, y]) (us := [.ref a, u]) F hb hx ⟨hr, rfl⟩ I (.cons rfl (.cons ry .nil)) hs) (fun v s' hv => by
    obtain ⟨z, H', I', rv, k⟩ := hv
    exact k.elim) fun _ _ z => z
  have one := PySem.W.ksp_try (Q := EP X pins σ Q) (b := u) KX J m.r.at_ m.r.fn run
  obtain ⟨cd, rest, hcd, hm⟩ := PySem.W.ksp_first m.sf
  have L1 : PySem.W.Looks (model X.prog X.w) hh (typeOf (.ref a)) (.ref C) := J.type
  have L2 : PySem.W.Looks (model X.prog X.w) hh (typeOf u) (.type T) := kit.ty _ _ KX hP
  have L3 : PySem.W.Looks (model X.prog X.w) hh (fillsNumberSlot (.ref C) "mul") true := PySem.W.fills_K KX hcd hm m.m.at_
  have L4 : PySem.W.Looks (model X.prog X.w) hh (fillsNumberSlot (.type T) "mul") b := by
    rw [eb]
    exact PySem.W.ksp_fillsT KX h1 h2
  have L7 : PySem.W.Looks (model X.prog X.w) hh (numberSlotInPython (.type T) "mul") false := PySem.W.Looks.of_pure rfl
  have hne : (Value.type T == Value.ref C) = false := Bool.eq_false_iff.mpr fun q => by cases beq_iff_eq.mp q
  unfold binaryOp
  refine wpAny_holding (wpAny_bind ?_)
  unfold binaryOp1
  refine wpAny_bind (L2.here (wpAny_bind (L1.here (wpAny_bind (L4.here ?_)))))
  simp only [hne, Bool.false_eq_true, if_false]
  refine wpAny_bind (L3.here ?_)
  rcases hbt with rfl | ⟨⟨w0, rfl⟩, hsub⟩
  · ksp_lk
    refine wpAny_mono one (fun w s2 hw => ?_) (fun _ _ z => z)
    obtain ⟨z, rfl, hz⟩ := hw
    ksp_lk
    exact hz
  · obtain rfl : u = .bool w0 := ry
    have L5 : PySem.W.Looks (model X.prog X.w) hh (isSubtype (.ref C) (.type T)) false := PySem.W.looks_subIn KX hsub
    have nomul : ∀ {Q' : Option Value → Shared → Prop}, Q' none ⟨hh, g0, d0, tt, os⟩ → wpAny (model X.prog X.w) X.A (tryMethod (.bool w0) (PySem.dunder "mul") (.ref a)) Q' X.xe ⟨hh, g0, d0, tt, os⟩ := fun {Q'} q => by
      unfold tryMethod
      have hi : Shared.TypeIs ⟨hh, g0, d0, tt, os⟩ (.bool w0) "bool" := rfl
      refine wpAny_bind (wpAny_callSpecial?_slot hi PySem.F.slot_bool_mul (call_meets PySem.F.slot_bool_mul hi PySem.F.entry_int_mul (PySem.F.args_int_mul_2 _ _) (bool_mul_other w0 a _ (fun v z => by cases z)) ⟨hobj, ?_⟩))
      exact wpAny_pure q
    cases b with
    | false =>
      ksp_lk
      refine wpAny_mono one (fun w s2 hw => ?_) (fun _ _ z => z)
      obtain ⟨z, rfl, hz⟩ := hw
      ksp_lk
      exact hz
    | true =>
      ksp_lk
      refine nomul ?_
      ksp_lk
      refine wpAny_mono one (fun w s2 hw => ?_) (fun _ _ z => z)
      obtain ⟨z, rfl, hz⟩ := hw
      ksp_lk
      exact hz
theorem kMulOdd {fR : Addr} (K : PySem.W.Frag) (F : FnOk X.prog X.w X.K X.mg X.base CX n f fd ps sp) (hb : Binds X.K fd ps []) (hx : Passes CX X E) (hr : Room n X.A) (m : MulT X.K C f fR) (e : X.K = K := by rfl) : OpR X (binaryOp .Mult) (rMulOdd K C sp E) := e ▸ op_mulOdd F hb hx hr m
theorem kOddMul {fM : Addr} (K : PySem.W.Frag) (F : FnOk X.prog X.w X.K X.mg X.base CX n f fd ps sp) (hb : Binds X.K fd ps []) (hx : Passes CX X E) (hr : Room n X.A) (m : MulT X.K C fM f) (e : X.K = K := by rfl) : OpR X (binaryOp .Mult) (rOddMul K C sp E) := e ▸ op_oddMul F hb hx hr m
/-- - x -/
def rNegOwn (C : Addr) (sp : Sp) (E : XK) : V → Hp → VK → Prop := fun x H Q => ∃ (a dx : Addr) (fs : List (Str × V)), x = .ref a ∧ H a = some (.ins C dx fs) ∧ sp [.ref a] H (fun v H' => ∃ p : Addr, v = .ref p ∧ Q (.ref p) H') E
theorem un_negOwn (F : FnOk X.prog X.w X.K X.mg X.base CX n f fd ps sp) (hb : Binds X.K fd ps []) (hx : Passes CX X E) (hr : Room n X.A) (m : Own X.K C "__neg__" f) : UnR X (unaryOp .USub) (rNegOwn C sp E) := by
  intro pins s σ H x v Q I rx h
  obtain ⟨a, dx, fs, rfl, ha, hs⟩ := h
  cases rx
  obtain ⟨mA, J, _⟩ := ins_get I.hok ha
  obtain ⟨od, J, _⟩ := J.look
  obtain ⟨_, hF⟩ := I.fr
  refine PySem.W.ksp_neg hF I.ok.mod.kin J m.at_ m.fn (wpAny_mono (own_run (vs := [.ref a]) F hb hx ⟨hr, rfl⟩ I (.cons rfl .nil) hs) (fun v s' hv => ?_) fun _ _ z => z)
  obtain ⟨z, H', I', rv, p, rfl, q⟩ := hv
  cases rv
  exact ⟨.ref p, H', I', rfl, q⟩
end
end Bk

namespace Bk
open PySem PySem.Spec PyProof.Rows L2
/-! what questions do with others about unlike folders, or with odd things -/
/-- two questions about unlike folders -/
structure Unl (C CQ : Addr) (H : Hp) (q q' : Addr) : Prop where
  ex : ∃ (x x' : Addr) (zs zs' : List Str) (ch ch' : Bool) (wt wt' : List Str → Int), QuestAt C CQ H q x zs ch wt ∧ QuestAt C CQ H q' x' zs' ch' wt' ∧ (∀ z ∈ zs, isNameS z = true) ∧ (∀ z ∈ zs', isNameS z = true) ∧ (decide (zs = zs') && decide (ch = ch')) = false
theorem Unl.same {C CQ : Addr} {H H' : Hp} {q q' : Addr} (u : Unl C CQ H q q') (e : Same H H') : Unl C CQ H' q q' := by
  obtain ⟨x, x', zs, zs', ch, ch', wt, wt', h1, h2, h3⟩ := u.ex
  exact ⟨x, x', zs, zs', ch, ch', wt, wt', h1.same e, h2.same e, h3⟩
def spAddedU (C CQ CU : Addr) : Sp := fun vs H Q E => ∃ (q q' : Addr) (sg : Int), vs = [.ref q, .ref q', .int sg] ∧ Unl C CQ H q q' ∧ ∀ H', Same H H' → E (.ref CU) none H'
def spTwoU (C CQ CU : Addr) : Sp := fun vs H Q E => ∃ (q q' : Addr), vs = [.ref q, .ref q'] ∧ Unl C CQ H q q' ∧ ∀ H', Same H H' → E (.ref CU) none H'
section
variable {P : Program} {w : World} {K : PySem.W.Frag} {mg : Str → Option Value} {base : Heap}
theorem ok_addedU (B : Bi mg) {C CQ CU f0 fQ fE f : Addr} {fdE fd : FuncData} (T : FolT K mg C f0) (TQ : QueT K mg CQ fQ) (TU : BareT K mg "UnlikeFolders" CU) (kT : PySem.W.kitOne K (.ref C) (.ref C) = some true) (tF : ∀ (H : Hp) (x dx : Addr) (fs : List (Str × V)), H x = some (.ins C dx fs) → TyX K H (.ref x) (.ref C))
    (GE : FnOk P w K mg base CX0 1 fE fdE ["self", "other"] (spFEq K C)) (bE : Binds K fdE ["self", "other"] []) (mE : Own K C "__eq__" fE) (cE : eqCls K C fE = true) (F : Fun K "added" "added" (topS 43) f fd) : FnOk P w K mg base (L2N.CX P w) 3 f fd ["one", "other", "sign"] (spAddedU C CQ CU) := by
  refine Fun.okN F scAdded (fun vs H Q E h => ?_) (fun cdv A outer s H vs Q E hr h => ?_)
  · obtain ⟨q, q', sg, rfl, _⟩ := h
    rfl
  · obtain ⟨q, q', sg, rfl, U, kE⟩ := h
    have nd := scAdded.nd
    have hu := hu_of hr
    have hrN := hr
    refine ⟨_, (pss_cons (ps_if (pt_cmpR (op_neOwn GE bE pass0 hrN cE mE.fn) (pe_fld (pv 0) rfl) (pe_fld (pv 1) rfl) (nomark _)) (pss_one (L2N.ps_raise rfl (L2N.takes_of rfl rfl rfl rfl) (pmk_bareN TU (by rfl)))) pss_nil)
      (pss_one (ps_ret (pe_lock (pe_dcT (own := [("lot", 3)]) hr.units0 rfl nd (pi_keys (pe_fld (pe_fld (pv 0) rfl) rfl)) (blkOk_by (N := ["one", "other", "sign", "lot"]) (sc := defScope (topS 43)) (by decide +kernel)) (fun _ _ _ _ _ => (pg_name (i := 3) nd rfl (Or.inl rfl))) (fun _ _ _ _ _ => (pv 3)) (fun _ _ _ _ _ => (pe_op op_add (pe_dget2 hu (kFld K (pv 0)) (pv 3) pe_int ⟨rfl, rfl, rfl, rfl⟩) (pe_op op_mul (pv 2) (pe_dget2 hu (kFld K (pv 1)) (pv 3) pe_int ⟨rfl, rfl, rfl, rfl⟩))))))))), ?_⟩
    obtain ⟨x, x', zs, zs', ch, ch', wt, wt', QA, QB, nm, nm', ne⟩ := U.ex
    obtain ⟨dq, td, hq, FA, htd⟩ := id QA
    obtain ⟨dq', td', hq', FB, htd'⟩ := id QB
    obtain ⟨dx, t, pd, hx, ht, hp⟩ := id FA
    obtain ⟨dx', t', pd', hx', ht', hp'⟩ := id FB
    refine ⟨_, rfl, q, CQ, dq, _, _, rfl, hq, TQ.cl, TQ.nF, look_folders _ _, _, rfl, q', CQ, dq', _, _, rfl, hq', TQ.cl, TQ.nF, look_folders _ _, x, dx, x', dx', _, _, rfl, rfl, hx, hx', x, .ref x', .ref C, zs, ch, _, rfl, FA, nm, tF _ _ _ _ hx', .inr ⟨kT, x', zs', ch', rfl, FB, nm', rfl⟩, fun H1 e1 => ⟨_, rfl, _, rfl, ?_⟩⟩
    rw [ne]
    refine iteT ?_
    exact kE H1 e1
theorem ok_plusU (B : Bi mg) {C CQ CU fQ f f1 : Addr} {fdQ fd fd1 : FuncData} (TQ : QueT K mg CQ fQ) (GQ : FnOk P w K mg base CX0 4 fQ fdQ ["self", "folders", "weights"] (spQuest K C CQ)) (bQ : Binds K fdQ ["self", "folders", "weights"] [])
    (c_added : Cal P w K mg base (L2N.CX P w) 3 "added" f1 fd1 ["one", "other", "sign"] (spAddedU C CQ CU)) (F : Fun K "__add__" "Question.__add__" (inClass (topS 41) 3) f fd) : FnOk P w K mg base (L2N.CX P w) 6 f fd ["self", "other"] (spTwoU C CQ CU) := by
  refine Fun.okN F scPlus (fun vs H Q E h => ?_) (fun cdv A outer s H vs Q E hr h => ?_)
  · obtain ⟨q, q', rfl, _⟩ := h
    rfl
  · obtain ⟨q, q', rfl, U, kE⟩ := h
    have nd := scPlus.nd
    have hu := hu_of hr
    have hr_added : Room 3 _ := hr.mono (by decide)
    refine ⟨_, (pss_one (ps_ret (pe_make TQ.make GQ hr (by rfl) TQ.g bQ .nil pass0 (pa_cons (pe_fld (pv 0) rfl) (pa_cons (pe_call c_added.ok hr_added (by rfl) c_added.g c_added.kp c_added.b .nil (L2N.passes_call (L2N.takes_of rfl rfl rfl rfl) (fun _ _ _ _ h => h)) (pa_cons (pv 0) (pa_cons (pv 1) (pa_cons pe_int pa_nil)))) pa_nil))))), ?_⟩
    obtain ⟨x, x', zs, zs', ch, ch', wt, wt', QA, QB, nm, nm', ne⟩ := U.ex
    obtain ⟨dq, td, hq, FA, htd⟩ := id QA
    exact ⟨_, rfl, q, CQ, dq, _, _, rfl, hq, TQ.cl, TQ.nF, look_folders _ _, _, rfl, _, rfl, q, q', 1, rfl, U, kE⟩
theorem ok_minusU (B : Bi mg) {C CQ CU fQ f f1 : Addr} {fdQ fd fd1 : FuncData} (TQ : QueT K mg CQ fQ) (GQ : FnOk P w K mg base CX0 4 fQ fdQ ["self", "folders", "weights"] (spQuest K C CQ)) (bQ : Binds K fdQ ["self", "folders", "weights"] [])
    (c_added : Cal P w K mg base (L2N.CX P w) 3 "added" f1 fd1 ["one", "other", "sign"] (spAddedU C CQ CU)) (F : Fun K "__sub__" "Question.__sub__" (inClass (topS 41) 4) f fd) : FnOk P w K mg base (L2N.CX P w) 6 f fd ["self", "other"] (spTwoU C CQ CU) := by
  refine Fun.okN F scMinus (fun vs H Q E h => ?_) (fun cdv A outer s H vs Q E hr h => ?_)
  · obtain ⟨q, q', rfl, _⟩ := h
    rfl
  · obtain ⟨q, q', rfl, U, kE⟩ := h
    have nd := scMinus.nd
    have hu := hu_of hr
    have hr_added : Room 3 _ := hr.mono (by decide)
    refine ⟨_, (pss_one (ps_ret (pe_make TQ.make GQ hr (by rfl) TQ.g bQ .nil pass0 (pa_cons (pe_fld (pv 0) rfl) (pa_cons (pe_call c_added.ok hr_added (by rfl) c_added.g c_added.kp c_added.b .nil (L2N.passes_call (L2N.takes_of rfl rfl rfl rfl) (fun _ _ _ _ h => h)) (pa_cons (pv 0) (pa_cons (pv 1) (pa_cons (pe_un un_neg pe_int) pa_nil)))) pa_nil))))), ?_⟩
    obtain ⟨x, x', zs, zs', ch, ch', wt, wt', QA, QB, nm, nm', ne⟩ := U.ex
    obtain ⟨dq, td, hq, FA, htd⟩ := id QA
    exact ⟨_, rfl, q, CQ, dq, _, _, rfl, hq, TQ.cl, TQ.nF, look_folders _ _, _, rfl, _, rfl, 1, rfl, q, q', -1, rfl, U, kE⟩
theorem ok_moreU (B : Bi mg) {C CQ CU f f1 : Addr} {fd fd1 : FuncData} (c_added : Cal P w K mg base (L2N.CX P w) 3 "added" f1 fd1 ["one", "other", "sign"] (spAddedU C CQ CU)) (F : Fun K "first_more" "first_more" (topS 44) f fd) : FnOk P w K mg base (L2N.CX P w) 4 f fd ["one", "other"] (spTwoU C CQ CU) := by
  refine Fun.okN F scMore (fun vs H Q E h => ?_) (fun cdv A outer s H vs Q E hr h => ?_)
  · obtain ⟨q, q', rfl, _⟩ := h
    rfl
  · obtain ⟨q, q', rfl, U, kE⟩ := h
    have nd := scMore.nd
    have hu := hu_of hr
    have hr_added := hr
    refine ⟨_, (pss_cons (ps_set (i := 2) nd rfl (Or.inl rfl) (pe_call c_added.ok hr_added (by rfl) c_added.g c_added.kp c_added.b .nil (L2N.passes_call (L2N.takes_of rfl rfl rfl rfl) (fun _ _ _ _ h => h)) (pa_cons (pv 0) (pa_cons (pv 1) (pa_cons (pe_un un_neg pe_int) pa_nil)))))
      (pss_cons (ps_lock (ps_for (passes_of rfl) rfl (pi_keys (pv 2)) (pg_name (i := 3) nd rfl (Or.inl rfl)) (pss_one (ps_if (pt_cmpR op_gt (pe_dget hu (pv 2) (pv 3) (fun _ _ => rfl)) pe_int (nomark _)) (pss_one (ps_ret (pv 3))) pss_nil))))
      (pss_one (ps_ret pe_non)))), ?_⟩
    exact ⟨_, rfl, _, rfl, 1, rfl, q, q', -1, rfl, U, kE⟩
theorem ok_leU (B : Bi mg) {C CQ CU f f1 : Addr} {fd fd1 : FuncData} (c_first_more : Cal P w K mg base (L2N.CX P w) 4 "first_more" f1 fd1 ["one", "other"] (spTwoU C CQ CU)) (F : Fun K "__le__" "Question.__le__" (inClass (topS 41) 2) f fd) : FnOk P w K mg base (L2N.CX P w) 5 f fd ["self", "other"] (spTwoU C CQ CU) := by
  refine Fun.okN F scLe (fun vs H Q E h => ?_) (fun cdv A outer s H vs Q E hr h => ?_)
  · obtain ⟨q, q', rfl, _⟩ := h
    rfl
  · obtain ⟨q, q', rfl, U, kE⟩ := h
    have nd := scLe.nd
    have hu := hu_of hr
    have hr_first_more := hr
    refine ⟨_, (pss_one (ps_ret (pe_cmpR op_isN (pe_call c_first_more.ok hr_first_more (by rfl) c_first_more.g c_first_more.kp c_first_more.b .nil (L2N.passes_call (L2N.takes_of rfl rfl rfl rfl) (fun _ _ _ _ h => h)) (pa_cons (pv 0) (pa_cons (pv 1) pa_nil))) pe_non (nomark _)))), ?_⟩
    exact ⟨_, rfl, _, rfl, q, q', rfl, U, kE⟩
end
end Bk

/-! dict displays whose keys are tuples; == of lists of such dicts -/
namespace Bk
open PySem PySem.Spec PyProof.Rows L2
/-- the pairs of a display whose keys are tuples -/
abbrev PT (H : Hp) : List (V × V) → List (List Key × V) → Prop := Paired fun q kv => ∃ b : Addr, q = (.ref b, kv.2) ∧ H b = some (.tup (kv.1.map kV))
theorem carriesT {P : Program} {w : World} {H : Hp} {h : Heap} (hok : HOk P w H h) : ∀ {ps : List (V × V)} {kvs : List (List Key × V)} {ws : List (Value × Value)}, PT H ps kvs → VV ps ws → ∃ rs, CarriesH (tupleKind (mixKind P w)) h ws rs ∧ KT H kvs rs
  | _, _, _, .nil, r => by cases r; exact ⟨[], True.intro, .nil⟩
  | _, _, _, .cons (a := p) (b := kv) e t, r => by
    obtain ⟨b, rfl, hb⟩ := e
    cases r with
    | @cons _ q _ bs h t2 =>
      obtain ⟨rs, c, k⟩ := carriesT hok t t2
      obtain ⟨u1, u2⟩ := q
      obtain ⟨h1, h2⟩ := h
      have h1 : u1 = Value.ref b := h1
      subst h1
      exact ⟨(kv.1, b, u2) :: rs, ⟨rfl, rfl, key_of hok hb, c⟩, .cons ⟨rfl, hb, h2⟩ k⟩
def tDispT (trs : List (TE × TE)) : TE := fun σ H Q => ∀ p, H p = none → tPairs trs σ (upd H p (.dT [])) fun ps H2 => H2 p = some (.dT []) ∧ ∃ kvs : List (List Key × V), PT H2 ps kvs ∧ kvs.length ≤ 15 ∧ Q (.ref p) (upd H2 p (.dT (mergeT [] kvs)))
theorem pe_dispT {X : Cx} {pos : Pos} {keys : List (Option Expr)} {values : List Expr} {trs : List (TE × TE)} (hu : X.A.units + 1 < cLine) (h : PPs X pos keys values trs) (hall : keys.all (·.isSome) = true) (hl : keys.length = values.length) (h0 : keys ≠ [])
    (h15 : keys.length ≤ 15) : PE X (.Dict keys values pos) (tDispT trs) := by
  refine ⟨fun pins s σ H Q I q => ?_⟩
  have hn := I.hok.fresh (Nat.le_refl s.heap.objs.size)
  have I1 := I.laid (a := s.heap.objs.size) (o := .dT []) (h' := s.heap.push { cls := .type "dict", data := .dict #[] }) (t' := s.toks) (fun _ _ q => Heap.get?_push_of_some _ q) (Nat.le_refl _) (dt_empty s.heap I.big)
  have hp := pairTrees_length keys values X.env pos hall hl
  have hp0 : pairTrees keys values X.env pos ≠ [] := fun he => by
    rw [he] at hp
    exact h0 (List.length_eq_zero_iff.mp hp.symm)
  rw [arm_eval_Dict, zip_pairTrees keys values X.env pos hall hl, dictDisplay_pairs _ hp0 (by omega)]
  refine wpAny_bind (wpAny_standAt (wpAny_bind (wpAny_subDictH (knd := tupleKind (mixKind X.prog X.w)) (Q := fun d s' => wpAny (model X.prog X.w) X.A (pure (Value.ref d)) (EP X pins σ Q) X.xe s') (show X.A.units < cLine from Nat.lt_of_succ_lt hu) (by omega) ?_)))
  refine thn (h.run pins _ σ _ _ I1 (q _ hn)) fun ws s2 ⟨ps, H2, I2, rel, e, kvs, pt, lk, q2⟩ => ?_
  obtain ⟨rs, c, rk⟩ := carriesT I2.hok pt rel
  obtain ⟨z, hd, xs0, r0, dd⟩ := dt_of I2.hok e
  cases r0
  refine ⟨rs, c, dd, fun h' tk dd' hs => wpAny_pure ?_⟩
  have hz : (mergeT [] kvs).length ≤ sizeLine := by
    have h1 := mergeT_len kvs []
    rw [List.length_nil] at h1
    rw [sizeLine_eq]
    omega
  have he : ∃ q, h'.get? s.heap.objs.size = some q := let ⟨q, _, _, hq, _⟩ := dd'; ⟨q, hq⟩
  have nb : ∀ {b : Addr} {ys : List V}, H2 b = some (.tup ys) → (upd H2 s.heap.objs.size (.dT (mergeT [] kvs))) b = some (.tup ys) := fun {b ys} hb => by
    rw [upd_ne (fun z => by rw [z, e] at hb; cases hb)]
    exact hb
  obtain ⟨o, es, ep, h1, h2, h3, h4, _, h5⟩ := dd'
  have new : ObjOk X.prog X.w (upd H2 s.heap.objs.size (.dT (mergeT [] kvs))) h' s.heap.objs.size (.dT (mergeT [] kvs)) :=
    ⟨hz, hd, storedAllH [] rs, (KT.merge _ _ _ _ rk .nil).keeps fun b ys hb => nb hb, o, es, ep, h1, h2, h3, h4, h5⟩
  exact ⟨.ref s.heap.objs.size, _, d_write I2 (by rw [e]; exact True.intro) hs he new, rfl, q2⟩
theorem paired_get {α β : Type} {F : α → β → Prop} : ∀ {l : List α} {m : List β} {i : Nat} {x : α}, Paired F l m → l[i]? = some x → ∃ y, m[i]? = some y ∧ F x y
  | _, _, _, _, .nil, h => by simp at h
  | _, _, 0, _, .cons h _, e => by cases e; exact ⟨_, rfl, h⟩
  | _, _, i + 1, _, .cons _ t, e => by
    obtain ⟨y, h1, h2⟩ := paired_get t (by simpa using e)
    exact ⟨y, by simpa using h1, h2⟩
theorem zip_all {α β : Type} (f : α → β → Bool) (a0 : α) (b0 : β) : ∀ (ks : List α) (ls : List β), ks.length = ls.length → ((List.range ks.length).all fun j => f (ks.getD j a0) (ls.getD j b0)) = (ks.zip ls).all fun p => f p.1 p.2
  | [], [], _ => rfl
  | [], _ :: _, h => nomatch h
  | _ :: _, [], h => nomatch h
  | k :: r, l :: t, h => by
    have ih := zip_all f a0 b0 r t (Nat.succ.inj h)
    rw [List.length_cons, List.range_succ_eq_map, List.all_cons, List.all_map, List.zip_cons_cons, List.all_cons, ← ih]
    rfl
section
variable {X : Cx}
/-- == of two lists of dicts whose keys are tuples, their values whole numbers -/
def rEqLT (K : PySem.W.Frag) : R2 := fun x y H Q => ∃ (l1 l2 : Addr) (as bs : List Addr) (ks ls : List (List (List Key × Int))), x = .ref l1 ∧ y = .ref l2 ∧ SqL K H l1 (as.map V.ref) ∧ SqL K H l2 (bs.map V.ref) ∧ Paired (fun a k => H a = some (.dT (tabV k))) as ks ∧ Paired (fun b k => H b = some (.dT (tabV k))) bs ls ∧
  as.length = bs.length ∧ (∀ (i : Nat) (a b : Addr), as[i]? = some a → bs[i]? = some b → a ≠ b) ∧ Q (.bl ((ks.zip ls).all fun p => sameT p.1 p.2)) H
theorem op_eqLT (hu : X.A.units + 64 < cLine) : OpR X (compareOp .Eq) (rEqLT X.K) := by
  intro pins s σ H x y v u Q I rx ry h
  obtain ⟨l1, l2, as, bs, ks, ls, rfl, rfl, h1, h2, pa, pb, hlen, hne, q⟩ := h
  obtain rfl : v = Value.ref l1 := rx
  obtain rfl : u = Value.ref l2 := ry
  obtain ⟨its, rv, p1, _⟩ := I.list h1
  obtain ⟨its2, rv2, p2, _⟩ := I.list h2
  have ei := refs_at rv
  have ei2 := refs_at rv2
  subst ei ei2
  have hk : as.length = ks.length := Paired.length pa
  have hl : bs.length = ls.length := Paired.length pb
  refine SeqAt.rcP_lists (e := fun j => sameT (ks.getD j []) (ls.getD j [])) p1.isList p2.isList (by simp [hlen]) (by omega) (fun j j1 j2 => ?_) _ _ ?_
  · have j1' : j < as.length := by simpa using j1
    have j2' : j < bs.length := by simpa using j2
    obtain ⟨k, hkj, ha⟩ := paired_get pa (List.getElem?_eq_getElem j1')
    obtain ⟨l, hlj, hb⟩ := paired_get pb (List.getElem?_eq_getElem j2')
    have e1 : ks.getD j [] = k := by rw [List.getD_eq_getElem?_getD, hkj]; rfl
    have e2 : ls.getD j [] = l := by rw [List.getD_eq_getElem?_getD, hlj]; rfl
    have n := hne j _ _ (List.getElem?_eq_getElem j1') (List.getElem?_eq_getElem j2')
    show SeqAt.EqP X.prog X.w X.A.in1 s ((as.map Value.ref).toArray[j]) ((bs.map Value.ref).toArray[j]) (sameT (ks.getD j []) (ls.getD j []))
    rw [e1, e2]
    simp only [List.getElem_toArray, List.getElem_map]
    obtain ⟨_, ya, va, ra, da⟩ := dt_of I.hok ha
    obtain ⟨_, yb, vb, rb, db⟩ := dt_of I.hok hb
    have hl1 : va.length = k.length := by rw [← Paired.length ra]; exact tab_len k
    have hl2 : vb.length = l.length := by rw [← Paired.length rb]; exact tab_len l
    refine SeqAt.eqP_refs n fun E' Q' q' => ?_
    refine PySem.W.bk_eq (A := X.A.in1) (knd := tupleKind (mixKind X.prog X.w)) (show X.A.in1.in1.units < cLine from Nat.lt_of_le_of_lt (Nat.add_le_add_left (by decide : 2 ≤ 64) _) hu) ya yb da db (show X.A.in1.units < cLine from Nat.lt_of_le_of_lt (Nat.add_le_add_left (by decide : 1 ≤ 64) _) hu) (fun _ => hitsT rb ra) ?_
    rw [hl1, hl2]
    exact q'
  · have e : ((List.range (as.map Value.ref).toArray.size).all fun j => sameT (ks.getD j []) (ls.getD j [])) = (ks.zip ls).all fun p => sameT p.1 p.2 := by
      have hz : (as.map Value.ref).toArray.size = ks.length := by simp [hk]
      rw [hz]
      exact zip_all (fun k l => sameT k l) [] [] ks ls (by omega)
    rw [e]
    exact ⟨_, H, I, (show RelV (.bl _) _ from rfl), q⟩
end
section
variable {X : Cx} {T id : String} {name : Str} {o e : Expr} {es : List Expr} {to : TE} {t : TA} {r : V → List V → Hp → VK → Prop} {apos cpos : Pos}
/-- o.m(e, ..) of a builtin's method, K told -/
theorem kBm (K : PySem.W.Frag) (pa : PlainAttrs T) (slot : Slot T name id) (hty : typeOf (.builtin id) = pure (.type "method_descriptor")) (hm : MtR X id r) (ho : PE X o to) (ha : PA X (e :: es) t) (eK : X.K = K := by rfl)
    (hbase : attributeBase o name X.env (eval o X.env) = eval o X.env := by rfl)
    (hfew : ((backTo cpos (starEach (e :: es) X.env)).all (fun x => !x.1) && (backToKw cpos (keywordEach [] X.env)).all (fun x => x.1.isSome) && decide ((e :: es).length + ([] : List Keyword).length + (if ([] : List Keyword).isEmpty then 0 else 1) < 30)) = true := by rfl)
    (hline : (apos.endLine == cpos.line) = true := by rfl) (hs : starEach (e :: es) X.env = (false, eval e X.env) :: starEach es X.env := by rfl) (hplain : (backTo cpos (starEach es X.env)).any (·.1) = false := by rfl) :
    PE X (.Call (.Attribute o name apos) (e :: es) [] cpos) (tBM K T r to t) := eK ▸ pe_bm pa slot hty hm ho ha hbase hfew hline hs hplain
end
end Bk

namespace Bk
open PySem PySem.Spec PyProof.Rows L2
/-- _law_mixed(stream, some): the same things in a drawn order -/
def spMixed (K : PySem.W.Frag) : Sp := fun vs H Q _ => ∃ (st c a : Addr) (n : Nat) (xs : List V), vs = [.ref st, .ref a] ∧ Strm H st c n ∧ n ≤ 900000 ∧ (SqL K H a xs ∨ SqT K H a xs) ∧ xs.length ≤ 1000 ∧
  ∀ D ys H', H D = none → ys.Perm xs → H' D = some (.lst ys) → Strm H' st c (n + xs.length) → Kept st c H H' → Q (.ref D) H'
theorem perm_erase {xs : List V} {i : Nat} {v : V} (h : xs[i]? = some v) : xs.Perm (v :: xs.eraseIdx i) := by
  induction xs generalizing i with
  | nil => simp at h
  | cons x r ih =>
    cases i with
    | zero =>
      cases h
      exact List.Perm.refl _
    | succ i =>
      have h : r[i]? = some v := by simpa using h
      exact ((ih h).cons x).trans (List.Perm.swap _ _ _)
theorem seqIndex_at {n j : Nat} (h : j < n) : seqIndex? (j : Int) n = some j := by
  unfold seqIndex?
  simp
  omega
section
variable {P : Program} {w : World} {K : PySem.W.Frag} {mg : Str → Option Value} {base : Heap}
theorem scMixed : FnScope ["_law_stream", "_law_some", "_law_left", "_law_k"] ["_law_stream", "_law_some"] (defScope (topS 57)) := ⟨rfl, rfl, rfl, by decide +kernel, rfl, by decide +kernel, by decide +kernel⟩
theorem ok_mixed (B : Bi mg) {f f1 : Addr} {fd fd1 : FuncData} (c__law_draw : Cal P w K mg base CX0 1 "_law_draw" f1 fd1 ["_law_stream", "_law_many"] spDraw)
    (F : Fun K "_law_mixed" "_law_mixed" (topS 57) f fd) : FnOk P w K mg base CX0 2 f fd ["_law_stream", "_law_some"] (spMixed K) := by
  refine F.ok scMixed (fun vs H Q E h => ?_) (fun cdv A outer s H vs Q E hr h => ?_)
  · obtain ⟨st, c, a, n, xs, rfl, _⟩ := h
    rfl
  · obtain ⟨st, c, a, n, xs, rfl, S, hn, hS, hl, q⟩ := h
    have nd := scMixed.nd
    have hu := hu_of hr
    have hr__law_draw := hr
    refine ⟨_, (pss_cons (ps_set (i := 2) nd rfl (Or.inr rfl) (pe_callTy (kList K) (by rfl) B.list (by decide +kernel) (pa_cons (pv 1) pa_nil)))
      (pss_one (ps_ret (pe_lc (own := [("_law_k", 3)]) rfl nd (pi_range1 (by rfl) B.range (pa_cons (pe_callB (kLen K) (by rfl) B.len PySem.boot_len (pa_cons (pv 2) pa_nil)) pa_nil)) (blkOk_by (N := ["_law_stream", "_law_some", "_law_left", "_law_k"]) (sc := defScope (topS 57)) (by decide +kernel)) (fun _ _ _ _ _ => (pg_name (i := 3) nd rfl (Or.inl rfl))) (fun _ _ _ _ _ => pts_nil) (fun _ _ _ _ _ => (kBm K PySem.F.plainAttrs_list PySem.F.slot_list_pop PySem.F.type_list_pop mt_popAt (pv 2) (pa_cons (pe_call c__law_draw.ok hr__law_draw (by rfl) c__law_draw.g c__law_draw.kp c__law_draw.b .nil pass0 (pa_cons (pv 0) (pa_cons (pe_callB (kLen K) (by rfl) B.len PySem.boot_len (pa_cons (pv 2) pa_nil)) pa_nil))) pa_nil))))))), ?_⟩
    refine ⟨_, rfl, a, xs, rfl, hS, fun l nl => ?_⟩
    obtain ⟨l1, l2⟩ := S.notfree nl
    have e1 := same_upd (o := HO.lst xs) nl
    have h1 : upd H l (.lst xs) l = some (.lst xs) := upd_same
    generalize upd H l (.lst xs) = H1 at e1 h1 ⊢
    have S1 := S.same e1
    refine ⟨_, rfl, _, _, rfl, .inl ⟨_, SqL.of h1, rfl⟩, (xs.length : Int), rfl, by omega, by omega, fun D nD => ?_⟩
    obtain ⟨D1, D2⟩ := S1.notfree nD
    have nlD : l ≠ D := ne_of_none h1 nD
    have nDH : H D = none := e1.free nD
    refine lc_it walk_range (fun i H' => ∃ ys zs : List V, (ys ++ zs).Perm xs ∧ ys.length = i ∧ H' D = some (.lst ys) ∧ H' l = some (.lst zs) ∧ Strm H' st c (n + i) ∧ ∀ b o, b ≠ st → b ≠ c → b ≠ l → H b = some o → H' b = some o) ?_ (fun _ _ _ _ => trivial) ?_ ?_
    · exact ⟨[], xs, List.Perm.refl _, rfl, upd_same, by rw [upd_ne nlD]; exact h1, S1.same (same_upd nD), fun b o _ _ _ h => same_upd nD _ _ (e1 _ _ h)⟩
    · rintro i y H2 H3 hi ⟨ys, zs, hp, hy, hD, hL, S2, k2⟩ ⟨rfl, rfl⟩
      have hi : i < xs.length := by omega
      have hlen := hp.length_eq
      rw [List.length_append] at hlen
      refine ⟨rfl, yes2 ?_⟩
      have hL' : l ≠ st ∧ l ≠ c := ⟨l1, l2⟩
      refine ⟨_, rfl, .inl ⟨rfl, _, SqL.of hL⟩, _, rfl, _, rfl, _, zs.length, rfl, .inl ⟨_, SqL.of hL, rfl⟩, st, c, n + i, (zs.length : Int), rfl, S2, by omega, by omega, by omega, fun d H4 d0 d1 S4 k4 => ?_⟩
      obtain ⟨j, rfl⟩ : ∃ j : Nat, d = (j : Int) := ⟨d.toNat, by omega⟩
      have hj : j < zs.length := by omega
      obtain ⟨v, hv⟩ : ∃ v, zs[j]? = some v := ⟨_, List.getElem?_eq_getElem hj⟩
      have hL4 := k4 _ _ l1 l2 hL
      refine ⟨l, zs, (j : Int), j, v, rfl, rfl, hL4, by omega, by omega, seqIndex_at hj, hv, ?_⟩
      refine ⟨ys, ?_, Evl.sz_lt (by omega), ys ++ [v], zs.eraseIdx j, ?_, by rw [List.length_append, hy]; rfl, upd_same, ?_, ?_, ?_⟩
      · rw [upd_ne nlD.symm]
        exact k4 _ _ D1 D2 hD
      · rw [List.append_assoc]
        exact ((List.Perm.refl ys).append (perm_erase hv).symm).trans hp
      · rw [upd_ne nlD, upd_same]
      · exact ((S4.upd l1 l2).upd D1 D2).more (by omega)
      · intro b o n1 n2 n3 h
        have nb : b ≠ D := ne_of_none h nDH
        rw [upd_ne nb, upd_ne n3]
        exact k4 _ _ n1 n2 (k2 b o n1 n2 n3 h)
    · rintro H2 ⟨ys, zs, hp, hy, hD, hL, S2, k2⟩
      have hlen := hp.length_eq
      rw [List.length_append] at hlen
      have hz : zs = [] := List.eq_nil_of_length_eq_zero (by omega)
      rw [hz, List.append_nil] at hp
      exact q D ys H2 nDH hp hD (S2.more (by omega)) fun b o n1 n2 h => k2 b o n1 n2 (ne_of_none h nl) h
end
end Bk

namespace Bk
open PySem PySem.Spec PyProof.Rows L2
/-- dict(zip(xs, ys)), xs tuples -/
def tDictZip (K : PySem.W.Frag) (ta : TA) : TE := fun σ H Q => ta σ H fun vs H1 => ∃ (a b : Addr) (ps : List Addr) (ys : List V) (ks : List (List Key)), vs = [.ref a, .ref b] ∧ SqL K H1 a (ps.map V.ref) ∧ SqL K H1 b ys ∧
  Paired (fun p k => H1 p = some (.tup (k.map kV))) ps ks ∧ ks.length = ys.length ∧ ∀ p, H1 p = none → Q (.ref p) (upd H1 p (.dT (mergeT [] (ks.zip ys))))
theorem zipT_of {H : Hp} : ∀ {ps : List Addr} {ks : List (List Key)} {ys : List V} {us : List Value}, Paired (fun p k => H p = some (.tup (k.map kV))) ps ks → Vals ys us → ks.length = ys.length →
    ∃ prs : List (List Key × Addr × Value), KT H (ks.zip ys) prs ∧ prs.length = ps.length ∧ ∀ (j : Nat) (q : List Key × Addr × Value), prs[j]? = some q → ps[j]? = some q.2.1 ∧ us[j]? = some q.2.2
  | _, _, _, _, .nil, .nil, _ => ⟨[], .nil, rfl, fun j q e => by simp at e⟩
  | _, _, _, _, .nil, .cons _ _, e => by simp at e
  | _, _, _, _, .cons _ _, .nil, e => by simp at e
  | _, _, _, _, .cons (a := p) (b := k) h t, .cons (a := y) (b := u) r rr, e => by
    obtain ⟨prs, kt, hl, hp⟩ := zipT_of t rr (by simpa using e)
    refine ⟨(k, p, u) :: prs, .cons ⟨rfl, h, r⟩ kt, by rw [List.length_cons, List.length_cons, hl], fun j q eq => ?_⟩
    cases j with
    | zero =>
      have e' : (k, p, u) = q := Option.some.inj eq
      subst e'
      exact ⟨rfl, rfl⟩
    | succ j =>
      obtain ⟨e1, e2⟩ := hp j q (by simpa using eq)
      exact ⟨by simpa using e1, by simpa using e2⟩
section
variable {X : Cx} {e1 e2 : Expr} {ta : TA} {p p2 pos pos2 : Pos} {K : PySem.W.Frag}
theorem pe_dictZip (hg : Gl X "dict") (hm : X.mg "dict" = none) (hgz : Gl X "zip") (hmz : X.mg "zip" = none) (ha : PA X [e1, e2] ta) (hc : X.calm = true) (hu : X.A.units + 64 < cLine) (eK : X.K = K := by rfl)
    (hs : starEach [e1, e2] X.env = (false, eval e1 X.env) :: starEach [e2] X.env := by rfl) (hpl : (backTo pos2 (starEach [e2] X.env)).any (·.1) = false := by rfl)
    (hs1 : starEach [.Call (.Name "zip" p2) [e1, e2] [] pos2] X.env = (false, eval (.Call (.Name "zip" p2) [e1, e2] [] pos2) X.env) :: starEach [] X.env := by rfl) :
    PE X (.Call (.Name "dict" p) [.Call (.Name "zip" p2) [e1, e2] [] pos2] [] pos) (tDictZip K ta) := by
  subst eK
  refine ⟨fun pins s σ H Q I h => ?_⟩
  refine Call_ (ld_blt I hg hm PyProof.Rows.boot_dict (PyProof.Rows.callWith_type1 ?_ hs1 rfl))
  rw [hs1]
  show wpAny _ _ (spliced ((false, eval (.Call (.Name "zip" p2) [e1, e2] [] pos2) X.env) :: backTo pos (starEach [] X.env))) _ _ s
  refine Calls.spliced_cons ?_
  refine Call_ (ld_blt I hgz hmz PyProof.Rows.boot_zip (PyProof.Rows.callWith_type1 (thn (ha.run pos2 pins s σ H _ I h) fun us s1 ⟨vs, H1, I1, r1, q1⟩ => ?_) hs hpl))
  obtain ⟨a, b, ps, ys, ks, ex, hqx, hqy, hpk, hlen, q⟩ := q1
  subst ex
  cases r1 with
  | cons r rr =>
    cases rr with
    | cons r' rr =>
      cases rr
      cases r
      cases r'
      obtain ⟨its, rv, p1, hz1⟩ := I1.list hqx
      obtain ⟨its2, rv2, p2', hz2⟩ := I1.list hqy
      have ei := refs_at rv
      subst ei
      rw [List.length_map] at hz1
      have la : a < s1.heap.objs.size := p1.lt
      have lb : b < s1.heap.objs.size := p2'.lt
      refine call_zip_2 p1.isList p2'.isList fun h' hz hTI hTO h1 h2 hsz hk => ?_
      have I2 : Inv X pins σ H1 { s1 with heap := h' } := I1.kept (t' := s1.toks) hk
      refine Calls.spliced_nil ?_
      obtain ⟨prs, kt, hl, hpr⟩ := zipT_of (H := H1) hpk rv2 hlen
      have hlk : (ks.zip ys).length = prs.length := Paired.length kt
      have hlp : ps.length = ks.length := Paired.length hpk
      have hl2 : its2.length = ys.length := rv2.length.symm
      have hmin : min (ps.map Value.ref).toArray.size its2.toArray.size = prs.length := by simp; omega
      have old : ∀ c : Addr, c < s1.heap.objs.size → c ∉ [s1.heap.objs.size + 4, s1.heap.objs.size + 3, s1.heap.objs.size, s1.heap.objs.size + 1] := fun c hc z => by
        simp only [List.mem_cons, List.not_mem_nil, or_false] at z
        rcases z with z | z | z | z
        · rw [z] at hc; exact Nat.not_lt.mpr (Nat.le_add_right _ _) hc
        · rw [z] at hc; exact Nat.not_lt.mpr (Nat.le_add_right _ _) hc
        · rw [z] at hc; exact Nat.lt_irrefl _ hc
        · rw [z] at hc; exact Nat.not_lt.mpr (Nat.le_add_right _ _) hc
      refine call_dict_pairsH (knd := tupleKind (mixKind X.prog X.w)) (ps := prs) (PairArg.zip (s1.heap.objs.size + 4) (s1.heap.objs.size + 2) (s1.heap.objs.size + 3) s1.heap.objs.size (s1.heap.objs.size + 1) a b (PySem.W.ktu_apart s1.heap.objs.size a b la lb) (ps.map Value.ref).toArray its2.toArray) (I2.ok.hd hc) ?_
        ⟨hz, hTI, ⟨_, _, hTO⟩, h1, h2, p1.isList.at fun o e => hk _ o e, p2'.isList.at fun o e => hk _ o e⟩ ⟨hmin.symm, fun i key v e => ?_⟩ ?_ (by rw [hmin, hl]; exact hz1) fun h'' tk hd' k => ?_
      · show X.A.in1.in1.units < cLine
        exact Nat.lt_of_le_of_lt (Nat.add_le_add_left (by decide : 2 ≤ 64) _) hu
      · obtain ⟨ea, eb⟩ := e
        have hi : i < prs.length := by
          have := (Array.getElem?_eq_some_iff.mp ea).1
          simp at this
          omega
        obtain ⟨x, hx⟩ : ∃ x, prs[i]? = some x := ⟨_, List.getElem?_eq_getElem hi⟩
        obtain ⟨g1, g2⟩ := hpr i x hx
        have ea : (ps.map Value.ref)[i]? = some key := by simpa using ea
        have eb : its2[i]? = some v := by simpa using eb
        rw [List.getElem?_map, g1] at ea
        rw [g2] at eb
        cases ea
        cases eb
        exact ⟨x.1, x.2.1, hx, rfl⟩
      · intro h2' hk2 x hx
        obtain ⟨o, arr, n, g1, g2, g3, g4⟩ := key_of (P := X.prog) (w := X.w) I1.hok (kt_keys kt x hx)
        have hlt := Heap.lt_size g1
        have hle : s1.heap.objs.size ≤ h'.objs.size := by rw [hsz]; exact Nat.le_add_right _ _
        refine ⟨o, arr, n, hk2 _ _ (Nat.ne_of_lt (Nat.lt_of_lt_of_le hlt hle)) (fun z => old _ hlt z) (hk _ _ g1), g2, g3, g4⟩
      · show EP X pins σ Q (.ref h'.objs.size) { s1 with heap := h'', toks := tk }
        exact dt_made (h' := h'') (tk := tk) I1 kt (by rw [hlk, hl]; exact hz1) (by rw [hsz]; exact Nat.le_add_right _ _) hd' (fun c o e => k c o (fun z => old _ (Heap.lt_size e) z) (hk _ _ e)) q
end
end Bk

namespace Bk
open PySem PySem.Spec PyProof.Rows L2
theorem str_map_inj : ∀ {a b : List Str}, a.map V.str = b.map V.str → a = b
  | [], [], _ => rfl
  | [], _ :: _, h => nomatch h
  | _ :: _, [], h => nomatch h
  | x :: r, y :: t, h => by
    injection h with h1 h2
    injection h1 with h1
    rw [h1, str_map_inj h2]
/-- one of two promises -/
theorem FnOk.or {P : Program} {w : World} {K : PySem.W.Frag} {mg : Str → Option Value} {base : Heap} {CX : CXT} {k : Nat} {f : Addr} {fd : FuncData} {ps : List Str} {s1 s2 : Sp} (h1 : FnOk P w K mg base CX k f fd ps s1) (h2 : FnOk P w K mg base CX k f fd ps s2) :
    FnOk P w K mg base CX k f fd ps (fun vs H Q E => s1 vs H Q E ∨ s2 vs H Q E) :=
  ⟨fun vs H Q E q => q.elim (h1.len vs H Q E) (h2.len vs H Q E), fun A outer s H args us vs Q E hr he hb hv hs => hs.elim (h1.run A outer s H args us vs Q E hr he hb hv) (h2.run A outer s H args us vs Q E hr he hb hv)⟩
/-- Folders(names, ..) of right names -/
theorem make_fold {K : PySem.W.Frag} {C CB : Addr} {H : Hp} {nm : V} {zs : List Str} {ch : Bool} {R : Addr → Hp → Prop} (Th : Thing K H nm (some (zs.map V.str))) (hw : wrongOf (some (zs.map V.str)) (mostFor ch) = none) (r : ∀ x H', H x = none → Same H H' → FoldersAt C H' x zs ch → R x H') :
    ∀ x dx, H x = none → H dx = none → dx ≠ x → spFolders K C CB [.ref x, nm, .bl ch] (upd (upd H dx (.own x)) x (.ins C dx [])) (fun v H' => v = .non ∧ R x H') E0 := by
  rintro x dx nx ndx hne
  have e1 := Same.grow (o := HO.ins C dx []) (Same.grow (o := HO.own x) (Same.refl H) ndx) nx
  refine ⟨x, dx, nm, _, ch, rfl, upd_same, Th.same e1, fun i d H' hi => ?_, fun zs' H' _ ez _ FA bt => ⟨rfl, r x H' nx (fun b u e => bt b u (ne_of_none e nx) (e1 _ _ e)) ?_⟩⟩
  · rw [hw] at hi
    cases hi
  · have : zs = zs' := str_map_inj (Option.some.inj ez)
    rw [this]
    exact FA
section
variable {st c : Addr} {n : Nat} {H H' : Hp}
theorem Strm.far {b : Addr} {o : HO} (S : Strm H st c n) (h : H b = some o) (ho : ∀ l, o ≠ .lst l) : b ≠ st ∧ b ≠ c := by
  obtain ⟨ne, cells, a, k, m, h1, h2, h3⟩ := S
  exact ⟨fun e => by subst e; rw [h] at h2; injection h2 with h2; exact ho _ h2, fun e => by subst e; rw [h] at h1; injection h1 with h1; exact ho _ h1⟩
theorem Strm.hold {b : Addr} {o : HO} (S : Strm H st c n) (k : Kept st c H H') (h : H b = some o) (ho : ∀ l, o ≠ .lst l) : H' b = some o :=
  let ⟨n1, n2⟩ := S.far h ho
  k b o n1 n2 h
theorem FoldersAt.kept {C x : Addr} {zs : List Str} {ch : Bool} (h : FoldersAt C H x zs ch) (S : Strm H st c n) (k : Kept st c H H') : FoldersAt C H' x zs ch := by
  obtain ⟨dx, t, pd, h1, h2, h3⟩ := h
  exact ⟨dx, t, pd, S.hold k h1 (fun _ z => nomatch z), S.hold k h2 (fun _ z => nomatch z), S.hold k h3 (fun _ z => nomatch z)⟩
theorem QuestAt.kept {CF CQ q x : Addr} {zs : List Str} {ch : Bool} {wt : List Str → Int} (h : QuestAt CF CQ H q x zs ch wt) (S : Strm H st c n) (k : Kept st c H H') : QuestAt CF CQ H' q x zs ch wt := by
  obtain ⟨dq, td, h1, h2, h3⟩ := h
  exact ⟨dq, td, S.hold k h1 (fun _ z => nomatch z), h2.kept S k, S.hold k h3 (fun _ z => nomatch z)⟩
theorem Ats.kept {α : Type} {g : α → List V} {ws : List V} {xs : List α} (a : Ats H g ws xs) (S : Strm H st c n) (k : Kept st c H H') : Ats H' g ws xs := ⟨a.1, fun i v x h1 h2 => by
  obtain ⟨b, e1, e2⟩ := a.2 i v x h1 h2
  exact ⟨b, e1, S.hold k e2 (fun _ z => nomatch z)⟩⟩
end
theorem far_names {K : PySem.W.Frag} {H : Hp} {st c : Addr} {zs : List Str} (hn : ∀ z ∈ zs, isNameS z = true) : ∀ y ∈ zs.map V.str, Far K H st c y := fun y m => by
  obtain ⟨z, mz, rfl⟩ := List.mem_map.mp m
  have hz := hn z mz
  unfold isNameS at hz
  simp only [Bool.and_eq_true, decide_eq_true_eq] at hz
  exact Far.str (by omega)
/-- a house as the laws draw it: names, whether a chain, the folders, the lots -/
structure HouseAt (C : Addr) (H : Hp) (st c nl x D : Addr) (zs : List Str) (ch : Bool) (ws : List V) : Prop where
  n1 : nl ≠ st
  n2 : nl ≠ c
  d1 : D ≠ st
  d2 : D ≠ c
  dn : D ≠ nl
  nm : H nl = some (.lst (zs.map V.str))
  fo : FoldersAt C H x zs ch
  ld : H D = some (.lst ws)
  at_ : Ats H (fun l : List Str => l.map V.str) ws (lotsFor ch zs)
  pos : 0 < zs.length
  le : zs.length ≤ mostFor ch
  nd : zs.Nodup
  ok : ∀ z ∈ zs, isNameS z = true
theorem HouseAt.same {C : Addr} {H H' : Hp} {st c nl x D : Addr} {zs : List Str} {ch : Bool} {ws : List V} (h : HouseAt C H st c nl x D zs ch ws) (e : Same H H') : HouseAt C H' st c nl x D zs ch ws :=
  ⟨h.n1, h.n2, h.d1, h.d2, h.dn, e _ _ h.nm, h.fo.same e, e _ _ h.ld, h.at_.same e, h.pos, h.le, h.nd, h.ok⟩
theorem HouseAt.kept {C : Addr} {H H' : Hp} {st c nl x D : Addr} {n : Nat} {zs : List Str} {ch : Bool} {ws : List V} (h : HouseAt C H st c nl x D zs ch ws) (S : Strm H st c n) (k : Kept st c H H') : HouseAt C H' st c nl x D zs ch ws :=
  ⟨h.n1, h.n2, h.d1, h.d2, h.dn, k _ _ h.n1 h.n2 h.nm, h.fo.kept S k, k _ _ h.d1 h.d2 h.ld, h.at_.kept S k, h.pos, h.le, h.nd, h.ok⟩
/-- _law_b_house(stream, most) -/
def spHouse (K : PySem.W.Frag) (C : Addr) : Sp := fun vs H Q _ => ∃ (st c : Addr) (n most : Nat), vs = [.ref st, .int (most : Int)] ∧ Strm H st c n ∧ n ≤ 700000 ∧ 1 ≤ most ∧ most ≤ 5 ∧
  ∀ (p nl x D : Addr) (zs : List Str) (ch : Bool) (ws : List V) (H' : Hp), H p = none → H nl = none → H x = none → H D = none → zs.length ≤ most → H' p = some (.tup [.ref nl, .bl ch, .ref x, .ref D]) → HouseAt C H' st c nl x D zs ch ws → Strm H' st c (n + 203) → Kept st c H H' → Q (.ref p) H'
theorem kDictPT {X : Cx} (K : PySem.W.Frag) (hc : X.calm = true) (hu : X.A.units + 64 < cLine) (e : X.K = K := by rfl) : CallR X (.type "dict") (rDictPT K) := e ▸ call_dictPT hc hu
/-- _law_frozen: texts, numbers and the like stay; a list or a tuple of texts becomes a tuple; an empty dict an empty one -/
def spFrz (K : PySem.W.Frag) : Nat → Sp
  | 0 => fun _ _ _ _ => False
  | n + 1 => fun vs H Q _ => ∃ y, vs = [y] ∧ ((∃ k, TyX K H y (.type k) ∧ kitB k "dict" = some false ∧ kitB k "list" = some false ∧ kitB k "tuple" = some false ∧ ∀ H', Same H H' → Q y H') ∨
      (∃ (a : Addr) (ks : List Str), y = .ref a ∧ 1 ≤ n ∧ (H a = some (.lst (ks.map V.str)) ∨ H a = some (.tup (ks.map V.str))) ∧ ks.length ≤ 1000 ∧ ∀ p H', H p = none → Same H H' → H' p = some (.tup (ks.map V.str)) → Q (.ref p) H') ∨
      (∃ a : Addr, y = .ref a ∧ H a = some (.dK []) ∧ ∀ p H', H p = none → Same H H' → H' p = some (.dT []) → Q (.ref p) H'))
/-- [G(lot) for lot in lots] -/
theorem map_ats {K : PySem.W.Frag} {i : Nat} {a : Addr} {ws : List V} {ls : List (List Str)} {g : TG} {te : TE} {vs : List Nat} {σ : L2.St} {H : Hp} {Q : VK} (G : List Str → V) (hv : σ[i]? = some (some (.ref a))) (hS : SqL K H a ws) (at0 : Ats H (fun l : List Str => l.map V.str) ws ls) (hl : ls.length ≤ 100000)
    (hs : ∀ l q H' (R : VK), l ∈ ls → Same H H' → H' q = some (.tup (l.map V.str)) → (∀ H2, Same H' H2 → R (G l) H2) → g (.ref q) (wipe σ vs) H' fun σ2 H2 => wipe σ2 vs = wipe σ vs ∧ te σ2 H2 R)
    (hd : ∀ D H', H D = none → Same H H' → H' D = some (.lst (ls.map G)) → Q (.ref D) H') : tLc (iList K (tVar i)) g tYes te vs σ H Q := by
  refine ⟨_, hv, a, rfl, ⟨ws, hS⟩, fun D nD => lc_it walk_list (Upto H D ls G) (.zero nD) (fun j H' _ u => u.sm.seq hS) ?_ ?_⟩
  · rintro j x H' H2 hj u ⟨rfl, hx⟩
    obtain ⟨l, hlj⟩ : ∃ l, ls[j]? = some l := ⟨_, List.getElem?_eq_getElem (by rw [← at0.1]; exact hj)⟩
    obtain ⟨q, rfl, hq⟩ := at0.2 j x l hx hlj
    exact hs l q H2 (fun y H4 => ∃ acc, H4 D = some (.lst acc) ∧ acc.length < sizeLine ∧ Upto H D ls G (j + 1) (upd H4 D (.lst (acc ++ [y])))) (List.mem_of_getElem? hlj) u.sm (u.sm _ _ hq) fun H3 e3 => u.next nD hlj e3 hl
  · intro H' u
    exact hd D H' nD u.sm (u.all at0.1)
theorem str_ne {a b : Str} (h : ¬ a = b) : decide (V.str a = V.str b) = false := decide_eq_false fun e => h (by injection e)
theorem str_eq (a : Str) : decide (V.str a = V.str a) = true := decide_eq_true rfl
theorem mem_map_any (ks l : List Str) : ((l.map V.str).map fun v => V.bl (inV v (ks.map V.str))) = (l.map fun k => decide (k ∈ ks)).map V.bl := by
  rw [List.map_map, List.map_map]
  refine List.map_congr_left fun k _ => ?_
  show V.bl (inV (.str k) (ks.map V.str)) = V.bl (decide (k ∈ ks))
  rw [inV_strs]
def W6 : Nat → Str
  | 0 => Str.ofString "refers"
  | 1 => Str.ofString "freed"
  | 2 => Str.ofString "shared"
  | 3 => Str.ofString "just"
  | 4 => Str.ofString "sent"
  | _ => Str.ofString "whole"
/-- the law's own words for the same -/
def lawCnt : Nat → List Str → List Str → Bool
  | 0 => fun ks l => l.any fun k => decide (k ∈ ks)
  | 1 => fun ks l => l.all fun k => decide (k ∈ ks)
  | 2 => fun ks l => ks.all fun k => decide (k ∈ l)
  | 3 => fun ks l => decide (l.length = ks.length) && ks.all fun k => decide (k ∈ l)
  | 4 => fun ks l => decide (ks.getD 1 Str.empty ∈ l) && !decide (ks.getD 0 Str.empty ∈ l)
  | _ => fun _ _ => true
def spCounted (K : PySem.W.Frag) : Sp := fun vs H Q _ => ∃ (j : Nat) (a D : Addr) (ks : List Str) (ws : List V) (ls : List (List Str)), vs = [.str (W6 j), .ref a, .ref D] ∧ j < 6 ∧ H a = some (.lst (ks.map V.str)) ∧ ks.length ≤ 1000 ∧ (j = 4 → ks.length = 2) ∧ H D = some (.lst ws) ∧ Ats H (fun l : List Str => l.map V.str) ws ls ∧ ls.length ≤ 2000 ∧ (∀ l ∈ ls, l.length ≤ 1000) ∧
  ∀ R H', H R = none → Same H H' → H' R = some (.lst (ls.map fun l => V.int (if lawCnt j ks l then 1 else 0))) → Q (.ref R) H'
end Bk

namespace Bk
open PySem PySem.Spec PyProof.Rows L2
section
variable {P : Program} {w : World} {K : PySem.W.Frag} {mg : Str → Option Value} {base : Heap}
theorem scHouse : FnScope ["_law_stream", "_law_most", "_law_names_here", "_law_is_chain"] ["_law_stream", "_law_most"] (defScope (topS 68)) := ⟨rfl, rfl, rfl, by decide +kernel, rfl, by decide +kernel, by decide +kernel⟩
theorem ok_house (B : Bi mg) {C CB fF f f1 f2 f3 : Addr} {fdF fd fd1 fd2 fd3 : FuncData} {gk : List Value → List Value → List Value} (T : FolT K mg C fF) (GF : FnOk P w K mg base (L2.CX P w) 3 fF fdF ["self", "names", "chain"] (spFolders K C CB))
    (bK : KBn K fdF ["self", "names", "chain"] 2 ["chain"] gk (fun vs zs => vs ++ zs))
    (c__law_draw : Cal P w K mg base CX0 1 "_law_draw" f1 fd1 ["_law_stream", "_law_many"] spDraw) (c__law_names : Cal P w K mg base CX0 4 "_law_names" f2 fd2 ["_law_stream", "_law_many"] (spNames K)) (c__law_b_lots : Cal P w K mg base CX0 8 "_law_b_lots" f3 fd3 ["_law_names_here", "_law_is_chain"] (spBlots K))
    (F : Fun K "_law_b_house" "_law_b_house" (topS 68) f fd) : FnOk P w K mg base CX0 9 f fd ["_law_stream", "_law_most"] (spHouse K C) := by
  refine F.ok scHouse (fun vs H Q E h => ?_) (fun cdv A outer s H vs Q E hr h => ?_)
  · obtain ⟨st, c, n, most, rfl, _⟩ := h
    rfl
  · obtain ⟨st, c, n, most, rfl, S, hn, m1, m5, q⟩ := h
    have nd := scHouse.nd
    have hu := hu_of hr
    have hr__law_b_lots := hr
    have hr__law_names : Room 4 _ := hr.mono (by decide)
    have hrF := hr__law_names
    have hr__law_draw : Room 1 _ := hr.mono (by decide)
    refine ⟨_, (pss_cons (ps_par (i := 2) (j := 3) rfl nd rfl rfl (by decide) rfl rfl (pa_cons (pe_call c__law_names.ok hr__law_names (by rfl) c__law_names.g c__law_names.kp c__law_names.b .nil pass0 (pa_cons (pv 0) (pa_cons (pe_op op_add pe_int (pe_call c__law_draw.ok hr__law_draw (by rfl) c__law_draw.g c__law_draw.kp c__law_draw.b .nil pass0 (pa_cons (pv 0) (pa_cons (pv 1) pa_nil)))) pa_nil))) (pa_cons (pe_cmpR op_eq (pe_call c__law_draw.ok hr__law_draw (by rfl) c__law_draw.g c__law_draw.kp c__law_draw.b .nil pass0 (pa_cons (pv 0) (pa_cons pe_int pa_nil))) pe_int (nomark _)) pa_nil)) (by rfl))
      (pss_one (ps_ret (pe_tup (pa_cons (pv 2) (pa_cons (pv 3) (pa_cons (pe_makeK T.make GF hrF (by rfl) T.g bK passL (pa_cons (pv 2) pa_nil) (pk_cons (pv 3) pk_nil)) (pa_cons (pe_call c__law_b_lots.ok hr__law_b_lots (by rfl) c__law_b_lots.g c__law_b_lots.kp c__law_b_lots.b .nil pass0 (pa_cons (pv 2) (pa_cons (pv 3) pa_nil))) pa_nil)))))))), ?_⟩
    refine ⟨_, rfl, _, rfl, _, rfl, st, c, n, most, rfl, S, by omega, by omega, by omega, fun d H1 d0 d1 S1 k1 => ⟨_, _, rfl, rfl, ?_⟩⟩
    refine ⟨st, c, n + 1, (1 + d).toNat, by rw [show (((1 + d).toNat : Nat) : Int) = 1 + d by omega]; rfl, S1, by omega, by omega, fun nl zs H2 nnl hl hnd hnm S2 k2 hnl => ?_⟩
    obtain ⟨nl1, nl2⟩ := S1.notfree nnl
    refine ⟨_, rfl, st, c, n + 201, 4, rfl, S2, by omega, by decide, by decide, fun d2 H3 _ _ S3 k3 => ⟨rfl, _, _, rfl, ?_⟩⟩
    have k13 := (k1.trans k2).trans k3
    have hnl3 := k3 _ _ nl1 nl2 hnl
    generalize hch : decide (V.int d2 = V.int 0) = ch
    have lz : zs.length ≤ mostFor ch := by
      have : 5 ≤ mostFor ch := by cases ch <;> decide
      omega
    have zne : zs ≠ [] := fun e => by
      rw [e] at hl
      simp at hl
      omega
    have hw := wrong_ok (most := mostFor ch) zne lz hnm hnd
    have lz5 : (zs.map V.str).length ≤ 100000 := names_small lz
    have Th : Thing K H3 (.ref nl) (some (zs.map V.str)) := (thf_lst hnl3 nl1 nl2 lz5 (far_names hnm)).1
    refine ⟨_, rfl, _, rfl, _, rfl, _, rfl, rfl, rfl, make_fold Th hw fun x H4 nx e4 FA => ?_⟩
    have hnl4 := e4 _ _ hnl3
    refine ⟨_, rfl, _, rfl, nl, zs, ch, rfl, hnl4, lz, fun D ws H5 nD e5 hD at5 => ?_⟩
    have nD3 : H3 D = none := e4.free nD
    obtain ⟨D1, D2⟩ := S3.notfree nD3
    refine ⟨by show 4 ≤ sizeLine; rw [sizeLine_eq]; omega, fun p np => ?_⟩
    have ep := same_upd (o := HO.tup [.ref nl, .bl ch, .ref x, .ref D]) np
    have e35 := Same.trans e4 e5
    have np3 : H3 p = none := e35.free np
    obtain ⟨p1, p2⟩ := S3.notfree np3
    obtain ⟨x1, x2⟩ := S3.notfree nx
    have fr : ∀ {b : Addr}, H3 b = none → b ≠ st → b ≠ c → H b = none := fun h n1 n2 => k13.free h n1 n2
    refine q p nl x D zs ch ws _ (fr np3 p1 p2) (k1.free nnl nl1 nl2) (fr nx x1 x2) (fr nD3 D1 D2) (by rw [hl]; omega) upd_same ⟨nl1, nl2, D1, D2, (ne_of_none hnl4 nD).symm, ep _ _ (e5 _ _ hnl4), (FA.same e5).same ep, ep _ _ hD, at5.same ep, by omega, lz, hnd, hnm⟩ ((S3.same e35).same ep |>.more (by omega)) ?_
    exact k13.trans (Same.kept (Same.trans e35 ep))
end
end Bk

namespace Bk
open PySem PySem.Spec PyProof.Rows L2
section
variable {P : Program} {w : World} {K : PySem.W.Frag} {mg : Str → Option Value} {base : Heap}
theorem scCounted : FnScope ["_law_word", "_law_names_here", "_law_lots", "_law_name_here", "_law_lot"] ["_law_word", "_law_names_here", "_law_lots"] (defScope (topS 72)) := ⟨rfl, rfl, rfl, by decide +kernel, rfl, by decide +kernel, by decide +kernel⟩
theorem ok_counted (B : Bi mg) {f : Addr} {fd : FuncData} (F : Fun K "_law_q_counted" "_law_q_counted" (topS 72) f fd) : FnOk P w K mg base CX0 1 f fd ["_law_word", "_law_names_here", "_law_lots"] (spCounted K) := by
  refine F.ok scCounted (fun vs H Q E h => ?_) (fun cdv A outer s H vs Q E hr h => ?_)
  · obtain ⟨j, a, D, ks, ws, ls, rfl, _⟩ := h
    rfl
  · obtain ⟨j, a, D, ks, ws, ls, rfl, hj, ha, hk, h2, hD, at0, hl, hll, q⟩ := h
    have nd := scCounted.nd
    have hu := hu_of hr
    refine ⟨_, (pss_cons (ps_if (pt_cmpR op_eq (pv 0) pe_str (nomark _)) (pss_one (ps_ret (pe_lc (own := [("_law_lot", 4)]) rfl nd (kPiL K (pv 2)) (blkOk_by (N := ["_law_word", "_law_names_here", "_law_lots", "_law_name_here", "_law_lot"]) (sc := defScope (topS 72)) (by decide +kernel)) (fun _ _ _ _ _ => (pg_name (i := 4) nd rfl (Or.inl rfl))) (fun _ _ _ _ _ => pts_nil) (fun _ _ _ _ _ => (pe_callTy call_int1 (by rfl) B.int (by decide +kernel) (pa_cons (pe_callB (kAny K rfl) (by rfl) B.any (by decide +kernel) (pa_cons (pe_lc (own := [("_law_name_here", 3)]) rfl nd (kPiT K (pv 4)) (blkOk_by (by with_unfolding_all rfl)) (fun _ _ _ _ _ => (pg_name (i := 3) nd rfl (Or.inl rfl))) (fun _ _ _ _ _ => pts_nil) (fun _ _ _ _ _ => (pe_cmpR (kIn K) (pv 3) (pv 1) rfl))) pa_nil)) pa_nil)))))) pss_nil)
      (pss_cons (ps_if (pt_cmpR op_eq (pv 0) pe_str (nomark _)) (pss_one (ps_ret (pe_lc (own := [("_law_lot", 4)]) rfl nd (kPiL K (pv 2)) (blkOk_by (N := ["_law_word", "_law_names_here", "_law_lots", "_law_name_here", "_law_lot"]) (sc := defScope (topS 72)) (by decide +kernel)) (fun _ _ _ _ _ => (pg_name (i := 4) nd rfl (Or.inl rfl))) (fun _ _ _ _ _ => pts_nil) (fun _ _ _ _ _ => (pe_callTy call_int1 (by rfl) B.int (by decide +kernel) (pa_cons (pe_callB (kAll K rfl) (by rfl) B.all (by decide +kernel) (pa_cons (pe_lc (own := [("_law_name_here", 3)]) rfl nd (kPiT K (pv 4)) (blkOk_by (by with_unfolding_all rfl)) (fun _ _ _ _ _ => (pg_name (i := 3) nd rfl (Or.inl rfl))) (fun _ _ _ _ _ => pts_nil) (fun _ _ _ _ _ => (pe_cmpR (kIn K) (pv 3) (pv 1) rfl))) pa_nil)) pa_nil)))))) pss_nil)
      (pss_cons (ps_if (pt_cmpR op_eq (pv 0) pe_str (nomark _)) (pss_one (ps_ret (pe_lc (own := [("_law_lot", 4)]) rfl nd (kPiL K (pv 2)) (blkOk_by (N := ["_law_word", "_law_names_here", "_law_lots", "_law_name_here", "_law_lot"]) (sc := defScope (topS 72)) (by decide +kernel)) (fun _ _ _ _ _ => (pg_name (i := 4) nd rfl (Or.inr rfl))) (fun _ _ _ _ _ => pts_nil) (fun _ _ _ _ _ => (pe_callTy call_int1 (by rfl) B.int (by decide +kernel) (pa_cons (pe_callB (kAll K rfl) (by rfl) B.all (by decide +kernel) (pa_cons (pe_lc (own := [("_law_name_here", 3)]) rfl nd (kPiL K (pv 1)) (blkOk_by (by with_unfolding_all rfl)) (fun _ _ _ _ _ => (pg_name (i := 3) nd rfl (Or.inl rfl))) (fun _ _ _ _ _ => pts_nil) (fun _ _ _ _ _ => (pe_cmpR (kIn K) (pv 3) (pv 4) rfl))) pa_nil)) pa_nil)))))) pss_nil)
      (pss_cons (ps_if (pt_cmpR op_eq (pv 0) pe_str (nomark _)) (pss_one (ps_ret (pe_lc (own := [("_law_lot", 4)]) rfl nd (kPiL K (pv 2)) (blkOk_by (N := ["_law_word", "_law_names_here", "_law_lots", "_law_name_here", "_law_lot"]) (sc := defScope (topS 72)) (by decide +kernel)) (fun _ _ _ _ _ => (pg_name (i := 4) nd rfl (Or.inr rfl))) (fun _ _ _ _ _ => pts_nil) (fun _ _ _ _ _ => (pe_callTy call_int1 (by rfl) B.int (by decide +kernel) (pa_cons (pe_and (pe_cmpR op_eq (pe_callB (kLen K) (by rfl) B.len PySem.boot_len (pa_cons (pv 4) pa_nil)) (pe_callB (kLen K) (by rfl) B.len PySem.boot_len (pa_cons (pv 1) pa_nil)) (nomark _)) (pe_one (pe_callB (kAll K rfl) (by rfl) B.all (by decide +kernel) (pa_cons (pe_lc (own := [("_law_name_here", 3)]) rfl nd (kPiL K (pv 1)) (blkOk_by (by with_unfolding_all rfl)) (fun _ _ _ _ _ => (pg_name (i := 3) nd rfl (Or.inl rfl))) (fun _ _ _ _ _ => pts_nil) (fun _ _ _ _ _ => (pe_cmpR (kIn K) (pv 3) (pv 4) rfl))) pa_nil)))) pa_nil)))))) pss_nil)
      (pss_cons (ps_if (pt_cmpR op_eq (pv 0) pe_str (nomark _)) (pss_one (ps_ret (pe_lc (own := [("_law_lot", 4)]) rfl nd (kPiL K (pv 2)) (blkOk_by (N := ["_law_word", "_law_names_here", "_law_lots", "_law_name_here", "_law_lot"]) (sc := defScope (topS 72)) (by decide +kernel)) (fun _ _ _ _ _ => (pg_name (i := 4) nd rfl (Or.inl rfl))) (fun _ _ _ _ _ => pts_nil) (fun _ _ _ _ _ => (pe_callTy call_int1 (by rfl) B.int (by decide +kernel) (pa_cons (pe_and (pe_cmpR (kIn K) (pe_ix (kIxL K) (pv 1) pe_int (fun _ _ => rfl)) (pv 4) rfl) (pe_one (pe_cmpR (kNotIn K) (pe_ix (kIxL K) (pv 1) pe_int (fun _ _ => rfl)) (pv 4) rfl))) pa_nil)))))) pss_nil)
      (pss_one (ps_ret (pe_lc (own := [("_law_lot", 4)]) rfl nd (kPiL K (pv 2)) (blkOk_by (N := ["_law_word", "_law_names_here", "_law_lots", "_law_name_here", "_law_lot"]) (sc := defScope (topS 72)) (by decide +kernel)) (fun _ _ _ _ _ => (pg_name (i := 4) nd rfl (Or.inl rfl))) (fun _ _ _ _ _ => pts_nil) (fun _ _ _ _ _ => pe_int))))))))), ?_⟩
    have hl' : ls.length ≤ 100000 := by omega
    have hkl : (ks.map V.str).length ≤ 100000 := by rw [List.length_map]; omega
    match j, hj with
    | 0, _ =>
      refine ⟨_, rfl, rfl, _, rfl, ?_⟩
      rw [show decide (V.str (W6 0) = V.str (Str.ofString "refers")) = true from decide_eq_true rfl]
      refine iteT ?_
      refine map_ats (fun l => V.int (if lawCnt 0 ks l then 1 else 0)) (by rfl) (SqL.of hD) at0 hl' (fun l qa H1 R ml e1 hq hR => ⟨rfl, ?_⟩) q
      refine cb1 ?_
      refine cb1 ?_
      refine map_T (fun v => V.bl (inV v (ks.map V.str))) (by rfl) (SqT.of hq) (by rw [List.length_map]; have := hll l ml; omega) (fun v H3 R' mv e3 hR' => ?_) fun D2 H3 nD2 e3 hD2 => ?_
      · obtain ⟨k, _, rfl⟩ := List.mem_map.mp mv
        exact ⟨rfl, _, rfl, _, rfl, a, _, rfl, .inl (SqL.of (e3 _ _ (e1 _ _ ha))), rfl, flat_strs _, hR' H3 (Same.refl _)⟩
      · rw [mem_map_any] at hD2
        refine ⟨D2, _, rfl, SqL.of hD2, .inr ⟨_, rfl, ?_⟩⟩
        rw [any_map]
        exact hR H3 e3
    | 1, _ =>
      refine ⟨_, rfl, rfl, _, rfl, ?_⟩
      rw [str_ne (show ¬ W6 1 = Str.ofString "refers" by decide +kernel)]
      refine iteF ?_
      refine ⟨_, rfl, rfl, _, rfl, ?_⟩
      rw [show decide (V.str (W6 1) = V.str (Str.ofString "freed")) = true from decide_eq_true rfl]
      refine iteT ?_
      refine map_ats (fun l => V.int (if lawCnt 1 ks l then 1 else 0)) (by rfl) (SqL.of hD) at0 hl' (fun l qa H1 R ml e1 hq hR => ⟨rfl, ?_⟩) q
      refine cb1 ?_
      refine cb1 ?_
      refine map_T (fun v => V.bl (inV v (ks.map V.str))) (by rfl) (SqT.of hq) (by rw [List.length_map]; have := hll l ml; omega) (fun v H3 R' mv e3 hR' => ?_) fun D2 H3 nD2 e3 hD2 => ?_
      · obtain ⟨k, _, rfl⟩ := List.mem_map.mp mv
        exact ⟨rfl, _, rfl, _, rfl, a, _, rfl, .inl (SqL.of (e3 _ _ (e1 _ _ ha))), rfl, flat_strs _, hR' H3 (Same.refl _)⟩
      · rw [mem_map_any] at hD2
        refine ⟨D2, _, rfl, SqL.of hD2, .inr ⟨_, rfl, ?_⟩⟩
        rw [all_map]
        exact hR H3 e3
    | 2, _ =>
      refine ⟨_, rfl, rfl, _, rfl, ?_⟩
      rw [str_ne (show ¬ W6 2 = Str.ofString "refers" by decide +kernel)]
      refine iteF ?_
      refine ⟨_, rfl, rfl, _, rfl, ?_⟩
      rw [str_ne (show ¬ W6 2 = Str.ofString "freed" by decide +kernel)]
      refine iteF ?_
      refine ⟨_, rfl, rfl, _, rfl, ?_⟩
      rw [show decide (V.str (W6 2) = V.str (Str.ofString "shared")) = true from decide_eq_true rfl]
      refine iteT ?_
      refine map_ats (fun l => V.int (if lawCnt 2 ks l then 1 else 0)) (by rfl) (SqL.of hD) at0 hl' (fun l qa H1 R ml e1 hq hR => ⟨rfl, ?_⟩) q
      refine cb1 ?_
      refine cb1 ?_
      refine map_L (fun v => V.bl (inV v (l.map V.str))) (by rfl) (SqL.of (e1 _ _ ha)) hkl (fun v H3 R' mv e3 hR' => ?_) fun D2 H3 nD2 e3 hD2 => ?_
      · obtain ⟨k, _, rfl⟩ := List.mem_map.mp mv
        exact ⟨rfl, _, rfl, _, rfl, qa, _, rfl, .inr (SqT.of (e3 _ _ hq)), rfl, flat_strs _, hR' H3 (Same.refl _)⟩
      · rw [mem_map_any] at hD2
        refine ⟨D2, _, rfl, SqL.of hD2, .inr ⟨_, rfl, ?_⟩⟩
        rw [all_map]
        exact hR H3 e3
    | 3, _ =>
      refine ⟨_, rfl, rfl, _, rfl, ?_⟩
      rw [str_ne (show ¬ W6 3 = Str.ofString "refers" by decide +kernel)]
      refine iteF ?_
      refine ⟨_, rfl, rfl, _, rfl, ?_⟩
      rw [str_ne (show ¬ W6 3 = Str.ofString "freed" by decide +kernel)]
      refine iteF ?_
      refine ⟨_, rfl, rfl, _, rfl, ?_⟩
      rw [str_ne (show ¬ W6 3 = Str.ofString "shared" by decide +kernel)]
      refine iteF ?_
      refine ⟨_, rfl, rfl, _, rfl, ?_⟩
      rw [show decide (V.str (W6 3) = V.str (Str.ofString "just")) = true from decide_eq_true rfl]
      refine iteT ?_
      refine map_ats (fun l => V.int (if lawCnt 3 ks l then 1 else 0)) (by rfl) (SqL.of hD) at0 hl' (fun l qa H1 R ml e1 hq hR => ⟨rfl, ?_⟩) q
      refine cb1 ?_
      refine ⟨_, rfl, .ref qa, l.length, rfl, .inr ⟨_, SqT.of hq, by rw [List.length_map]⟩, _, rfl, .ref a, ks.length, rfl, .inl ⟨_, SqL.of (e1 _ _ ha), by rw [List.length_map]⟩, rfl, ?_⟩
      have hR : ∀ H2, Same H1 H2 → R (V.int (if (decide (l.length = ks.length) && ks.all fun k => decide (k ∈ l)) then 1 else 0)) H2 := hR
      by_cases hlen : l.length = ks.length
      · rw [decide_eq_true hlen] at hR
        rw [hlen, decide_eq_true rfl]
        refine ⟨_, rfl, ?_⟩
        refine iteT ?_
        refine cb1 ?_
        refine map_L (fun v => V.bl (inV v (l.map V.str))) (by rfl) (SqL.of (e1 _ _ ha)) hkl (fun v H3 R' mv e3 hR' => ?_) fun D2 H3 nD2 e3 hD2 => ?_
        · obtain ⟨k, _, rfl⟩ := List.mem_map.mp mv
          exact ⟨rfl, _, rfl, _, rfl, qa, _, rfl, .inr (SqT.of (e3 _ _ hq)), rfl, flat_strs _, hR' H3 (Same.refl _)⟩
        · rw [mem_map_any] at hD2
          refine ⟨D2, _, rfl, SqL.of hD2, .inr ⟨_, rfl, ?_⟩⟩
          rw [all_map]
          exact hR H3 e3
      · rw [decide_eq_false hlen] at hR
        rw [decide_eq_false (fun z => hlen (by injection z with z; omega))]
        refine ⟨_, rfl, ?_⟩
        refine iteF ?_
        exact .inr ⟨_, rfl, hR H1 (Same.refl _)⟩
    | 4, _ =>
      refine ⟨_, rfl, rfl, _, rfl, ?_⟩
      rw [str_ne (show ¬ W6 4 = Str.ofString "refers" by decide +kernel)]
      refine iteF ?_
      refine ⟨_, rfl, rfl, _, rfl, ?_⟩
      rw [str_ne (show ¬ W6 4 = Str.ofString "freed" by decide +kernel)]
      refine iteF ?_
      refine ⟨_, rfl, rfl, _, rfl, ?_⟩
      rw [str_ne (show ¬ W6 4 = Str.ofString "shared" by decide +kernel)]
      refine iteF ?_
      refine ⟨_, rfl, rfl, _, rfl, ?_⟩
      rw [str_ne (show ¬ W6 4 = Str.ofString "just" by decide +kernel)]
      refine iteF ?_
      refine ⟨_, rfl, rfl, _, rfl, ?_⟩
      rw [show decide (V.str (W6 4) = V.str (Str.ofString "sent")) = true from decide_eq_true rfl]
      refine iteT ?_
      refine map_ats (fun l => V.int (if lawCnt 4 ks l then 1 else 0)) (by rfl) (SqL.of hD) at0 hl' (fun l qa H1 R ml e1 hq hR => ⟨rfl, ?_⟩) q
      obtain ⟨k0, k1, rfl⟩ : ∃ k0 k1, ks = [k0, k1] := by
        match ks, h2 rfl with
        | [k0, k1], _ => exact ⟨k0, k1, rfl⟩
      have hR : ∀ H2, Same H1 H2 → R (V.int (if (decide (k1 ∈ l) && !decide (k0 ∈ l)) then 1 else 0)) H2 := hR
      have ha1 := e1 _ _ ha
      refine cb1 ?_
      refine ⟨_, rfl, a, _, 1, .str k1, rfl, rfl, SqL.of ha1, atI_nat (j := 1) rfl, _, rfl, qa, _, rfl, .inr (SqT.of hq), rfl, flat_strs _, ?_⟩
      rw [inV_str]
      by_cases h1 : k1 ∈ l
      · rw [decide_eq_true h1] at hR ⊢
        refine ⟨_, rfl, ?_⟩
        refine iteT ?_
        refine ⟨_, rfl, a, _, 0, .str k0, rfl, rfl, SqL.of ha1, atI_nat (j := 0) rfl, _, rfl, qa, _, rfl, .inr (SqT.of hq), rfl, flat_strs _, ?_⟩
        rw [inV_str]
        exact .inr ⟨_, rfl, hR H1 (Same.refl _)⟩
      · rw [decide_eq_false h1] at hR ⊢
        refine ⟨_, rfl, ?_⟩
        refine iteF ?_
        exact .inr ⟨_, rfl, hR H1 (Same.refl _)⟩
    | 5, _ =>
      refine ⟨_, rfl, rfl, _, rfl, ?_⟩
      rw [str_ne (show ¬ W6 5 = Str.ofString "refers" by decide +kernel)]
      refine iteF ?_
      refine ⟨_, rfl, rfl, _, rfl, ?_⟩
      rw [str_ne (show ¬ W6 5 = Str.ofString "freed" by decide +kernel)]
      refine iteF ?_
      refine ⟨_, rfl, rfl, _, rfl, ?_⟩
      rw [str_ne (show ¬ W6 5 = Str.ofString "shared" by decide +kernel)]
      refine iteF ?_
      refine ⟨_, rfl, rfl, _, rfl, ?_⟩
      rw [str_ne (show ¬ W6 5 = Str.ofString "just" by decide +kernel)]
      refine iteF ?_
      refine ⟨_, rfl, rfl, _, rfl, ?_⟩
      rw [str_ne (show ¬ W6 5 = Str.ofString "sent" by decide +kernel)]
      refine iteF ?_
      refine map_ats (fun l => V.int (if lawCnt 5 ks l then 1 else 0)) (by rfl) (SqL.of hD) at0 hl' (fun l qa H1 R ml e1 hq hR => ⟨rfl, ?_⟩) q
      exact hR H1 (Same.refl _)
end
end Bk

namespace Bk
open PySem PySem.Spec PyProof.Rows L2
def progCnt : Nat → Cnt
  | 0 => cRefers
  | 1 => cFreed
  | 2 => cShared
  | 3 => cJust
  | 4 => cSent
  | _ => fun _ _ _ => true
def spMade (K : PySem.W.Frag) (C CQ CN : Addr) : Sp := fun vs H Q E => ∃ (j : Nat) (x a : Addr) (xs : List V) (zs : List Str) (ch : Bool), vs = [.str (W6 j), .ref x, .ref a] ∧ j < 6 ∧ FoldersAt C H x zs ch ∧ zs.Nodup ∧ zs.length ≤ mostFor ch ∧ (∀ z ∈ zs, isNameS z = true) ∧ Sqs K H (.ref a) true ∧ (SqL K H a xs ∨ SqT K H a xs) ∧ (∀ v ∈ xs, Ask H v) ∧ xs.length ≤ 1000 ∧ (j = 4 → xs.length = 2) ∧
  (∀ v d H', j ≠ 5 → firstNot zs xs = some v → ExcAt H d "name" v H' → E (.ref CN) (some d) H') ∧ ∀ ks q H', (j ≠ 5 → xs = ks.map V.str ∧ ∀ k ∈ ks, k ∈ zs) → H q = none → Same H H' → QuestAt C CQ H' q x zs ch (cntF (progCnt j) ch zs ks) → Q (.ref q) H'
theorem cnt_whole (ch : Bool) (zs ks : List Str) : cntF (fun _ _ _ => true) ch zs ks = cnt (lotsFor ch zs) := by
  unfold cntF
  rw [List.filter_eq_self.mpr fun _ _ => rfl]
section
variable {P : Program} {w : World} {K : PySem.W.Frag} {mg : Str → Option Value} {base : Heap}
theorem scMade : FnScope ["_law_word", "_law_house", "_law_names_here"] ["_law_word", "_law_house", "_law_names_here"] (defScope (topS 73)) := ⟨rfl, rfl, rfl, by decide +kernel, rfl, by decide +kernel, by decide +kernel⟩
theorem ok_made (B : Bi mg) {C CQ CN f1 f2 f3 f4 f5 f6 f : Addr} {fd1 fd2 fd3 fd4 fd5 fd6 fd : FuncData}
    (c_refers : Cal P w K mg base (L2N.CX P w) 7 "refers" f1 fd1 ["folders", "names"] (spFn K C CQ CN cRefers))
    (c_freed : Cal P w K mg base (L2N.CX P w) 7 "freed" f2 fd2 ["folders", "names"] (spFn K C CQ CN cFreed))
    (c_shared : Cal P w K mg base (L2N.CX P w) 7 "shared" f3 fd3 ["folders", "names"] (spFn K C CQ CN cShared))
    (c_just : Cal P w K mg base (L2N.CX P w) 7 "just" f4 fd4 ["folders", "names"] (spFn K C CQ CN cJust))
    (c_sent : Cal P w K mg base (L2N.CX P w) 7 "sent" f5 fd5 ["folders", "one", "other"] (spSent K C CQ CN)) (c_whole : Cal P w K mg base CX0 7 "whole" f6 fd6 ["folders"] (spWhole C CQ))
    (F : Fun K "_law_q_made" "_law_q_made" (topS 73) f fd) : FnOk P w K mg base (L2N.CX P w) 8 f fd ["_law_word", "_law_house", "_law_names_here"] (spMade K C CQ CN) := by
  refine Fun.okN F scMade (fun vs H Q E h => ?_) (fun cdv A outer s H vs Q E hr h => ?_)
  · obtain ⟨j, x, a, xs, zs, ch, rfl, _⟩ := h
    rfl
  · obtain ⟨j, x, a, xs, zs, ch, rfl, hj, FA, nz, lz, nm, b, hS, hA, lx, h2, kE, kQ⟩ := h
    have nd := scMade.nd
    have hu := hu_of hr
    have hr_whole := hr
    refine ⟨_, (pss_cons (ps_if (pt_cmpR op_eq (pv 0) pe_str (nomark _)) (pss_one (ps_ret (pe_call c_refers.ok hr (by rfl) c_refers.g c_refers.kp c_refers.b .nil (L2N.passes_call (L2N.takes_of rfl rfl rfl rfl) (fun _ _ _ _ h => h)) (pa_cons (pv 1) (pa_cons (pv 2) pa_nil))))) pss_nil)
      (pss_cons (ps_if (pt_cmpR op_eq (pv 0) pe_str (nomark _)) (pss_one (ps_ret (pe_call c_freed.ok hr (by rfl) c_freed.g c_freed.kp c_freed.b .nil (L2N.passes_call (L2N.takes_of rfl rfl rfl rfl) (fun _ _ _ _ h => h)) (pa_cons (pv 1) (pa_cons (pv 2) pa_nil))))) pss_nil)
      (pss_cons (ps_if (pt_cmpR op_eq (pv 0) pe_str (nomark _)) (pss_one (ps_ret (pe_call c_shared.ok hr (by rfl) c_shared.g c_shared.kp c_shared.b .nil (L2N.passes_call (L2N.takes_of rfl rfl rfl rfl) (fun _ _ _ _ h => h)) (pa_cons (pv 1) (pa_cons (pv 2) pa_nil))))) pss_nil)
      (pss_cons (ps_if (pt_cmpR op_eq (pv 0) pe_str (nomark _)) (pss_one (ps_ret (pe_call c_just.ok hr (by rfl) c_just.g c_just.kp c_just.b .nil (L2N.passes_call (L2N.takes_of rfl rfl rfl rfl) (fun _ _ _ _ h => h)) (pa_cons (pv 1) (pa_cons (pv 2) pa_nil))))) pss_nil)
      (pss_one (ps_ret (pe_ifExp (pt_cmpR op_eq (pv 0) pe_str (nomark _)) (pe_call c_sent.ok hr (by rfl) c_sent.g c_sent.kp c_sent.b .nil (L2N.passes_call (L2N.takes_of rfl rfl rfl rfl) (fun _ _ _ _ h => h)) (pa_cons (pv 1) (pa_cons (pe_ix (kIx K) (pv 2) pe_int (fun _ _ => rfl)) (pa_cons (pe_ix (kIx K) (pv 2) pe_int (fun _ _ => rfl)) pa_nil)))) (pe_call c_whole.ok hr_whole (by rfl) c_whole.g c_whole.kp c_whole.b .nil pass0 (pa_cons (pv 1) pa_nil))))))))), ?_⟩
    match j, hj with
    | 0, _ =>
      refine ⟨_, rfl, rfl, _, rfl, ?_⟩
      rw [show decide (V.str (W6 0) = V.str (Str.ofString "refers")) = true from decide_eq_true rfl]
      refine iteT ?_
      exact ⟨_, rfl, _, rfl, x, a, xs, zs, ch, rfl, FA, nz, lz, nm, b, hS, hA, lx, fun v d H' hv h => kE v d H' (by decide) hv h, fun ks q H' e hk nq e1 QA => kQ ks q H' (fun _ => ⟨e, hk⟩) nq e1 QA⟩
    | 1, _ =>
      refine ⟨_, rfl, rfl, _, rfl, ?_⟩
      rw [str_ne (show ¬ W6 1 = Str.ofString "refers" by decide +kernel)]
      refine iteF ?_
      refine ⟨_, rfl, rfl, _, rfl, ?_⟩
      rw [show decide (V.str (W6 1) = V.str (Str.ofString "freed")) = true from decide_eq_true rfl]
      refine iteT ?_
      exact ⟨_, rfl, _, rfl, x, a, xs, zs, ch, rfl, FA, nz, lz, nm, b, hS, hA, lx, fun v d H' hv h => kE v d H' (by decide) hv h, fun ks q H' e hk nq e1 QA => kQ ks q H' (fun _ => ⟨e, hk⟩) nq e1 QA⟩
    | 2, _ =>
      refine ⟨_, rfl, rfl, _, rfl, ?_⟩
      rw [str_ne (show ¬ W6 2 = Str.ofString "refers" by decide +kernel)]
      refine iteF ?_
      refine ⟨_, rfl, rfl, _, rfl, ?_⟩
      rw [str_ne (show ¬ W6 2 = Str.ofString "freed" by decide +kernel)]
      refine iteF ?_
      refine ⟨_, rfl, rfl, _, rfl, ?_⟩
      rw [show decide (V.str (W6 2) = V.str (Str.ofString "shared")) = true from decide_eq_true rfl]
      refine iteT ?_
      exact ⟨_, rfl, _, rfl, x, a, xs, zs, ch, rfl, FA, nz, lz, nm, b, hS, hA, lx, fun v d H' hv h => kE v d H' (by decide) hv h, fun ks q H' e hk nq e1 QA => kQ ks q H' (fun _ => ⟨e, hk⟩) nq e1 QA⟩
    | 3, _ =>
      refine ⟨_, rfl, rfl, _, rfl, ?_⟩
      rw [str_ne (show ¬ W6 3 = Str.ofString "refers" by decide +kernel)]
      refine iteF ?_
      refine ⟨_, rfl, rfl, _, rfl, ?_⟩
      rw [str_ne (show ¬ W6 3 = Str.ofString "freed" by decide +kernel)]
      refine iteF ?_
      refine ⟨_, rfl, rfl, _, rfl, ?_⟩
      rw [str_ne (show ¬ W6 3 = Str.ofString "shared" by decide +kernel)]
      refine iteF ?_
      refine ⟨_, rfl, rfl, _, rfl, ?_⟩
      rw [show decide (V.str (W6 3) = V.str (Str.ofString "just")) = true from decide_eq_true rfl]
      refine iteT ?_
      exact ⟨_, rfl, _, rfl, x, a, xs, zs, ch, rfl, FA, nz, lz, nm, b, hS, hA, lx, fun v d H' hv h => kE v d H' (by decide) hv h, fun ks q H' e hk nq e1 QA => kQ ks q H' (fun _ => ⟨e, hk⟩) nq e1 QA⟩
    | 4, _ =>
      refine ⟨_, rfl, rfl, _, rfl, ?_⟩
      rw [str_ne (show ¬ W6 4 = Str.ofString "refers" by decide +kernel)]
      refine iteF ?_
      refine ⟨_, rfl, rfl, _, rfl, ?_⟩
      rw [str_ne (show ¬ W6 4 = Str.ofString "freed" by decide +kernel)]
      refine iteF ?_
      refine ⟨_, rfl, rfl, _, rfl, ?_⟩
      rw [str_ne (show ¬ W6 4 = Str.ofString "shared" by decide +kernel)]
      refine iteF ?_
      refine ⟨_, rfl, rfl, _, rfl, ?_⟩
      rw [str_ne (show ¬ W6 4 = Str.ofString "just" by decide +kernel)]
      refine iteF ?_
      refine ⟨_, rfl, rfl, _, rfl, ?_⟩
      rw [show decide (V.str (W6 4) = V.str (Str.ofString "sent")) = true from decide_eq_true rfl]
      refine iteT ?_
      obtain ⟨y1, y2, rfl⟩ : ∃ y1 y2, xs = [y1, y2] := by
        match xs, h2 rfl with
        | [y1, y2], _ => exact ⟨y1, y2, rfl⟩
      have ix : ∀ (k : Nat) (v : V) (R : VK), [y1, y2][k]? = some v → R v H → rIx K (.ref a) (.int (k : Int)) H R := fun k v R hk r => by
        rcases hS with h | h
        · exact .inl ⟨a, _, _, v, rfl, rfl, h, atI_nat hk, r⟩
        · exact .inr (.inl ⟨a, _, _, v, rfl, rfl, h, atI_nat hk, r⟩)
      refine ⟨_, rfl, _, rfl, ix 0 y1 _ rfl ?_⟩
      refine ⟨_, rfl, ix 1 y2 _ rfl ?_⟩
      exact ⟨x, y1, y2, zs, ch, rfl, FA, nz, lz, nm, hA y1 List.mem_cons_self, hA y2 (List.mem_cons_of_mem _ List.mem_cons_self), fun v d H' hv h => kE v d H' (by decide) hv h, fun k1 k2 q H' e1 e2 h1 h2 nq e QA => kQ [k1, k2] q H' (fun _ => ⟨by rw [e1, e2]; rfl, fun k m => by
        rcases List.mem_cons.mp m with rfl | m
        · exact h1
        · rw [List.mem_singleton.mp m]; exact h2⟩) nq e QA⟩
    | 5, _ =>
      refine ⟨_, rfl, rfl, _, rfl, ?_⟩
      rw [str_ne (show ¬ W6 5 = Str.ofString "refers" by decide +kernel)]
      refine iteF ?_
      refine ⟨_, rfl, rfl, _, rfl, ?_⟩
      rw [str_ne (show ¬ W6 5 = Str.ofString "freed" by decide +kernel)]
      refine iteF ?_
      refine ⟨_, rfl, rfl, _, rfl, ?_⟩
      rw [str_ne (show ¬ W6 5 = Str.ofString "shared" by decide +kernel)]
      refine iteF ?_
      refine ⟨_, rfl, rfl, _, rfl, ?_⟩
      rw [str_ne (show ¬ W6 5 = Str.ofString "just" by decide +kernel)]
      refine iteF ?_
      refine ⟨_, rfl, rfl, _, rfl, ?_⟩
      rw [str_ne (show ¬ W6 5 = Str.ofString "sent" by decide +kernel)]
      refine iteF ?_
      exact ⟨_, rfl, x, zs, ch, rfl, FA, nz, lz, fun q H' nq e QA => kQ [] q H' (fun z => absurd rfl z) nq e (by rw [show progCnt 5 = fun _ _ _ => true from rfl, cnt_whole]; exact QA)⟩
end
end Bk

namespace Bk
open PySem PySem.Spec PyProof.Rows L2
theorem passLN {X : Cx} : Passes (L2N.CX X.prog X.w) X E0 := fun _ _ _ _ _ _ _ h => by
  obtain ⟨_, _, _, _, _, _, _, _, _, _, _, _, z⟩ := h
  exact z.elim
/-- the names of zs that stand in ks -/
def unlike (zs ks : List Str) : List Str := zs.filter fun n => decide (n ∈ ks)
theorem mem_unlike {zs ks : List Str} {n : Str} : n ∈ unlike zs ks ↔ n ∈ zs ∧ n ∈ ks := by
  unfold unlike
  rw [List.mem_filter, decide_eq_true_iff]
/-- what the law hands its own count -/
def lawArg (j : Nat) (zs ks : List Str) : List Str := if j = 4 then ks else unlike zs ks
theorem bool_iff {a b : Bool} (h : a = true ↔ b = true) : a = b := by cases a <;> cases b <;> simp_all
/-- the law counts what the functions count -/
theorem law_prog {j : Nat} {ch : Bool} {zs ks l : List Str} (hj : j < 6) (nz : zs.Nodup) (lz : zs.length ≤ mostFor ch) (sub : ∀ k ∈ ks, k ∈ zs) (m : l ∈ lotsFor ch zs) : lawCnt j (lawArg j zs ks) l = progCnt j zs ks l := by
  have ls := lots_sub lz m
  match j, hj with
  | 0, _ =>
    refine bool_iff ?_
    show (l.any fun k => decide (k ∈ unlike zs ks)) = true ↔ (ks.any fun k => decide (k ∈ l)) = true
    rw [List.any_eq_true, List.any_eq_true]
    constructor
    · rintro ⟨k, h1, h2⟩
      exact ⟨k, (mem_unlike.mp (of_decide_eq_true h2)).2, decide_eq_true h1⟩
    · rintro ⟨k, h1, h2⟩
      exact ⟨k, of_decide_eq_true h2, decide_eq_true (mem_unlike.mpr ⟨sub k h1, h1⟩)⟩
  | 1, _ =>
    refine bool_iff ?_
    show (l.all fun k => decide (k ∈ unlike zs ks)) = true ↔ (l.all fun k => decide (k ∈ ks)) = true
    rw [List.all_eq_true, List.all_eq_true]
    constructor
    · exact fun h k hk => decide_eq_true (mem_unlike.mp (of_decide_eq_true (h k hk))).2
    · exact fun h k hk => decide_eq_true (mem_unlike.mpr ⟨ls.subset hk, of_decide_eq_true (h k hk)⟩)
  | 2, _ =>
    refine bool_iff ?_
    show ((unlike zs ks).all fun k => decide (k ∈ l)) = true ↔ (ks.all fun k => decide (k ∈ l)) = true
    rw [List.all_eq_true, List.all_eq_true]
    constructor
    · exact fun h k hk => h k (mem_unlike.mpr ⟨sub k hk, hk⟩)
    · exact fun h k hk => h k (mem_unlike.mp hk).2
  | 3, _ =>
    refine bool_iff ?_
    show (decide (l.length = (unlike zs ks).length) && (unlike zs ks).all fun k => decide (k ∈ l)) = true ↔ decide (l = zs.filter fun n => decide (n ∈ ks)) = true
    rw [Bool.and_eq_true, decide_eq_true_iff, List.all_eq_true, decide_eq_true_iff]
    constructor
    · rintro ⟨h1, h2⟩
      have nu : (unlike zs ks).Nodup := nz.filter _
      have back : ∀ k ∈ l, k ∈ unlike zs ks := fun k hk => by
        by_cases z : k ∈ unlike zs ks
        · exact z
        · exfalso
          have p := pigeon (unlike zs ks) (l.erase k) nu fun x hx => (List.mem_erase_of_ne (fun (e : x = k) => z (e ▸ hx))).mpr (of_decide_eq_true (h2 x hx))
          rw [List.length_erase_of_mem hk] at p
          have := List.length_pos_of_mem hk
          omega
      rw [← lotS_sub ls nz]
      unfold lotS
      refine List.filter_congr fun n hn => ?_
      refine bool_iff ?_
      rw [decide_eq_true_iff, decide_eq_true_iff]
      exact ⟨fun h => (mem_unlike.mp (back n h)).2, fun h => of_decide_eq_true (h2 n (mem_unlike.mpr ⟨hn, h⟩))⟩
    · intro h
      have h : l = unlike zs ks := h
      exact ⟨by rw [h], fun k hk => decide_eq_true (by rw [h]; exact hk)⟩
  | 4, _ => rfl
  | 5, _ => rfl
theorem eqv_strsL (a b : List Str) : PyData.eqv (.list (a.map PyData.str)) (.list (b.map PyData.str)) = decide (a = b) := by
  simp [PyData.eqv, eqvAll_strs]
theorem shaped_strsL (l : List Str) (h : ∀ z ∈ l, isNameS z = true) : SeqAt.shaped (.list (l.map PyData.str)) = true := by
  have := shaped_strs l h
  simp only [SeqAt.shaped, PyData.canLay0, PyData.depth] at this ⊢
  exact this
theorem sent_at {j : Nat} (h : j < 6) : decide (V.str (W6 j) = V.str (Str.ofString "sent")) = decide (j = 4) := by
  match j, h with
  | 0, _ => exact str_ne (show ¬ W6 0 = Str.ofString "sent" by decide +kernel)
  | 1, _ => exact str_ne (show ¬ W6 1 = Str.ofString "sent" by decide +kernel)
  | 2, _ => exact str_ne (show ¬ W6 2 = Str.ofString "sent" by decide +kernel)
  | 3, _ => exact str_ne (show ¬ W6 3 = Str.ofString "sent" by decide +kernel)
  | 4, _ => exact decide_eq_true rfl
  | 5, _ => exact str_ne (show ¬ W6 5 = Str.ofString "sent" by decide +kernel)
theorem QuestAt.congr {CF CQ : Addr} {H : Hp} {q x : Addr} {zs : List Str} {ch : Bool} {wt wt' : List Str → Int} (h : QuestAt CF CQ H q x zs ch wt) (e : ∀ l ∈ lotsFor ch zs, wt l = wt' l) : QuestAt CF CQ H q x zs ch wt' := by
  obtain ⟨dq, td, h1, h2, h3⟩ := h
  exact ⟨dq, td, h1, h2, by rw [← tableOf_congr e]; exact h3⟩
theorem perm_strs {ys : List V} {ks : List Str} (h : ys.Perm (ks.map V.str)) : ∃ zs : List Str, ys = zs.map V.str ∧ zs.Perm ks := by
  have all : ∀ y ∈ ys, ∃ k, y = V.str k := fun y m => by
    obtain ⟨k, _, rfl⟩ := List.mem_map.mp (h.mem_iff.mp m)
    exact ⟨k, rfl⟩
  have e : (ys.map fun v => match v with | V.str k => k | _ => Str.empty).map V.str = ys := by
    rw [List.map_map]
    conv => rhs; rw [← List.map_id ys]
    refine List.map_congr_left fun y m => ?_
    obtain ⟨k, rfl⟩ := all y m
    rfl
  refine ⟨_, e.symm, ?_⟩
  have p := h.map fun v => match v with | V.str k => k | _ => Str.empty
  rw [List.map_map] at p
  have e2 : ks.map ((fun v => match v with | V.str k => k | _ => Str.empty) ∘ V.str) = ks := by
    conv => rhs; rw [← List.map_id ks]
    exact List.map_congr_left fun k _ => rfl
  rw [e2] at p
  exact p
theorem lawArg_of {j : Nat} {zs ks ks' : List Str} (nz : zs.Nodup) (h4 : j = 4 → ks' = ks) (hp : ks'.Perm ks) (hs : j ≠ 4 → ks.Sublist zs) : lawArg j zs ks' = ks := by
  unfold lawArg
  by_cases c : j = 4
  · rw [if_pos c, h4 c]
  · rw [if_neg c]
    refine Eq.trans (List.filter_congr fun n _ => ?_) (lotS_sub (hs c) nz)
    exact bool_iff (by rw [decide_eq_true_iff, decide_eq_true_iff]; exact hp.mem_iff)
theorem set_at {σ : L2.St} {i : Nat} {v : V} (h : i < σ.length) : (σ.set i (some v))[i]? = some (some v) := by simp [h]
def named8 : List V := [.str (W6 0), .str (W6 0), .str (W6 1), .str (W6 1), .str (W6 2), .str (W6 3), .str (W6 4), .str (W6 5)]
/-- _law_q_named(stream, house, names, lots) -/
def spNamed (K : PySem.W.Frag) (C CQ : Addr) : Sp := fun vs H Q _ => ∃ (st c x nl D : Addr) (n : Nat) (zs : List Str) (ch : Bool) (ws : List V), vs = [.ref st, .ref x, .ref nl, .ref D] ∧ HouseAt C H st c nl x D zs ch ws ∧ Strm H st c n ∧ n ≤ 800000 ∧
  ∀ (p q r : Addr) (f : List Str → Int) (H' : Hp), H p = none → H q = none → H r = none → H' p = some (.tup [.ref q, .ref r]) → QuestAt C CQ H' q x zs ch f → H' r = some (.lst ((lotsFor ch zs).map fun l => V.int (f l))) → (∀ l, -1 ≤ f l ∧ f l ≤ 1) → Strm H' st c (n + 30) → Kept st c H H' → Q (.ref p) H'
section
variable {P : Program} {w : World} {K : PySem.W.Frag} {mg : Str → Option Value} {base : Heap}
theorem scNamed : FnScope ["_law_stream", "_law_house", "_law_names_here", "_law_lots", "_law_word", "_law_some", "_law_name_here", "_law_asked"] ["_law_stream", "_law_house", "_law_names_here", "_law_lots"] (defScope (topS 74)) := ⟨rfl, rfl, rfl, by decide +kernel, rfl, by decide +kernel, by decide +kernel⟩
theorem ok_named (B : Bi mg) {C CQ CN f f1 f2 f3 f4 f5 : Addr} {fd fd1 fd2 fd3 fd4 fd5 : FuncData} (c__law_draw : Cal P w K mg base CX0 1 "_law_draw" f1 fd1 ["_law_stream", "_law_many"] spDraw) (c__law_pick : Cal P w K mg base CX0 2 "_law_pick" f2 fd2 ["_law_stream", "_law_some"] (spPick K)) (c__law_mixed : Cal P w K mg base CX0 2 "_law_mixed" f3 fd3 ["_law_stream", "_law_some"] (spMixed K))
    (c__law_q_made : Cal P w K mg base (L2N.CX P w) 8 "_law_q_made" f4 fd4 ["_law_word", "_law_house", "_law_names_here"] (spMade K C CQ CN)) (c__law_q_counted : Cal P w K mg base CX0 1 "_law_q_counted" f5 fd5 ["_law_word", "_law_names_here", "_law_lots"] (spCounted K))
    (F : Fun K "_law_q_named" "_law_q_named" (topS 74) f fd) : FnOk P w K mg base CX0 9 f fd ["_law_stream", "_law_house", "_law_names_here", "_law_lots"] (spNamed K C CQ) := by
  refine F.ok scNamed (fun vs H Q E h => ?_) (fun cdv A outer s H vs Q E hr h => ?_)
  · obtain ⟨st, c, x, nl, D, n, zs, ch, ws, rfl, _⟩ := h
    rfl
  · obtain ⟨st, c, x, nl, D, n, zs, ch, ws, rfl, HA, S, hn, q⟩ := h
    have nd := scNamed.nd
    have hu := hu_of hr
    have hr__law_q_made := hr
    have hr__law_pick : Room 2 _ := hr.mono (by decide)
    have hr__law_mixed := hr__law_pick
    have hr__law_draw : Room 1 _ := hr.mono (by decide)
    have hr__law_q_counted := hr__law_draw
    refine ⟨_, (Evl.pss_cut (ps_set (i := 4) nd rfl (Or.inl rfl) (pe_call c__law_pick.ok hr__law_pick (by rfl) c__law_pick.g c__law_pick.kp c__law_pick.b .nil pass0 (pa_cons (pv 0) (pa_cons (pe_lst (pa_cons pe_str (pa_cons pe_str (pa_cons pe_str (pa_cons pe_str (pa_cons pe_str (pa_cons pe_str (pa_cons pe_str (pa_cons pe_str pa_nil))))))))) pa_nil))))
      (Evl.pss_cut (ps_setLc (i := 5) (own := [("_law_name_here", 6)]) rfl nd rfl rfl (sw_true rfl rfl rfl (by decide +kernel)) (kPiL K (pv 2)) (blkOk_by (N := ["_law_stream", "_law_house", "_law_names_here", "_law_lots", "_law_word", "_law_some", "_law_name_here", "_law_asked"]) (sc := defScope (topS 74)) (by decide +kernel)) (fun _ _ _ _ _ => (pg_name (i := 6) nd rfl (Or.inl rfl))) (fun _ _ _ _ _ => (pts_one (pt_cmpR op_eq (pe_call c__law_draw.ok hr__law_draw (by rfl) c__law_draw.g c__law_draw.kp c__law_draw.b .nil pass0 (pa_cons (pv 0) (pa_cons pe_int pa_nil))) pe_int (nomark _)))) (fun _ _ _ _ _ => (pv 6)))
      (Evl.pss_cut (ps_if (PW.pt (pw_and (pt_cmpR (kIn K) (pv 4) (pe_tup (pa_cons pe_str (pa_cons pe_str pa_nil))) rfl) (pw_and1 (pt_cmpR (kEqD K hr.units) (pv 5) (pe_lst pa_nil) (nomark _))))) (pss_one (ps_set (i := 5) nd rfl (Or.inl rfl) (pe_lst (pa_cons (pe_call c__law_pick.ok hr__law_pick (by rfl) c__law_pick.g c__law_pick.kp c__law_pick.b .nil pass0 (pa_cons (pv 0) (pa_cons (pv 2) pa_nil))) pa_nil)))) pss_nil)
      (Evl.pss_cut (ps_if (pt_cmpR op_eq (pv 4) pe_str (nomark _)) (pss_one (ps_set (i := 5) nd rfl (Or.inl rfl) (pe_lst (pa_cons (pe_call c__law_pick.ok hr__law_pick (by rfl) c__law_pick.g c__law_pick.kp c__law_pick.b .nil pass0 (pa_cons (pv 0) (pa_cons (pv 2) pa_nil))) (pa_cons (pe_call c__law_pick.ok hr__law_pick (by rfl) c__law_pick.g c__law_pick.kp c__law_pick.b .nil pass0 (pa_cons (pv 0) (pa_cons (pv 2) pa_nil))) pa_nil))))) pss_nil)
      (Evl.pss_cut (ps_set (i := 7) nd rfl (Or.inl rfl) (pe_ifExp (pt_cmpR op_eq (pv 4) pe_str (nomark _)) (pv 5) (pe_call c__law_mixed.ok hr__law_mixed (by rfl) c__law_mixed.g c__law_mixed.kp c__law_mixed.b .nil pass0 (pa_cons (pv 0) (pa_cons (pv 5) pa_nil)))))
      (pss_one (ps_ret (pe_tup (pa_cons (pe_call c__law_q_made.ok hr__law_q_made (by rfl) c__law_q_made.g c__law_q_made.kp c__law_q_made.b .nil passLN (pa_cons (pv 4) (pa_cons (pv 1) (pa_cons (pv 7) pa_nil)))) (pa_cons (pe_call c__law_q_counted.ok hr__law_q_counted (by rfl) c__law_q_counted.g c__law_q_counted.kp c__law_q_counted.b .nil pass0 (pa_cons (pv 4) (pa_cons (pv 5) (pa_cons (pv 3) pa_nil)))) pa_nil)))))))))), ?_⟩
    have hz : zs.length ≤ 12 := by
      have := HA.le
      unfold mostFor at this
      split at this <;> omega
    -- the word
    refine ⟨fun σ H1 => ∃ j, j < 6 ∧ σ = [some (.ref st), some (.ref x), some (.ref nl), some (.ref D), some (.str (W6 j)), none, none, none] ∧ HouseAt C H1 st c nl x D zs ch ws ∧ Strm H1 st c (n + 1) ∧ Kept st c H H1, ?_, ?_⟩
    · refine ⟨_, rfl, by show 8 ≤ sizeLine; rw [sizeLine_eq]; omega, fun l nl0 => ?_⟩
      obtain ⟨l1, l2⟩ := S.notfree nl0
      have e1 := same_upd (o := HO.lst named8) nl0
      refine ⟨st, c, n, _, .ref l, _, rfl, S.same e1, by omega, by show 0 < 8; decide, by show 8 < 1000000; decide, pk_lst (SqL.of upd_same) l1 l2, fun b H1 hb S1 k1 => ?_⟩
      have k01 := (Same.kept e1).trans k1
      have HA1 := HA.kept S k01
      match b, hb with
      | 0, _ => exact ⟨0, by decide, rfl, HA1, S1, k01⟩
      | 1, _ => exact ⟨0, by decide, rfl, HA1, S1, k01⟩
      | 2, _ => exact ⟨1, by decide, rfl, HA1, S1, k01⟩
      | 3, _ => exact ⟨1, by decide, rfl, HA1, S1, k01⟩
      | 4, _ => exact ⟨2, by decide, rfl, HA1, S1, k01⟩
      | 5, _ => exact ⟨3, by decide, rfl, HA1, S1, k01⟩
      | 6, _ => exact ⟨4, by decide, rfl, HA1, S1, k01⟩
      | 7, _ => exact ⟨5, by decide, rfl, HA1, S1, k01⟩
    rintro σ H1 ⟨j, hj, rfl, HA1, S1, k1⟩
    -- some of the names
    refine ⟨fun σ H2 => ∃ (so : Addr) (ks : List Str), σ = [some (.ref st), some (.ref x), some (.ref nl), some (.ref D), some (.str (W6 j)), some (.ref so), none, none] ∧ HouseAt C H2 st c nl x D zs ch ws ∧ Strm H2 st c (n + 13) ∧ Kept st c H H2 ∧ H so = none ∧ so ≠ st ∧ so ≠ c ∧ H2 so = some (.lst (ks.map V.str)) ∧ ks.Sublist zs, ?_, ?_⟩
    · refine ⟨_, rfl, nl, rfl, ⟨_, SqL.of HA1.nm⟩, fun D0 nD0 => ?_⟩
      obtain ⟨d1, d2⟩ := S1.notfree nD0
      refine lc_it walk_list (fun k H5 => ∃ ks : List Str, ks.Sublist (zs.take k) ∧ H5 D0 = some (.lst (ks.map V.str)) ∧ Strm H5 st c (n + 1 + k) ∧ Kept st c H1 H5) ⟨[], List.nil_sublist _, upd_same, S1.same (same_upd nD0), Same.kept (same_upd nD0)⟩ (fun k H5 _ ⟨_, _, _, _, k5⟩ => SqL.of (k5 _ _ HA1.n1 HA1.n2 HA1.nm)) ?_ ?_
      · rintro k y H5 H6 hk ⟨ks, hsub, hD0, S5, k5⟩ ⟨rfl, hy⟩
        rw [List.length_map] at hk
        obtain ⟨z, hz2, rfl⟩ : ∃ z, zs[k]? = some z ∧ y = V.str z := by
          rw [List.getElem?_map, List.getElem?_eq_getElem hk] at hy
          exact ⟨zs[k], List.getElem?_eq_getElem hk, by cases hy; rfl⟩
        refine ⟨rfl, _, rfl, st, c, n + 1 + k, 2, rfl, S5, by omega, by decide, by decide, fun d H7 d0 d2' S7 k7 => ⟨rfl, _, rfl, ?_⟩⟩
        have tk : zs.take (k + 1) = zs.take k ++ [z] := by
          rw [List.take_add_one, hz2]; rfl
        refine ite2 (fun _ => ?_) (fun _ => ?_)
        · refine ⟨_, rfl, _, k7 _ _ d1 d2 hD0, Evl.sz_lt (by rw [List.length_map]; have := hsub.length_le; rw [List.length_take] at this; omega), ks ++ [z], ?_, ?_, S7.upd d1 d2, (k5.trans k7).grow nD0⟩
          · rw [tk]
            exact hsub.append (List.Sublist.refl _)
          · rw [upd_same, List.map_append]
            rfl
        · exact ⟨ks, by rw [tk]; exact hsub.trans (List.sublist_append_left _ _), k7 _ _ d1 d2 hD0, S7, k5.trans k7⟩
      · rintro H5 ⟨ks, hsub, hD0, S5, k5⟩
        rw [List.length_map] at hsub S5
        rw [List.take_length] at hsub
        have k15 := k1.trans k5
        exact ⟨D0, ks, rfl, HA.kept S k15, S5.more (by omega), k15, k1.free nD0 d1 d2, d1, d2, hD0, hsub⟩
    rintro σ H2 ⟨so, ks, rfl, HA2, S2, k2, nso, so1, so2, hso, hsub⟩
    -- not none of them
    refine ⟨fun σ H3 => ∃ (so : Addr) (ks : List Str), σ = [some (.ref st), some (.ref x), some (.ref nl), some (.ref D), some (.str (W6 j)), some (.ref so), none, none] ∧ HouseAt C H3 st c nl x D zs ch ws ∧ Strm H3 st c (n + 14) ∧ Kept st c H H3 ∧ H so = none ∧ so ≠ st ∧ so ≠ c ∧ H3 so = some (.lst (ks.map V.str)) ∧ ks.Sublist zs, ?_, ?_⟩
    · refine ⟨_, rfl, by show 2 ≤ sizeLine; rw [sizeLine_eq]; omega, fun p np => ⟨p, _, rfl, .inr (SqT.of upd_same), rfl, rfl, _, rfl, ?_⟩⟩
      have e1 := same_upd (o := HO.tup [.str (Str.ofString "refers"), .str (Str.ofString "freed")]) np
      generalize upd H2 p (.tup [.str (Str.ofString "refers"), .str (Str.ofString "freed")]) = G1 at e1 ⊢
      have HB := HA2.same e1
      have SB := S2.same e1
      have kB := k2.trans (Same.kept e1)
      have stay : ∀ H3, Same G1 H3 → ∃ (so' : Addr) (ks' : List Str), [some (V.ref st), some (.ref x), some (.ref nl), some (.ref D), some (.str (W6 j)), some (.ref so), none, none] = [some (V.ref st), some (.ref x), some (.ref nl), some (.ref D), some (.str (W6 j)), some (.ref so'), none, none] ∧ HouseAt C H3 st c nl x D zs ch ws ∧ Strm H3 st c (n + 14) ∧ Kept st c H H3 ∧ H so' = none ∧ so' ≠ st ∧ so' ≠ c ∧ H3 so' = some (.lst (ks'.map V.str)) ∧ ks'.Sublist zs := fun H3 e =>
        ⟨so, ks, rfl, HB.same e, (SB.same e).more (by omega), kB.trans (Same.kept e), nso, so1, so2, e _ _ (e1 _ _ hso), hsub⟩
      refine ite2 (fun _ => ?_) (fun _ => stay _ (Same.refl _))
      refine ⟨_, rfl, Nat.zero_le _, fun p2 np2 => ⟨.list (ks.map PyData.str), .list ([].map PyData.str), .lst (SqL.of (same_upd np2 _ _ (e1 _ _ hso))) (dp_strs ks), .lst (SqL.of upd_same) (dp_strs []), shaped_strsL ks (fun k m => HA2.ok k (hsub.subset m)), shaped_strsL [] (fun _ m => nomatch m), _, rfl, ?_⟩⟩
      have e2 := same_upd (o := HO.lst []) np2
      generalize upd G1 p2 (.lst []) = G2 at e2 ⊢
      refine ite2 (fun _ => ?_) (fun _ => stay _ e2)
      have HC := HB.same e2
      refine ⟨_, rfl, _, rfl, ?_⟩
      refine ⟨st, c, n + 13, _, .ref nl, _, rfl, (SB.same e2), by omega, by rw [List.length_map]; exact HA.pos, by rw [List.length_map]; omega, pk_lst (SqL.of HC.nm) HA.n1 HA.n2, fun b H4 hb S4 k4 => ?_⟩
      obtain ⟨z, mz, ez⟩ := List.mem_map.mp (getD_mem hb)
      rw [← ez]
      have k5 := (kB.trans (Same.kept e2)).trans k4
      refine ⟨by show 1 ≤ sizeLine; rw [sizeLine_eq]; omega, fun a na => ?_⟩
      obtain ⟨a1, a2⟩ := S4.notfree na
      have e5 := same_upd (o := HO.lst [V.str z]) na
      exact ⟨a, [z], rfl, (HA.kept S k5).same e5, S4.same e5, k5.trans (Same.kept e5), k5.free na a1 a2, a1, a2, upd_same, List.singleton_sublist.mpr mz⟩
    rintro σ H3 ⟨so3, ks3, rfl, HA3, S3, k3, nso3, so31, so32, hso3, hsub3⟩
    -- two for what is sent
    refine ⟨fun σ H4 => ∃ (so : Addr) (ks : List Str), σ = [some (.ref st), some (.ref x), some (.ref nl), some (.ref D), some (.str (W6 j)), some (.ref so), none, none] ∧ HouseAt C H4 st c nl x D zs ch ws ∧ Strm H4 st c (n + 16) ∧ Kept st c H H4 ∧ H so = none ∧ so ≠ st ∧ so ≠ c ∧ H4 so = some (.lst (ks.map V.str)) ∧ (∀ k ∈ ks, k ∈ zs) ∧ ks.length ≤ 12 ∧ (j = 4 → ks.length = 2) ∧ (j ≠ 4 → ks.Sublist zs), ?_, ?_⟩
    · refine ⟨_, rfl, rfl, _, rfl, ?_⟩
      rw [sent_at hj]
      refine ite2 (fun c1 => ?_) (fun c1 => ?_)
      · have c1 := of_decide_eq_true c1
        refine ⟨_, rfl, _, rfl, ?_⟩
        refine ⟨st, c, n + 14, _, .ref nl, _, rfl, S3, by omega, by rw [List.length_map]; exact HA.pos, by rw [List.length_map]; omega, pk_lst (SqL.of HA3.nm) HA.n1 HA.n2, fun b H4 hb S4 k4 => ?_⟩
        obtain ⟨z1, mz1, ez⟩ := List.mem_map.mp (getD_mem hb)
        rw [← ez]
        have HA4 := HA3.kept S3 k4
        refine ⟨_, rfl, _, rfl, ?_⟩
        refine ⟨st, c, n + 15, _, .ref nl, _, rfl, S4, by omega, by rw [List.length_map]; exact HA.pos, by rw [List.length_map]; omega, pk_lst (SqL.of HA4.nm) HA.n1 HA.n2, fun b H5 hb S5 k5 => ?_⟩
        obtain ⟨z2, mz2, ez⟩ := List.mem_map.mp (getD_mem hb)
        rw [← ez]
        have HA5 := HA4.kept S4 k5
        have k35 := (k3.trans k4).trans k5
        refine ⟨by show 2 ≤ sizeLine; rw [sizeLine_eq]; omega, fun a na => ?_⟩
        obtain ⟨a1, a2⟩ := S5.notfree na
        have e5 := same_upd (o := HO.lst [V.str z1, .str z2]) na
        refine ⟨a, [z1, z2], rfl, HA5.same e5, S5.same e5, k35.trans (Same.kept e5), k35.free na a1 a2, a1, a2, upd_same, fun k m => ?_, by show 2 ≤ 12; decide, fun _ => rfl, fun z => absurd c1 z⟩
        rcases List.mem_cons.mp m with rfl | m
        · exact mz1
        · rw [List.mem_singleton.mp m]
          exact mz2
      · have c1 : ¬ j = 4 := fun z => c1 (decide_eq_true z)
        exact ⟨so3, ks3, rfl, HA3, S3.more (by omega), k3, nso3, so31, so32, hso3, fun k m => hsub3.subset m, by have := hsub3.length_le; omega, fun z => absurd z c1, fun _ => hsub3⟩
    rintro σ H4 ⟨so4, ks, rfl, HA4, S4, k4, nso4, so41, so42, hso4, msub, k12, h2, hsub4⟩
    have ksl : (ks.map V.str).length = ks.length := List.length_map ..
    -- in a drawn order
    refine ⟨fun σ H5 => ∃ (as : Addr) (ks' : List Str), σ = [some (.ref st), some (.ref x), some (.ref nl), some (.ref D), some (.str (W6 j)), some (.ref so4), none, some (.ref as)] ∧ HouseAt C H5 st c nl x D zs ch ws ∧ Strm H5 st c (n + 28) ∧ Kept st c H H5 ∧ H5 so4 = some (.lst (ks.map V.str)) ∧ H5 as = some (.lst (ks'.map V.str)) ∧ ks'.Perm ks ∧ (j = 4 → ks' = ks), ?_, ?_⟩
    · refine ⟨_, rfl, rfl, _, rfl, ?_⟩
      rw [sent_at hj]
      refine ite2 (fun c1 => ?_) (fun c1 => ?_)
      · exact ⟨_, rfl, so4, ks, rfl, HA4, S4.more (by omega), k4, hso4, hso4, List.Perm.refl _, fun _ => rfl⟩
      · have c1 : ¬ j = 4 := fun z => c1 (decide_eq_true z)
        refine ⟨_, rfl, _, rfl, st, c, so4, n + 16, _, rfl, S4, by omega, .inl (SqL.of hso4), by omega, fun D' ys H5 nD' hp hD' S5 k5 => ?_⟩
        obtain ⟨ks', rfl, hp'⟩ := perm_strs hp
        rw [ksl] at S5
        exact ⟨D', ks', rfl, HA4.kept S4 k5, S5.more (by omega), k4.trans k5, k5 _ _ so41 so42 hso4, hD', hp', fun z => absurd z c1⟩
    rintro σ H5 ⟨as, ks', rfl, HA5, S5, k5, hso5, has5, hperm, h4⟩
    have msub' : ∀ k ∈ ks', k ∈ zs := fun k m => msub k (hperm.mem_iff.mp m)
    have lsl : (ks'.map V.str).length = ks.length := by rw [List.length_map, hperm.length_eq]
    have kn : ∀ u ∈ ks'.map V.str, inV u (zs.map V.str) = true := fun u m => by
      obtain ⟨k, mk, rfl⟩ := List.mem_map.mp m
      rw [inV_strs, decide_eq_true (msub' k mk)]
    have lots2 := lots_few (ch := ch) HA5.le
    have lens : ∀ l ∈ lotsFor ch zs, l.length ≤ 1000 := fun l m => by
      have := lot_len m
      omega
    have e4 : ∀ l ∈ lotsFor ch zs, cntF (progCnt j) ch zs ks' l = if lawCnt j ks l then 1 else 0 := fun l m => by
      have p := law_prog (ks := ks') hj HA5.nd HA5.le msub' m
      rw [lawArg_of HA5.nd h4 hperm hsub4] at p
      rw [p]
      unfold cntF cnt
      by_cases h : progCnt j zs ks' l = true
      · rw [if_pos h, if_pos (List.mem_filter.mpr ⟨m, h⟩)]
      · rw [if_neg h, if_neg (fun z => h (List.mem_filter.mp z).2)]
    refine ⟨_, rfl, _, rfl, _, rfl, ?_⟩
    refine ⟨j, x, as, ks'.map V.str, zs, ch, rfl, hj, HA5.fo, HA5.nd, HA5.le, HA5.ok, sqs_kit (k := "list") (b1 := true) (b2 := false) (.base (.lst has5)) (by decide +kernel) (by decide +kernel), .inl (SqL.of has5), fun v m => ?_, by omega, fun z => by rw [lsl]; exact h2 z, fun v d H' _ hv _ => ?_, fun ks2 qa H6 hk nqa e56 QA => ?_⟩
    · obtain ⟨k, _, rfl⟩ := List.mem_map.mp m
      exact .inl rfl
    · rw [firstNot_none kn] at hv
      cases hv
    have QA6 : QuestAt C CQ H6 qa x zs ch (fun l => if lawCnt j ks l then 1 else 0) := by
      refine QuestAt.congr QA fun l m => ?_
      by_cases h5 : j = 5
      · subst h5
        exact e4 l m
      · rw [← str_map_inj (hk h5).1]
        exact e4 l m
    have HA6 := HA5.same e56
    have S6 := S5.same e56
    refine ⟨_, rfl, _, rfl, _, rfl, ?_⟩
    refine ⟨j, so4, D, ks, ws, lotsFor ch zs, rfl, hj, e56 _ _ hso5, by omega, h2, HA6.ld, HA6.at_, lots2, lens, fun r H7 nr e67 hr7 => ?_⟩
    refine ⟨by show 2 ≤ sizeLine; rw [sizeLine_eq]; omega, fun p np => ?_⟩
    have S7 := S6.same e67
    have k57 := (k5.trans (Same.kept e56)).trans (Same.kept e67)
    obtain ⟨p1, p2⟩ := S7.notfree np
    obtain ⟨r1, r2⟩ := S6.notfree nr
    obtain ⟨q1, q2⟩ := S5.notfree nqa
    have e7 := same_upd (o := HO.tup [.ref qa, .ref r]) np
    have k8 := k57.trans (Same.kept e7)
    exact q p qa r (fun l => if lawCnt j ks l then 1 else 0) _ (k57.free np p1 p2) (k5.free nqa q1 q2) ((k5.trans (Same.kept e56)).free nr r1 r2) upd_same ((QA6.same e67).same e7) (e7 _ _ hr7) (fun l => by split <;> omega) ((S7.same e7).more (by omega)) k8
end
end Bk

namespace Bk
open PySem PySem.Spec PyProof.Rows L2
/-! ### comprehensions over zip(x, y): each thing told by a relation -/
/-- us tell ls one by one -/
def Told {α : Type} (Rel : Hp → V → α → Prop) (H : Hp) (us : List V) (ls : List α) : Prop := us.length = ls.length ∧ ∀ (k : Nat) (u : V) (l : α), us[k]? = some u → ls[k]? = some l → Rel H u l
structure Stays {α : Type} (Rel : Hp → V → α → Prop) : Prop where
  sm : ∀ (H1 H2 : Hp) (u : V) (l : α), Same H1 H2 → Rel H1 u l → Rel H2 u l
  up : ∀ (H1 : Hp) (D : Addr) (as bs : List V) (u : V) (l : α), H1 D = some (.lst as) → Rel H1 u l → Rel (upd H1 D (.lst bs)) u l
theorem told_snoc {α : Type} {Rel : Hp → V → α → Prop} (st : Stays Rel) {H2 : Hp} {D : Addr} {us : List V} {ls : List α} {i : Nat} {l : α} {y : V} (hD : H2 D = some (.lst us)) (hu : us.length = i) (hl : ls[i]? = some l) (t : ∀ (k : Nat) (u : V) (m : α), us[k]? = some u → ls[k]? = some m → Rel H2 u m) (r : Rel H2 y l) :
    ∀ (k : Nat) (u : V) (m : α), (us ++ [y])[k]? = some u → ls[k]? = some m → Rel (upd H2 D (.lst (us ++ [y]))) u m := fun k u m h1 h2 => by
  refine st.up _ _ us _ _ _ hD ?_
  by_cases c : k < us.length
  · rw [List.getElem?_append_left c] at h1
    exact t k u m h1 h2
  · have hk := (List.getElem?_eq_some_iff.mp h1).1
    rw [List.length_append] at hk
    have hk : k < us.length + 1 := hk
    have e : k = us.length := by omega
    subst e
    rw [List.getElem?_append_right (Nat.le_refl _), Nat.sub_self] at h1
    cases h1
    rw [hu] at h2
    rw [hl] at h2
    cases h2
    exact r
theorem zip_rel {α : Type} {K : PySem.W.Frag} {i j : Nat} {a b : Addr} {xs ys : List V} {ls : List α} {g : TG} {te : TE} {vs : List Nat} {σ : L2.St} {H : Hp} {Q : VK} {Rel : Hp → V → α → Prop} (st : Stays Rel) (hv1 : σ[i]? = some (some (.ref a))) (hv2 : σ[j]? = some (some (.ref b)))
    (hS : (SqL K H a xs ∧ SqL K H b ys) ∨ (SqT K H a xs ∧ SqT K H b ys)) (lx : xs.length = ls.length) (ly : ys.length = ls.length) (hl : ls.length ≤ 100000)
    (hs : ∀ (k : Nat) (l : α) (x y : V) (T : Addr) (H2 : Hp) (R : VK), ls[k]? = some l → xs[k]? = some x → ys[k]? = some y → Same H H2 → H2 T = some (.tup [x, y]) → (∀ u H3, Same H2 H3 → Rel H3 u l → R u H3) → g (.ref T) (wipe σ vs) H2 fun σ2 H3 => wipe σ2 vs = wipe σ vs ∧ te σ2 H3 R)
    (hd : ∀ D us H', H D = none → Same H H' → H' D = some (.lst us) → Told Rel H' us ls → Q (.ref D) H') : tLc (RZ.iZipA K (tCons (tVar i) (tCons (tVar j) tNil))) g tYes te vs σ H Q := by
  refine lcZ hv1 hv2 hS (by omega) fun D nD => ⟨fun k H' => ∃ us : List V, us.length = k ∧ Same H H' ∧ H' D = some (.lst us) ∧ ∀ (i : Nat) (u : V) (m : α), us[i]? = some u → ls[i]? = some m → Rel H' u m, ?_, ?_, ?_, ?_⟩
  · exact ⟨[], rfl, same_upd nD, upd_same, fun i u m h => by simp at h⟩
  · rintro k H' ⟨us, _, e, _, _⟩
    exact e
  · rintro k v H' H2 hk ⟨us, hu, e, hD, t⟩ ⟨T, x, y, rfl, nT, rfl, hx, hy⟩
    have hkl : k < ls.length := by omega
    have e1 := same_upd (o := HO.tup [x, y]) nT
    refine hs k ls[k] x y T _ (fun y H5 => ∃ acc, H5 D = some (.lst acc) ∧ acc.length < sizeLine ∧ ∃ us : List V, us.length = k + 1 ∧ Same H (upd H5 D (.lst (acc ++ [y]))) ∧ upd H5 D (.lst (acc ++ [y])) D = some (.lst us) ∧ ∀ (i : Nat) (u : V) (m : α), us[i]? = some u → ls[i]? = some m → Rel (upd H5 D (.lst (acc ++ [y]))) u m) (List.getElem?_eq_getElem hkl) hx hy (Same.trans e e1) upd_same fun u H3 e3 r => ?_
    have e13 := Same.trans e1 e3
    exact ⟨us, e13 _ _ hD, Evl.sz_lt (by omega), us ++ [u], by rw [List.length_append, hu]; rfl, Same.grow (Same.trans e e13) nD, upd_same, told_snoc st (e13 _ _ hD) hu (List.getElem?_eq_getElem hkl) (fun k u m h1 h2 => st.sm _ _ _ _ e13 (t k u m h1 h2)) r⟩
  · rintro H' ⟨us, hu, e, hD, t⟩
    exact hd D us H' nD e hD ⟨by omega, t⟩
theorem stays_eq {α : Type} (G : α → V) : Stays fun (_ : Hp) (u : V) (l : α) => u = G l := ⟨fun _ _ _ _ _ h => h, fun _ _ _ _ _ _ _ h => h⟩
theorem told_eq {α : Type} {G : α → V} {H : Hp} {us : List V} {ls : List α} (t : Told (fun (_ : Hp) (u : V) (l : α) => u = G l) H us ls) : us = ls.map G := by
  refine List.ext_getElem? fun k => ?_
  rw [List.getElem?_map]
  cases h1 : us[k]? with
  | none =>
    have h2 : ls[k]? = none := by
      rw [List.getElem?_eq_none_iff] at h1 ⊢
      rw [← t.1]
      exact h1
    rw [h2]
    rfl
  | some u =>
    have hk := (List.getElem?_eq_some_iff.mp h1).1
    rw [t.1] at hk
    rw [List.getElem?_eq_getElem hk]
    rw [t.2 k u ls[k] h1 (List.getElem?_eq_getElem hk)]
    rfl
/-- [.. for x, y in zip(a, b)] where each is a number told by what stands there -/
theorem zip_map {α : Type} {K : PySem.W.Frag} {i j : Nat} {a b : Addr} {xs ys : List V} {ls : List α} {g : TG} {te : TE} {vs : List Nat} {σ : L2.St} {H : Hp} {Q : VK} (G : α → V) (hv1 : σ[i]? = some (some (.ref a))) (hv2 : σ[j]? = some (some (.ref b)))
    (hS : (SqL K H a xs ∧ SqL K H b ys) ∨ (SqT K H a xs ∧ SqT K H b ys)) (lx : xs.length = ls.length) (ly : ys.length = ls.length) (hl : ls.length ≤ 100000)
    (hs : ∀ (k : Nat) (l : α) (x y : V) (T : Addr) (H2 : Hp) (R : VK), ls[k]? = some l → xs[k]? = some x → ys[k]? = some y → Same H H2 → H2 T = some (.tup [x, y]) → (∀ H3, Same H2 H3 → R (G l) H3) → g (.ref T) (wipe σ vs) H2 fun σ2 H3 => wipe σ2 vs = wipe σ vs ∧ te σ2 H3 R)
    (hd : ∀ D H', H D = none → Same H H' → H' D = some (.lst (ls.map G)) → Q (.ref D) H') : tLc (RZ.iZipA K (tCons (tVar i) (tCons (tVar j) tNil))) g tYes te vs σ H Q :=
  zip_rel (stays_eq G) hv1 hv2 hS lx ly hl (fun k l x y T H2 R h1 h2 h3 e hT r => hs k l x y T H2 R h1 h2 h3 e hT fun H3 e3 => r _ H3 e3 rfl) fun D us H' nD e hD t => hd D H' nD e (by rw [hD, told_eq t])
/-- a pair of a lot's tuple and a number -/
def PairAt (H : Hp) (u : V) (e : List Str × Int) : Prop := ∃ p b : Addr, u = .ref p ∧ H p = some (.tup [.ref b, .int e.2]) ∧ H b = some (.tup (e.1.map V.str))
theorem stays_pair : Stays PairAt := ⟨fun H1 H2 u l e => by
  rintro ⟨p, b, rfl, h1, h2⟩
  exact ⟨p, b, rfl, e _ _ h1, e _ _ h2⟩, fun H1 D as bs u l hD => by
  rintro ⟨p, b, rfl, h1, h2⟩
  exact ⟨p, b, rfl, by rw [upd_ne (ne_of h1 hD (fun z => nomatch z))]; exact h1, by rw [upd_ne (ne_of h2 hD (fun z => nomatch z))]; exact h2⟩⟩
/-- what dict(list of such pairs) asks for -/
theorem told_pairs {H : Hp} : ∀ {es : List (List Str × Int)} {us : List V}, Told PairAt H us es → ∃ ps : List Addr, us = ps.map V.ref ∧ Paired (fun p kv => ∃ b, H p = some (.tup [.ref b, kv.2]) ∧ H b = some (.tup (kv.1.map kV))) ps (es.map fun e => ((e.1.map Sum.inr : List Key), V.int e.2))
  | [], [], _ => ⟨[], rfl, .nil⟩
  | [], _ :: _, t => by cases t.1
  | _ :: _, [], t => by cases t.1
  | e :: r, u :: us, t => by
    obtain ⟨p, b, rfl, h1, h2⟩ := t.2 0 u e rfl rfl
    obtain ⟨ps, rfl, hp⟩ := told_pairs (es := r) (us := us) ⟨Nat.succ.inj t.1, fun k u l a b => t.2 (k + 1) u l a b⟩
    exact ⟨p :: ps, rfl, .cons ⟨b, h1, by rw [str_key]; exact h2⟩ hp⟩
end Bk

namespace Bk
open PySem PySem.Spec PyProof.Rows L2
/-! a table of distinct lots is laid as it is told -/
theorem merge_lots (f : List Str → Int) : ∀ (ls done : List (List Str)), (done ++ ls).Nodup → mergeT (tabV (tabL done f)) (tabV (tabL ls f)) = tabV (tabL (done ++ ls) f)
  | [], done, _ => by rw [List.append_nil]; rfl
  | l :: r, done, h => by
    have h2 : ((done ++ [l]) ++ r).Nodup := by rw [List.append_assoc]; exact h
    have hl : l ∉ done := fun m => by
      rw [List.nodup_append] at h
      exact h.2.2 l m l List.mem_cons_self rfl
    have e := merge_lots f r _ h2
    rw [List.append_assoc] at e
    show mergeT (putK (tabV (tabL done f)) (l.map Sum.inr) (V.int (f l))) (tabV (tabL r f)) = _
    rw [tab_put hl]
    exact e
theorem fun_ex : ∀ {ls : List (List Str)} {ns : List Int}, ls.Nodup → ns.length = ls.length → ∃ f : List Str → Int, ls.map f = ns ∧ ∀ l, f l = 0 ∨ f l ∈ ns
  | [], [], _, _ => ⟨fun _ => 0, rfl, fun _ => .inl rfl⟩
  | [], _ :: _, _, h => nomatch h
  | _ :: _, [], _, h => nomatch h
  | l :: r, n :: t, nd, h => by
    obtain ⟨h1, h2⟩ := List.nodup_cons.mp nd
    obtain ⟨f, hf, hb⟩ := fun_ex (ls := r) (ns := t) h2 (Nat.succ.inj h)
    refine ⟨fun m => if m = l then n else f m, ?_, fun m => ?_⟩
    · rw [List.map_cons, if_pos rfl, ← hf]
      congr 1
      exact List.map_congr_left fun m hm => if_neg fun (z : m = l) => h1 (z ▸ hm)
    · show (if m = l then n else f m) = 0 ∨ (if m = l then n else f m) ∈ n :: t
      by_cases c : m = l
      · rw [if_pos c]
        exact .inr List.mem_cons_self
      · rw [if_neg c]
        exact (hb m).imp (fun z => z) fun z => List.mem_cons_of_mem _ z
/-- _law_q_drawn(stream, house, names, lots) -/
def spAsked (K : PySem.W.Frag) (C CQ : Addr) : Sp := fun vs H Q _ => ∃ (st c x nl D : Addr) (n : Nat) (zs : List Str) (ch : Bool) (ws : List V), vs = [.ref st, .ref x, .ref nl, .ref D] ∧ HouseAt C H st c nl x D zs ch ws ∧ Strm H st c n ∧ n ≤ 600000 ∧
  ∀ (p q r : Addr) (f : List Str → Int) (H' : Hp), H p = none → H q = none → H r = none → H' p = some (.tup [.ref q, .ref r]) → QuestAt C CQ H' q x zs ch f → H' r = some (.lst ((lotsFor ch zs).map fun l => V.int (f l))) → (∀ l, -3 ≤ f l ∧ f l ≤ 3) → Strm H' st c (n + 2100) → Kept st c H H' → Q (.ref p) H'
theorem tcb_one {R : List V → Hp → VK → Prop} {t : TE} {σ : L2.St} {H : Hp} {Q : VK} (h : t σ H fun x H1 => R [x] H1 Q) : tCB R (tCons t tNil) σ H Q := h
theorem tcons_go {t : TE} {ts : TA} {σ : L2.St} {H : Hp} {R : List V → Hp → Prop} (h : t σ H fun x H1 => ts σ H1 fun vs H2 => R (x :: vs) H2) : tCons t ts σ H R := h
section
variable {P : Program} {w : World} {K : PySem.W.Frag} {mg : Str → Option Value} {base : Heap}
theorem scAsked : FnScope ["_law_stream", "_law_house", "_law_names_here", "_law_lots", "_law_way", "_law_one", "_law_row", "_law_other", "_law_more", "_law_x", "_law_y", "_law_lot"] ["_law_stream", "_law_house", "_law_names_here", "_law_lots"] (defScope (topS 75)) := ⟨rfl, rfl, rfl, by decide +kernel, rfl, by decide +kernel, by decide +kernel⟩
theorem ok_asked (B : Bi mg) {C CQ fQ fP fS f f1 f2 : Addr} {fdQ fdP fdS fd fd1 fd2 : FuncData} (TQ : QueT K mg CQ fQ) (sf : PySem.W.selfFirst K CQ = true) (GQ : FnOk P w K mg base CX0 4 fQ fdQ ["self", "folders", "weights"] (spQuest K C CQ)) (bQ : Binds K fdQ ["self", "folders", "weights"] [])
    (GP : FnOk P w K mg base CX0 6 fP fdP ["self", "other"] (spPlus C CQ 1)) (bP : Binds K fdP ["self", "other"] []) (mP : Own K CQ "__add__" fP) (GS : FnOk P w K mg base CX0 6 fS fdS ["self", "other"] (spPlus C CQ (-1))) (bS : Binds K fdS ["self", "other"] []) (mS : Own K CQ "__sub__" fS)
    (c__law_draw : Cal P w K mg base CX0 1 "_law_draw" f1 fd1 ["_law_stream", "_law_many"] spDraw) (c__law_q_named : Cal P w K mg base CX0 9 "_law_q_named" f2 fd2 ["_law_stream", "_law_house", "_law_names_here", "_law_lots"] (spNamed K C CQ))
    (F : Fun K "_law_q_drawn" "_law_q_drawn" (topS 75) f fd) : FnOk P w K mg base CX0 10 f fd ["_law_stream", "_law_house", "_law_names_here", "_law_lots"] (spAsked K C CQ) := by
  refine F.ok scAsked (fun vs H Q E h => ?_) (fun cdv A outer s H vs Q E hr h => ?_)
  · obtain ⟨st, c, x, nl, D, n, zs, ch, ws, rfl, _⟩ := h
    rfl
  · obtain ⟨st, c, x, nl, D, n, zs, ch, ws, rfl, HA, S, hn, q⟩ := h
    have nd := scAsked.nd
    have hu := hu_of hr
    have hr__law_q_named := hr
    have hrO : Room 6 _ := hr.mono (by decide)
    have hrQ : Room 5 _ := hr.mono (by decide)
    have hr__law_draw : Room 1 _ := hr.mono (by decide)
    refine ⟨_, (Evl.pss_cut (ps_set (i := 4) nd rfl (Or.inl rfl) (pe_call c__law_draw.ok hr__law_draw (by rfl) c__law_draw.g c__law_draw.kp c__law_draw.b .nil pass0 (pa_cons (pv 0) (pa_cons pe_int pa_nil))))
      (Evl.pss_cut (ps_asg (pe_call c__law_q_named.ok hr__law_q_named (by rfl) c__law_q_named.g c__law_q_named.kp c__law_q_named.b .nil pass0 (pa_cons (pv 0) (pa_cons (pv 1) (pa_cons (pv 2) (pa_cons (pv 3) pa_nil))))) (kTg K 2 rfl (pgs_cons (pg_name (i := 5) nd rfl (Or.inl rfl)) (pgs_cons (pg_name (i := 6) nd rfl (Or.inl rfl)) pgs_nil))))
      (Evl.pss_cut (ps_if (pt_cmpR op_lt (pv 4) pe_int (nomark _)) (pss_one (ps_ret (pe_tup (pa_cons (pv 5) (pa_cons (pv 6) pa_nil))))) pss_nil)
      (Evl.pss_cut (ps_if (pt_cmpR op_lt (pv 4) pe_int (nomark _)) (pss_cons (ps_asg (pe_call c__law_q_named.ok hr__law_q_named (by rfl) c__law_q_named.g c__law_q_named.kp c__law_q_named.b .nil pass0 (pa_cons (pv 0) (pa_cons (pv 1) (pa_cons (pv 2) (pa_cons (pv 3) pa_nil))))) (kTg K 2 rfl (pgs_cons (pg_name (i := 7) nd rfl (Or.inl rfl)) (pgs_cons (pg_name (i := 8) nd rfl (Or.inl rfl)) pgs_nil))))
      (pss_cons (ps_if (pt_cmpR op_eq (pv 4) pe_int (nomark _)) (pss_one (ps_ret (pe_tup (pa_cons (pe_op (op_binOwn GP bP pass0 hrO mP sf) (pv 5) (pv 7)) (pa_cons (pe_lc (own := [("_law_x", 9), ("_law_y", 10)]) rfl nd (kPiZ K (by rfl) B.zip (pa_cons (pv 6) (pa_cons (pv 8) pa_nil))) (blkOk_by (N := ["_law_stream", "_law_house", "_law_names_here", "_law_lots", "_law_way", "_law_one", "_law_row", "_law_other", "_law_more", "_law_x", "_law_y", "_law_lot"]) (sc := defScope (topS 75)) (by decide +kernel)) (fun _ _ _ _ _ => (kTg K 2 rfl (pgs_cons (pg_name (i := 9) nd rfl (Or.inl rfl)) (pgs_cons (pg_name (i := 10) nd rfl (Or.inl rfl)) pgs_nil)))) (fun _ _ _ _ _ => pts_nil) (fun _ _ _ _ _ => (pe_op op_add (pv 9) (pv 10)))) pa_nil))))) pss_nil)
      (pss_one (ps_ret (pe_tup (pa_cons (pe_op (op_binOwn GS bS pass0 hrO mS sf) (pv 5) (pv 7)) (pa_cons (pe_lc (own := [("_law_x", 9), ("_law_y", 10)]) rfl nd (kPiZ K (by rfl) B.zip (pa_cons (pv 6) (pa_cons (pv 8) pa_nil))) (blkOk_by (N := ["_law_stream", "_law_house", "_law_names_here", "_law_lots", "_law_way", "_law_one", "_law_row", "_law_other", "_law_more", "_law_x", "_law_y", "_law_lot"]) (sc := defScope (topS 75)) (by decide +kernel)) (fun _ _ _ _ _ => (kTg K 2 rfl (pgs_cons (pg_name (i := 9) nd rfl (Or.inl rfl)) (pgs_cons (pg_name (i := 10) nd rfl (Or.inl rfl)) pgs_nil)))) (fun _ _ _ _ _ => pts_nil) (fun _ _ _ _ _ => (pe_op op_sub (pv 9) (pv 10)))) pa_nil))))))) pss_nil)
      (Evl.pss_cut (ps_setLc (i := 6) (own := [("_law_lot", 11)]) rfl nd rfl rfl (sw_true rfl rfl rfl (by decide +kernel)) (kPiL K (pv 3)) (blkOk_by (N := ["_law_stream", "_law_house", "_law_names_here", "_law_lots", "_law_way", "_law_one", "_law_row", "_law_other", "_law_more", "_law_x", "_law_y", "_law_lot"]) (sc := defScope (topS 75)) (by decide +kernel)) (fun _ _ _ _ _ => (pg_name (i := 11) nd rfl (Or.inl rfl))) (fun _ _ _ _ _ => pts_nil) (fun _ _ _ _ _ => (pe_op op_sub (pe_call c__law_draw.ok hr__law_draw (by rfl) c__law_draw.g c__law_draw.kp c__law_draw.b .nil pass0 (pa_cons (pv 0) (pa_cons pe_int pa_nil))) pe_int)))
      (pss_one (ps_ret (pe_tup (pa_cons (pe_make TQ.make GQ hrQ (by rfl) TQ.g bQ .nil pass0 (pa_cons (pv 1) (pa_cons (pe_callTy (kDictPT K rfl hr.units) (by rfl) B.dict (by decide +kernel) (pa_cons (pe_lc (own := [("_law_lot", 11), ("_law_x", 9)]) rfl nd (kPiZ K (by rfl) B.zip (pa_cons (pv 3) (pa_cons (pv 6) pa_nil))) (blkOk_by (N := ["_law_stream", "_law_house", "_law_names_here", "_law_lots", "_law_way", "_law_one", "_law_row", "_law_other", "_law_more", "_law_x", "_law_y", "_law_lot"]) (sc := defScope (topS 75)) (by decide +kernel)) (fun _ _ _ _ _ => (kTg K 2 rfl (pgs_cons (pg_name (i := 11) nd rfl (Or.inl rfl)) (pgs_cons (pg_name (i := 9) nd rfl (Or.inl rfl)) pgs_nil)))) (fun _ _ _ _ _ => pts_nil) (fun _ _ _ _ _ => (pe_tup (pa_cons (pv 11) (pa_cons (pv 9) pa_nil))))) pa_nil)) pa_nil))) (pa_cons (pv 6) pa_nil)))))))))), ?_⟩
    have few := lots_few (ch := ch) HA.le
    -- the way
    refine ⟨fun σ H1 => ∃ d : Int, 0 ≤ d ∧ d < 6 ∧ σ = [some (.ref st), some (.ref x), some (.ref nl), some (.ref D), some (.int d), none, none, none, none, none, none, none] ∧ HouseAt C H1 st c nl x D zs ch ws ∧ Strm H1 st c (n + 1) ∧ Kept st c H H1, ?_, ?_⟩
    · exact ⟨_, rfl, st, c, n, 6, rfl, S, by omega, by decide, by decide, fun d H1 d0 d6 S1 k1 => ⟨d, d0, d6, rfl, HA.kept S k1, S1, k1⟩⟩
    rintro σ H1 ⟨d, d0, d6, rfl, HA1, S1, k1⟩
    -- a question
    refine ⟨fun σ H2 => ∃ (q1 r1 : Addr) (f : List Str → Int), σ = [some (.ref st), some (.ref x), some (.ref nl), some (.ref D), some (.int d), some (.ref q1), some (.ref r1), none, none, none, none, none] ∧ HouseAt C H2 st c nl x D zs ch ws ∧ Strm H2 st c (n + 31) ∧ Kept st c H H2 ∧ (H q1 = none ∧ H r1 = none) ∧ QuestAt C CQ H2 q1 x zs ch f ∧ H2 r1 = some (.lst ((lotsFor ch zs).map fun l => V.int (f l))) ∧ (∀ l, -1 ≤ f l ∧ f l ≤ 1) ∧ r1 ≠ st ∧ r1 ≠ c, ?_, ?_⟩
    · refine ⟨_, rfl, _, rfl, _, rfl, _, rfl, st, c, x, nl, D, n + 1, zs, ch, ws, rfl, HA1, S1, by omega, fun p q1 r1 f H2 np nq nr hp QA hr1 bd S2 k2 => ?_⟩
      obtain ⟨q1', q2'⟩ := S1.notfree nq
      obtain ⟨r1', r2'⟩ := S1.notfree nr
      exact ⟨p, _, rfl, SqT.of hp, rfl, _, _, rfl, _, _, rfl, rfl, q1, r1, f, rfl, HA1.kept S1 k2, S2, k1.trans k2, ⟨k1.free nq q1' q2', k1.free nr r1' r2'⟩, QA, hr1, bd, r1', r2'⟩
    rintro σ H2 ⟨q1, r1, f, rfl, HA2, S2, k2, ⟨nq1, nr1⟩, QA2, hr1, bd1, r1s, r1c⟩
    -- three ways tell it
    refine ⟨fun σ H3 => σ = [some (.ref st), some (.ref x), some (.ref nl), some (.ref D), some (.int d), some (.ref q1), some (.ref r1), none, none, none, none, none] ∧ H2 = H3, ?_, ?_⟩
    · refine ⟨_, rfl, d, 3, rfl, rfl, _, rfl, ?_⟩
      refine ite2 (fun _ => ?_) (fun _ => ⟨rfl, rfl⟩)
      refine ⟨_, rfl, _, rfl, by show 2 ≤ sizeLine; rw [sizeLine_eq]; omega, fun p np => ?_⟩
      obtain ⟨p1, p2⟩ := S2.notfree np
      have e := same_upd (o := HO.tup [.ref q1, .ref r1]) np
      exact q p q1 r1 f _ (k2.free np p1 p2) nq1 nr1 upd_same (QA2.same e) (e _ _ hr1) (fun l => by have := bd1 l; omega) ((S2.same e).more (by omega)) (k2.trans (Same.kept e))
    rintro σ _ ⟨rfl, rfl⟩
    -- two add or take away another one
    refine ⟨fun σ H3 => σ = [some (.ref st), some (.ref x), some (.ref nl), some (.ref D), some (.int d), some (.ref q1), some (.ref r1), none, none, none, none, none] ∧ H2 = H3, ?_, ?_⟩
    · refine ⟨_, rfl, d, 5, rfl, rfl, _, rfl, ?_⟩
      refine ite2 (fun _ => ?_) (fun _ => ⟨rfl, rfl⟩)
      refine ⟨_, rfl, _, rfl, _, rfl, _, rfl, st, c, x, nl, D, n + 31, zs, ch, ws, rfl, HA2, S2, by omega, fun p q2 r2 g H3 np nq nr hp QB hr2 bd2 S3 k3 => ?_⟩
      obtain ⟨q21, q22⟩ := S2.notfree nq
      obtain ⟨r21, r22⟩ := S2.notfree nr
      have QA3 := QA2.kept S2 k3
      have hr13 := k3 _ _ r1s r1c hr1
      have k23 := k2.trans k3
      obtain ⟨dq1, td1, a1, _, _⟩ := id QA3
      obtain ⟨dq2, td2, a2, _, _⟩ := id QB
      refine ⟨p, _, rfl, SqT.of hp, rfl, _, _, rfl, _, _, rfl, rfl, ?_⟩
      have ends : ∀ (sg : Int) (h : List Str → Int) (p y R : Addr) (H6 : Hp), (∀ l, h l = f l + sg * g l) → -1 ≤ sg → sg ≤ 1 → H3 p = none → H3 y = none → H3 R = none → Same H3 H6 → H6 p = some (.tup [.ref y, .ref R]) → QuestAt C CQ H6 y x zs ch (fun l => f l + sg * g l) → H6 R = some (.lst ((lotsFor ch zs).map fun l => V.int (h l))) → Q (.ref p) H6 := fun sg h p y R H6 hh s1 s2 np ny nR e hp QY hR => by
        have hy : sg = -1 ∨ sg = 0 ∨ sg = 1 := by omega
        obtain ⟨p1, p2⟩ := S3.notfree np
        obtain ⟨y1, y2⟩ := S3.notfree ny
        obtain ⟨R1, R2⟩ := S3.notfree nR
        refine q p y R h H6 (k23.free np p1 p2) (k23.free ny y1 y2) (k23.free nR R1 R2) hp (QY.congr fun l _ => (hh l).symm) hR (fun l => ?_) ((S3.same e).more (by omega)) (k23.trans (Same.kept e))
        rw [hh l]
        have b1 := bd1 l
        have b2 := bd2 l
        rcases hy with rfl | rfl | rfl <;> omega
      refine ⟨_, rfl, rfl, _, rfl, ?_⟩
      have lm1 : ((lotsFor ch zs).map fun l => V.int (f l)).length = (lotsFor ch zs).length := List.length_map ..
      have lm2 : ((lotsFor ch zs).map fun l => V.int (g l)).length = (lotsFor ch zs).length := List.length_map ..
      refine ite2 (fun _ => ?_) (fun _ => ?_)
      · refine ⟨_, rfl, _, rfl, q1, dq1, q2, dq2, _, _, rfl, rfl, a1, a2, q1, x, q2, x, zs, ch, f, g, rfl, QA3, QB, HA.ok, HA.nd, HA.le, fun y H4 ny e4 QY => ⟨y, rfl, ?_⟩⟩
        refine zip_map (ls := lotsFor ch zs) (fun l => V.int (f l + g l)) rfl rfl (.inl ⟨SqL.of (e4 _ _ hr13), SqL.of (e4 _ _ hr2)⟩) lm1 lm2 (by omega) (fun k l u v T H5 R h1 h2 h3 e5 hT hR => ?_) fun R H5 nR e5 hR => ?_
        · rw [List.getElem?_map, h1] at h2 h3
          cases h2
          cases h3
          exact ⟨_, _, rfl, SqT.of hT, rfl, _, _, rfl, _, _, rfl, rfl, rfl, _, rfl, _, rfl, _, _, rfl, rfl, hR _ (Same.refl _)⟩
        · refine ⟨by show 2 ≤ sizeLine; rw [sizeLine_eq]; omega, fun p np => ?_⟩
          have e6 := same_upd (o := HO.tup [.ref y, .ref R]) np
          exact ends 1 (fun l => f l + g l) p y R _ (fun l => by omega) (by decide) (by decide) ((Same.trans e4 e5).free np) ny (e4.free nR) (Same.trans e4 (Same.trans e5 e6)) upd_same ((QY.same e5).same e6) (e6 _ _ hR)
      · refine ⟨_, rfl, _, rfl, q1, dq1, q2, dq2, _, _, rfl, rfl, a1, a2, q1, x, q2, x, zs, ch, f, g, rfl, QA3, QB, HA.ok, HA.nd, HA.le, fun y H4 ny e4 QY => ⟨y, rfl, ?_⟩⟩
        refine zip_map (ls := lotsFor ch zs) (fun l => V.int (f l - g l)) rfl rfl (.inl ⟨SqL.of (e4 _ _ hr13), SqL.of (e4 _ _ hr2)⟩) lm1 lm2 (by omega) (fun k l u v T H5 R h1 h2 h3 e5 hT hR => ?_) fun R H5 nR e5 hR => ?_
        · rw [List.getElem?_map, h1] at h2 h3
          cases h2
          cases h3
          exact ⟨_, _, rfl, SqT.of hT, rfl, _, _, rfl, _, _, rfl, rfl, rfl, _, rfl, _, rfl, _, _, rfl, rfl, hR _ (Same.refl _)⟩
        · refine ⟨by show 2 ≤ sizeLine; rw [sizeLine_eq]; omega, fun p np => ?_⟩
          have e6 := same_upd (o := HO.tup [.ref y, .ref R]) np
          exact ends (-1) (fun l => f l - g l) p y R _ (fun l => by omega) (by decide) (by decide) ((Same.trans e4 e5).free np) ny (e4.free nR) (Same.trans e4 (Same.trans e5 e6)) upd_same ((QY.same e5).same e6) (e6 _ _ hR)
    rintro σ _ ⟨rfl, rfl⟩
    -- the last one draws its numbers
    refine ⟨fun σ H3 => ∃ (r2 : Addr) (ns : List Int), σ = [some (.ref st), some (.ref x), some (.ref nl), some (.ref D), some (.int d), some (.ref q1), some (.ref r2), none, none, none, none, none] ∧ HouseAt C H3 st c nl x D zs ch ws ∧ Strm H3 st c (n + 2100) ∧ Kept st c H H3 ∧ H r2 = none ∧ r2 ≠ st ∧ r2 ≠ c ∧ H3 r2 = some (.lst (ns.map V.int)) ∧ ns.length = (lotsFor ch zs).length ∧ (∀ m ∈ ns, -3 ≤ m ∧ m ≤ 3), ?_, ?_⟩
    · have wsl : ws.length = (lotsFor ch zs).length := HA2.at_.1
      refine ⟨_, rfl, D, rfl, ⟨_, SqL.of HA2.ld⟩, fun D0 nD0 => ?_⟩
      obtain ⟨e1, e2⟩ := S2.notfree nD0
      refine lc_it walk_list (fun k H5 => ∃ ns : List Int, ns.length = k ∧ (∀ m ∈ ns, -3 ≤ m ∧ m ≤ 3) ∧ H5 D0 = some (.lst (ns.map V.int)) ∧ Strm H5 st c (n + 31 + k) ∧ Kept st c H2 H5) ⟨[], rfl, (fun m h => nomatch h), upd_same, S2.same (same_upd nD0), Same.kept (same_upd nD0)⟩ (fun k H5 _ ⟨_, _, _, _, _, k5⟩ => SqL.of (k5 _ _ HA2.d1 HA2.d2 HA2.ld)) ?_ ?_
      · rintro k y H5 H6 hk ⟨ns, hn2, bd, hD0, S5, k5⟩ ⟨rfl, hy⟩
        refine ⟨rfl, yes2 ?_⟩
        refine ⟨_, rfl, st, c, n + 31 + k, 7, rfl, S5, by omega, by decide, by decide, fun m H7 m0 m7 S7 k7 => ⟨m, 3, rfl, rfl, _, k7 _ _ e1 e2 hD0, Evl.sz_lt (by rw [List.length_map]; omega), ns ++ [m - 3], by rw [List.length_append, hn2]; rfl, fun i hi => ?_, ?_, S7.upd e1 e2, (k5.trans k7).grow nD0⟩⟩
        · rcases List.mem_append.mp hi with hi | hi
          · exact bd i hi
          · rw [List.mem_singleton.mp hi]
            omega
        · rw [upd_same, List.map_append]
          rfl
      · rintro H5 ⟨ns, hn2, bd, hD0, S5, k5⟩
        have k25 := k2.trans k5
        exact ⟨D0, ns, rfl, HA.kept S k25, S5.more (by omega), k25, k2.free nD0 e1 e2, e1, e2, hD0, by omega, bd⟩
    rintro σ H3 ⟨r2, ns, rfl, HA3, S3, k3, nr2, r21, r22, hr2, hns, bd⟩
    obtain ⟨f2, hf2, hb2⟩ := fun_ex (lots_nodup (ch := ch) HA.nd) hns
    have hr2' : H3 r2 = some (.lst ((lotsFor ch zs).map fun l => V.int (f2 l))) := by
      rw [hr2, ← hf2, List.map_map]
      rfl
    have wsl : ws.length = (lotsFor ch zs).length := HA3.at_.1
    have lm2 : ((lotsFor ch zs).map fun l => V.int (f2 l)).length = (lotsFor ch zs).length := List.length_map ..
    have lme : ((lotsFor ch zs).map fun l => (l, f2 l)).length = (lotsFor ch zs).length := List.length_map ..
    refine ⟨_, rfl, ?_⟩
    refine tcons_go (tcb_one ?_)
    refine zip_rel (ls := (lotsFor ch zs).map fun l => (l, f2 l)) stays_pair rfl rfl (.inl ⟨SqL.of HA3.ld, SqL.of hr2'⟩) (by omega) (by omega) (by omega) (fun k e u v T H5 R h1 h2 h3 e5 hT hR => ?_) fun D1 us H5 nD1 e5 hD1 tus => ?_
    · rw [List.getElem?_map] at h1 h3
      obtain ⟨l, hl, rfl⟩ : ∃ l, (lotsFor ch zs)[k]? = some l ∧ (l, f2 l) = e := by
        cases hl : (lotsFor ch zs)[k]? with
        | none => rw [hl] at h1; cases h1
        | some l => exact ⟨l, rfl, by rw [hl] at h1; cases h1; rfl⟩
      rw [hl] at h3
      cases h3
      obtain ⟨b, rfl, hb⟩ := HA3.at_.2 k u l h2 hl
      refine ⟨_, _, rfl, SqT.of hT, rfl, _, _, rfl, _, _, rfl, rfl, rfl, _, rfl, _, rfl, by show 2 ≤ sizeLine; rw [sizeLine_eq]; omega, fun p np => ?_⟩
      have e6 := same_upd (o := HO.tup [.ref b, .int (f2 l)]) np
      exact hR (.ref p) _ e6 ⟨p, b, rfl, upd_same, e6 _ _ (e5 _ _ hb)⟩
    · obtain ⟨ps, rfl, hps⟩ := told_pairs tus
      refine ⟨D1, ps, _, rfl, SqL.of hD1, hps, fun b nb => ?_⟩
      have kv : ((lotsFor ch zs).map fun l => (l, f2 l)).map (fun e => ((e.1.map Sum.inr : List Key), V.int e.2)) = tabV (tabL (lotsFor ch zs) f2) := by
        unfold tabV tabL
        rw [List.map_map, List.map_map]
        rfl
      rw [kv]
      have m : mergeT [] (tabV (tabL (lotsFor ch zs) f2)) = tabV (tabL (lotsFor ch zs) f2) := merge_lots f2 (lotsFor ch zs) [] (lots_nodup HA.nd)
      rw [m]
      have e6 := same_upd (o := HO.dT (tabV (tabL (lotsFor ch zs) f2))) nb
      have hb : upd H5 b (.dT (tabV (tabL (lotsFor ch zs) f2))) b = some (.dT (tabV (tabL (lotsFor ch zs) f2))) := upd_same
      generalize upd H5 b (.dT (tabV (tabL (lotsFor ch zs) f2))) = H6 at e6 hb ⊢
      have e36 := Same.trans e5 e6
      refine make_quest (wt := f2) ((HA3.fo.same e5).same e6) HA.nd HA.le hb (far_new (HA3.fo.same e5) nb e6) (fun l m => m) (lots_nodup HA.nd) (fun l m => by rw [if_pos m]) fun y H7 ny e7 QY => ?_
      refine ⟨_, rfl, by show 2 ≤ sizeLine; rw [sizeLine_eq]; omega, fun p np => ?_⟩
      have e37 := Same.trans e36 e7
      obtain ⟨p1, p2⟩ := (S3.same e37).notfree np
      obtain ⟨y1, y2⟩ := (S3.same e36).notfree ny
      have e8 := same_upd (o := HO.tup [.ref y, .ref r2]) np
      exact q p y r2 f2 _ ((k3.trans (Same.kept e37)).free np p1 p2) ((k3.trans (Same.kept e36)).free ny y1 y2) nr2 upd_same (QY.same e8) (e8 _ _ (e37 _ _ hr2')) (fun l => by
        rcases hb2 l with h | h
        · omega
        · exact bd _ h) ((S3.same e37).same e8) ((k3.trans (Same.kept e37)).trans (Same.kept e8))
end
end Bk

namespace Bk
open PySem PySem.Spec PyProof.Rows L2
/-! ### comprehensions over a list, a test, each thing told by a relation -/
theorem Told.nil {α : Type} {Rel : Hp → V → α → Prop} {H : Hp} : Told Rel H [] [] := ⟨rfl, fun k u l h => by simp at h⟩
theorem Told.same {α : Type} {Rel : Hp → V → α → Prop} (st : Stays Rel) {H H' : Hp} {us : List V} {ls : List α} (t : Told Rel H us ls) (e : Same H H') : Told Rel H' us ls := ⟨t.1, fun k u l h1 h2 => st.sm _ _ _ _ e (t.2 k u l h1 h2)⟩
theorem Told.up {α : Type} {Rel : Hp → V → α → Prop} (st : Stays Rel) {H : Hp} {D : Addr} {as bs : List V} {us : List V} {ls : List α} (t : Told Rel H us ls) (h : H D = some (.lst as)) : Told Rel (upd H D (.lst bs)) us ls := ⟨t.1, fun k u l h1 h2 => st.up _ _ _ _ _ _ h (t.2 k u l h1 h2)⟩
theorem Told.snoc {α : Type} {Rel : Hp → V → α → Prop} {H : Hp} {us : List V} {ls : List α} {u : V} {l : α} (t : Told Rel H us ls) (r : Rel H u l) : Told Rel H (us ++ [u]) (ls ++ [l]) := by
  refine ⟨by rw [List.length_append, List.length_append, t.1]; rfl, fun k v m h1 h2 => ?_⟩
  by_cases c : k < us.length
  · rw [List.getElem?_append_left c] at h1
    rw [List.getElem?_append_left (by rw [← t.1]; exact c)] at h2
    exact t.2 k v m h1 h2
  · have hk := (List.getElem?_eq_some_iff.mp h1).1
    rw [List.length_append] at hk
    have hk : k < us.length + 1 := hk
    have e : k = us.length := by omega
    subst e
    rw [List.getElem?_append_right (Nat.le_refl _), Nat.sub_self] at h1
    rw [t.1, List.getElem?_append_right (Nat.le_refl _), Nat.sub_self] at h2
    cases h1
    cases h2
    exact r
theorem list_rel {α : Type} {K : PySem.W.Frag} {i : Nat} {a : Addr} {xs : List V} {ls : List α} {g : TG} {tt : TT} {te : TE} {vs : List Nat} {σ : L2.St} {H : Hp} {Q : VK} {Rel : Hp → V → α → Prop} (p : α → Bool) (st : Stays Rel) (hv : σ[i]? = some (some (.ref a))) (hS : SqL K H a xs) (lx : xs.length = ls.length) (hl : ls.length ≤ 100000)
    (hs : ∀ (k : Nat) (l : α) (x : V) (H2 : Hp) (R : VK) (N : Hp → Prop), ls[k]? = some l → xs[k]? = some x → Same H H2 → (∀ u H3, p l = true → Same H2 H3 → Rel H3 u l → R u H3) → (∀ H3, p l = false → Same H2 H3 → N H3) → g x (wipe σ vs) H2 fun σ2 H3 => wipe σ2 vs = wipe σ vs ∧ tt σ2 H3 fun b H4 => if b = true then te σ2 H4 R else N H4)
    (hd : ∀ D us H', H D = none → Same H H' → H' D = some (.lst us) → Told Rel H' us (ls.filter p) → Q (.ref D) H') : tLc (iList K (tVar i)) g tt te vs σ H Q := by
  refine ⟨_, hv, a, rfl, ⟨xs, hS⟩, fun D nD => lc_it walk_list (fun k H' => ∃ us : List V, Same H H' ∧ H' D = some (.lst us) ∧ us.length ≤ k ∧ Told Rel H' us ((ls.take k).filter p)) ?_ (fun k H' _ ⟨_, e, _, _, _⟩ => e.seq hS) ?_ ?_⟩
  · exact ⟨[], same_upd nD, upd_same, Nat.le_refl _, .nil⟩
  · rintro k x H' H2 hk ⟨us, e, hD, hu, t⟩ ⟨rfl, hx⟩
    have hkl : k < ls.length := by omega
    have hlk : ls[k]? = some ls[k] := List.getElem?_eq_getElem hkl
    refine hs k ls[k] x H2 (fun y H5 => ∃ acc, H5 D = some (.lst acc) ∧ acc.length < sizeLine ∧ ∃ us : List V, Same H (upd H5 D (.lst (acc ++ [y]))) ∧ upd H5 D (.lst (acc ++ [y])) D = some (.lst us) ∧ us.length ≤ k + 1 ∧ Told Rel (upd H5 D (.lst (acc ++ [y]))) us ((ls.take (k + 1)).filter p)) (fun H5 => ∃ us : List V, Same H H5 ∧ H5 D = some (.lst us) ∧ us.length ≤ k + 1 ∧ Told Rel H5 us ((ls.take (k + 1)).filter p)) hlk hx e (fun u H3 c e3 r => ?_) fun H3 c e3 => ?_
    · refine ⟨us, e3 _ _ hD, Evl.sz_lt (by omega), us ++ [u], Same.grow (Same.trans e e3) nD, upd_same, by rw [List.length_append]; exact Nat.succ_le_succ hu, ?_⟩
      rw [take_succ hlk, List.filter_append, List.filter_cons_of_pos c, List.filter_nil]
      exact ((t.same st e3).snoc r).up st (e3 _ _ hD)
    · refine ⟨us, Same.trans e e3, e3 _ _ hD, by omega, ?_⟩
      rw [take_succ hlk, List.filter_append, List.filter_cons_of_neg (by rw [c]; exact Bool.false_ne_true), List.filter_nil, List.append_nil]
      exact t.same st e3
  · rintro H' ⟨us, e, hD, _, t⟩
    rw [lx, List.take_length] at t
    exact hd D us H' nD e hD t
theorem list_map {α : Type} {K : PySem.W.Frag} {i : Nat} {a : Addr} {xs : List V} {ls : List α} {g : TG} {te : TE} {vs : List Nat} {σ : L2.St} {H : Hp} {Q : VK} (G : α → V) (hv : σ[i]? = some (some (.ref a))) (hS : SqL K H a xs) (lx : xs.length = ls.length) (hl : ls.length ≤ 100000)
    (hs : ∀ (k : Nat) (l : α) (x : V) (H2 : Hp) (R : VK), ls[k]? = some l → xs[k]? = some x → Same H H2 → (∀ H3, Same H2 H3 → R (G l) H3) → g x (wipe σ vs) H2 fun σ2 H3 => wipe σ2 vs = wipe σ vs ∧ te σ2 H3 R)
    (hd : ∀ D H', H D = none → Same H H' → H' D = some (.lst (ls.map G)) → Q (.ref D) H') : tLc (iList K (tVar i)) g tYes te vs σ H Q := by
  refine list_rel (fun _ => true) (stays_eq G) hv hS lx hl (fun k l x H2 R N h1 h2 e hR _ => ?_) fun D us H' nD e hD t => ?_
  · exact hs k l x H2 R h1 h2 e fun H3 e3 => hR _ H3 rfl e3 rfl
  · rw [List.filter_eq_self.mpr fun _ _ => rfl] at t
    exact hd D H' nD e (by rw [hD, told_eq t])
/-- a tuple of the names of a lot -/
def LotAt (H : Hp) (u : V) (l : List Str) : Prop := ∃ b : Addr, u = .ref b ∧ H b = some (.tup (l.map V.str))
theorem stays_lot : Stays LotAt := ⟨fun H1 H2 u l e => by
  rintro ⟨b, rfl, h⟩
  exact ⟨b, rfl, e _ _ h⟩, fun H1 D as bs u l hD => by
  rintro ⟨b, rfl, h⟩
  exact ⟨b, rfl, by rw [upd_ne (ne_of h hD (fun z => nomatch z))]; exact h⟩⟩
theorem told_lots {H : Hp} {us : List V} {ls : List (List Str)} (t : Told LotAt H us ls) : Ats H (fun l : List Str => l.map V.str) us ls := t
theorem tab_get {H : Hp} {t q : Addr} {ms : List (List Str)} {n : List Str → Int} {l : List Str} (ht : H t = some (.dT (tabV (tabL ms n)))) (hq : H q = some (.tup (l.map V.str))) : DGet H t (.ref q) (if l ∈ ms then some (.int (n l)) else none) := by
  have g : valV (tabV (tabL ms n)) (l.map Sum.inr) = if l ∈ ms then some (.int (n l)) else none := by
    rw [valV_tab, getT_tab]
    by_cases c : l ∈ ms
    · rw [if_pos c, if_pos c]; rfl
    · rw [if_neg c, if_neg c]; rfl
  exact .inr ⟨_, l.map Sum.inr, q, .inl ht, rfl, by rw [str_key]; exact hq, g.symm⟩
theorem isD_tab {H : Hp} {t : Addr} {ks : List (List Key × V)} (h : H t = some (.dT ks)) : IsD H t := .inr ⟨_, .inl h⟩
end Bk

namespace Bk
open PySem PySem.Spec PyProof.Rows L2
/-- a comprehension over zip(x, y) with a test -/
theorem zip_filt {α : Type} {K : PySem.W.Frag} {i j : Nat} {a b : Addr} {xs ys : List V} {ls : List α} {g : TG} {tt : TT} {te : TE} {vs : List Nat} {σ : L2.St} {H : Hp} {Q : VK} {Rel : Hp → V → α → Prop} (p : α → Bool) (st : Stays Rel) (hv1 : σ[i]? = some (some (.ref a))) (hv2 : σ[j]? = some (some (.ref b)))
    (hS : (SqL K H a xs ∧ SqL K H b ys) ∨ (SqT K H a xs ∧ SqT K H b ys)) (lx : xs.length = ls.length) (ly : ys.length = ls.length) (hl : ls.length ≤ 100000)
    (hs : ∀ (k : Nat) (l : α) (x y : V) (T : Addr) (H2 : Hp) (R : VK) (N : Hp → Prop), ls[k]? = some l → xs[k]? = some x → ys[k]? = some y → Same H H2 → H2 T = some (.tup [x, y]) → (∀ u H3, p l = true → Same H2 H3 → Rel H3 u l → R u H3) → (∀ H3, p l = false → Same H2 H3 → N H3) → g (.ref T) (wipe σ vs) H2 fun σ2 H3 => wipe σ2 vs = wipe σ vs ∧ tt σ2 H3 fun b H4 => if b = true then te σ2 H4 R else N H4)
    (hd : ∀ D us H', H D = none → Same H H' → H' D = some (.lst us) → Told Rel H' us (ls.filter p) → Q (.ref D) H') : tLc (RZ.iZipA K (tCons (tVar i) (tCons (tVar j) tNil))) g tt te vs σ H Q := by
  refine lcZ hv1 hv2 hS (by omega) fun D nD => ⟨fun k H' => ∃ us : List V, Same H H' ∧ H' D = some (.lst us) ∧ us.length ≤ k ∧ Told Rel H' us ((ls.take k).filter p), ?_, ?_, ?_, ?_⟩
  · exact ⟨[], same_upd nD, upd_same, Nat.le_refl _, .nil⟩
  · rintro k H' ⟨us, e, _⟩
    exact e
  · rintro k v H' H2 hk ⟨us, e, hD, hu, t⟩ ⟨T, x, y, rfl, nT, rfl, hx, hy⟩
    have hkl : k < ls.length := by omega
    have hlk : ls[k]? = some ls[k] := List.getElem?_eq_getElem hkl
    have e1 := same_upd (o := HO.tup [x, y]) nT
    refine hs k ls[k] x y T _ (fun y H5 => ∃ acc, H5 D = some (.lst acc) ∧ acc.length < sizeLine ∧ ∃ us : List V, Same H (upd H5 D (.lst (acc ++ [y]))) ∧ upd H5 D (.lst (acc ++ [y])) D = some (.lst us) ∧ us.length ≤ k + 1 ∧ Told Rel (upd H5 D (.lst (acc ++ [y]))) us ((ls.take (k + 1)).filter p)) (fun H5 => ∃ us : List V, Same H H5 ∧ H5 D = some (.lst us) ∧ us.length ≤ k + 1 ∧ Told Rel H5 us ((ls.take (k + 1)).filter p)) hlk hx hy (Same.trans e e1) upd_same (fun u H3 c e3 r => ?_) fun H3 c e3 => ?_
    · have e13 := Same.trans e1 e3
      refine ⟨us, e13 _ _ hD, Evl.sz_lt (by omega), us ++ [u], Same.grow (Same.trans e e13) nD, upd_same, by rw [List.length_append]; exact Nat.succ_le_succ hu, ?_⟩
      rw [take_succ hlk, List.filter_append, List.filter_cons_of_pos c, List.filter_nil]
      exact ((t.same st e13).snoc r).up st (e13 _ _ hD)
    · have e13 := Same.trans e1 e3
      refine ⟨us, Same.trans e e13, e13 _ _ hD, by omega, ?_⟩
      rw [take_succ hlk, List.filter_append, List.filter_cons_of_neg (by rw [c]; exact Bool.false_ne_true), List.filter_nil, List.append_nil]
      exact t.same st e13
  · rintro H' ⟨us, e, hD, _, t⟩
    rw [lx, List.take_length] at t
    exact hd D us H' nD e hD t
/-! pairs of a lot and a number as data -/
def dPairs (es : List (List Str × Int)) : PyData := .list (es.map fun e => .tuple [.tuple (e.1.map PyData.str), .int e.2])
theorem dp_pairs {K : PySem.W.Frag} {H : Hp} : ∀ {es : List (List Str × Int)} {us : List V}, Told PairAt H us es → DpAll K H us (es.map fun e => .tuple [.tuple (e.1.map PyData.str), .int e.2])
  | [], [], _ => .nil
  | [], _ :: _, t => by cases t.1
  | _ :: _, [], t => by cases t.1
  | e :: r, u :: us, t => by
    obtain ⟨p, b, rfl, h1, h2⟩ := t.2 0 u e rfl rfl
    exact .cons (.tup (SqT.of h1) (.cons (.tup (SqT.of h2) (dp_strs e.1)) (.cons (.int _) .nil))) (dp_pairs ⟨Nat.succ.inj t.1, fun k u l a b => t.2 (k + 1) u l a b⟩)
theorem depth_pairsA : ∀ es : List (List Str × Int), PyData.depthAll (es.map fun e => PyData.tuple [.tuple (e.1.map PyData.str), .int e.2]) ≤ 2
  | [] => by simp [PyData.depthAll]
  | e :: r => by
    have := depth_pairsA r
    have h := depth_strs e.1
    simp [PyData.depthAll, PyData.depth, h]
    omega
theorem depth_pairs (es : List (List Str × Int)) : (dPairs es).depth ≤ 3 := by
  have := depth_pairsA es
  simp [dPairs, PyData.depth]
  omega
theorem wide_pairsA {m : Nat} : ∀ es : List (List Str × Int), (∀ e ∈ es, e.1.length ≤ m) → wideAll (es.map fun e => PyData.tuple [.tuple (e.1.map PyData.str), .int e.2]) ≤ m + 2
  | [], _ => by simp [wideAll]
  | e :: r, h => by
    have := wide_pairsA r fun x hx => h x (List.mem_cons_of_mem _ hx)
    have h1 := wide_strs e.1
    have h2 := h e List.mem_cons_self
    simp [wideAll, wide, h1]
    omega
theorem wide_pairs {es : List (List Str × Int)} (h1 : es.length ≤ 2000) (h2 : ∀ e ∈ es, e.1.length ≤ 100) : wide (dPairs es) ≤ 90000 := by
  have := wide_pairsA es h2
  simp [dPairs, wide]
  omega
end Bk

namespace Bk
open PySem PySem.Spec PyProof.Rows L2
/-! fractions in lowest terms: pairs of whole numbers -/
/-- both parts are below 2 ^ n -/
def FrB (n : Nat) (q : Rat) : Prop := q.num.natAbs < 2 ^ n ∧ q.den < 2 ^ n
def pairQ (q : Rat) : List V := [.int q.num, .int (q.den : Int)]
theorem mk_num {t : Int} {b : Nat} (hb : 0 < b) : (mkRat t b).num = t / ((Nat.gcd t.natAbs b : Nat) : Int) := by
  rw [Rat.num_mkRat, if_neg (by omega), Nat.gcd_comm]
theorem mk_den {t : Int} {b : Nat} (hb : 0 < b) : ((mkRat t b).den : Int) = (b : Int) / ((Nat.gcd t.natAbs b : Nat) : Int) := by
  rw [Rat.den_mkRat, if_neg (by omega), Nat.gcd_comm]
  exact Int.natCast_ediv _ _
theorem FrB.mk {n : Nat} {t : Int} {b : Nat} (ht : t.natAbs < 2 ^ n) (hb : 0 < b) (hb2 : b < 2 ^ n) : FrB n (mkRat t b) := by
  refine ⟨?_, ?_⟩
  · rw [mk_num hb]
    exact Nat.lt_of_le_of_lt (Int.natAbs_ediv_le_natAbs _ _) ht
  · rw [Rat.den_mkRat, if_neg (by omega)]
    exact Nat.lt_of_le_of_lt (Nat.div_le_self _ _) hb2
theorem FrB.more {n m : Nat} {q : Rat} (h : FrB n q) (hl : n ≤ m) : FrB m q := ⟨Nat.lt_of_lt_of_le h.1 (Nat.pow_le_pow_right (by decide) hl), Nat.lt_of_lt_of_le h.2 (Nat.pow_le_pow_right (by decide) hl)⟩
theorem mk_add (p q : Rat) : mkRat (p.num * (q.den : Int) + q.num * (p.den : Int)) (p.den * q.den) = p + q := by
  rw [Rat.add_def, Rat.normalize_eq_mkRat]
theorem mk_mul (p q : Rat) : mkRat (p.num * q.num) (p.den * q.den) = p * q := by
  rw [Rat.mul_def, Rat.normalize_eq_mkRat]
theorem num_int (k : Int) : ((k : Rat)).num = k := rfl
theorem den_int (k : Int) : ((k : Rat)).den = 1 := rfl
theorem mk_mulI (p : Rat) (k : Int) : mkRat (p.num * k) p.den = p * (k : Rat) := by
  have := mk_mul p (k : Rat)
  rw [num_int, den_int, Nat.mul_one] at this
  exact this
theorem FrB.add {m n : Nat} {p q : Rat} (hp : FrB m p) (hq : FrB n q) : FrB (m + n + 1) (p + q) := by
  rw [← mk_add]
  have h1 : (p.num * (q.den : Int)).natAbs < 2 ^ (m + n) := wide_lt hp.1 (by rw [Int.natAbs_natCast]; exact hq.2)
  have h2 : (q.num * (p.den : Int)).natAbs < 2 ^ (n + m) := wide_lt hq.1 (by rw [Int.natAbs_natCast]; exact hp.2)
  rw [Nat.add_comm n m] at h2
  have h3 : p.den * q.den < 2 ^ (m + n) := by
    rw [Nat.pow_add]
    exact Nat.mul_lt_mul'' hp.2 hq.2
  have h4 : 2 ^ (m + n + 1) = 2 ^ (m + n) * 2 := Nat.pow_succ ..
  have h5 := Int.natAbs_add_le (p.num * (q.den : Int)) (q.num * (p.den : Int))
  exact .mk (by omega) (Nat.mul_pos p.den_pos q.den_pos) (by omega)
theorem FrB.mulI {m j : Nat} {p : Rat} {k : Int} (hp : FrB m p) (hk : k.natAbs < 2 ^ j) : FrB (m + j) (p * (k : Rat)) := by
  rw [← mk_mulI]
  refine .mk (wide_lt hp.1 hk) p.den_pos (Nat.lt_of_lt_of_le hp.2 (Nat.pow_le_pow_right (by decide) (by omega)))
theorem FrB.mul {m n : Nat} {p q : Rat} (hp : FrB m p) (hq : FrB n q) : FrB (m + n) (p * q) := by
  rw [← mk_mul]
  refine .mk (wide_lt hp.1 hq.1) (Nat.mul_pos p.den_pos q.den_pos) ?_
  rw [Nat.pow_add]
  exact Nat.mul_lt_mul'' hp.2 hq.2
theorem FrB.pos {n : Nat} {q : Rat} (h : FrB n q) : 0 < n := by
  have := q.den_pos
  have h2 := h.2
  cases n with
  | zero => rw [Nat.pow_zero] at h2; omega
  | succ n => omega
/-- a value that tells a fraction -/
def FrV (K : PySem.W.Frag) (H : Hp) (v : V) (q : Rat) : Prop := ∃ a : Addr, v = .ref a ∧ SqT K H a (pairQ q)
theorem FrV.same {K : PySem.W.Frag} {H H' : Hp} {v : V} {q : Rat} (h : FrV K H v q) (e : Same H H') : FrV K H' v q := by
  obtain ⟨a, h1, h2⟩ := h
  exact ⟨a, h1, Same.sqt e h2⟩
theorem if_no {c : Bool} {a b : Prop} (h : c = false) (q : b) : if c = true then a else b := by
  subst h
  exact q
theorem if_so {c : Bool} {a b : Prop} (h : c = true) (q : a) : if c = true then a else b := by
  subst h
  exact q
/-- either of two readings of several targets -/
theorem pg_or {X : Cx} {tg : Expr} {g1 g2 : TG} (h1 : PG X tg g1) (h2 : PG X tg g2) : PG X tg (fun v σ H R => g1 v σ H R ∨ g2 v σ H R) := ⟨fun pins s σ H v u Q I r h => h.elim (h1.run pins s σ H v u Q I r) (h2.run pins s σ H v u Q I r)⟩
theorem kTgA {X : Cx} (K : PySem.W.Frag) (n : Nat) {es : List Expr} {k : Nat} {t : TGs} {pos : Pos} (hc : X.calm = true) (h : PGs X es t) (e : X.K = K := by rfl) (hn : (assignEach es X.env).length = n := by rfl) (hst : (assignEach es X.env).findIdx? (·.1) = none := by rfl) :
    PG X (.Tuple es k pos) (fun v σ H R => gTup K n t v σ H R ∨ gLst K n t v σ H R) := pg_or (kTg K n hc h e hn hst) (e ▸ pg_lst hc h hn hst)
/-- the sum of fractions, as it is reckoned -/
def sumQ : List Rat → Rat := fun qs => qs.foldl (fun a b => a + b) 0
end Bk

namespace Bk
open PySem PySem.Spec PyProof.Rows L2
/-- the greatest divisor of two -/
def spGcd : Sp := fun vs H Q _ => ∃ a b : Nat, vs = [.int (a : Int), .int (b : Int)] ∧ Q (.int ((Nat.gcd a b : Nat) : Int)) H
/-- a fraction in lowest terms -/
def spFrac : Sp := fun vs H Q _ => ∃ (t : Int) (b : Nat), vs = [.int t, .int (b : Int)] ∧ 0 < b ∧ b < 2 ^ 8000 ∧ ∀ p H', H p = none → Same H H' → H' p = some (.tup (pairQ (mkRat t b))) → Q (.ref p) H'
section
variable {P : Program} {w : World} {K : PySem.W.Frag} {mg : Str → Option Value} {base : Heap}
theorem scGcd : FnScope ["one", "other"] ["one", "other"] (defScope (topS 18)) := ⟨rfl, rfl, rfl, by decide +kernel, rfl, by decide +kernel, by decide +kernel⟩
theorem ok_gcd {f : Addr} {fd : FuncData} (F : Fun K "greatest_divisor" "greatest_divisor" (topS 18) f fd) : FnOk P w K mg base CX0 1 f fd ["one", "other"] spGcd := by
  refine F.ok scGcd (fun vs H Q E h => ?_) (fun cdv A outer s H vs Q E hr h => ?_)
  · obtain ⟨a, b, rfl, _⟩ := h
    rfl
  · obtain ⟨a, b, rfl, q⟩ := h
    have nd := scGcd.nd
    refine ⟨_, (pss_cons (ps_while PassesOwn.never (pt_cmpR op_gt (pv 1) pe_int (nomark _)) (pss_one (ps_par (i := 0) (j := 1) rfl nd rfl rfl (by decide) rfl rfl (pa_cons (pv 1) (pa_cons (pe_op op_mod (pv 0) (pv 1)) pa_nil)) (by rfl))))
      (pss_one (ps_ret (pv 0)))), ?_⟩
    refine ⟨fun m σ' H' => ∃ c d : Nat, d = m ∧ σ' = [some (.int (c : Int)), some (.int (d : Int))] ∧ H' = H ∧ Nat.gcd c d = Nat.gcd a b, ⟨b, a, b, rfl, rfl, rfl, rfl⟩, ?_⟩
    rintro m σ' H' ⟨c, d, rfl, rfl, rfl, e⟩
    refine ⟨_, rfl, _, _, rfl, rfl, _, rfl, ?_⟩
    by_cases z : (0 : Int) < (d : Int)
    · rw [decide_eq_true z]
      refine iteT ?_
      refine ⟨fun σ' H2 => σ' = [some (.int (d : Int)), some (.int ((c % d : Nat) : Int))] ∧ H2 = H', ?_, ?_⟩
      · rintro σ' H2 ⟨rfl, rfl⟩
        have hd : 0 < d := by omega
        exact ⟨c % d, Nat.mod_lt _ hd, d, c % d, rfl, rfl, rfl, by rw [← e, Nat.gcd_comm d, ← Nat.gcd_rec d c, Nat.gcd_comm]⟩
      · refine ⟨_, rfl, _, rfl, _, rfl, _, _, rfl, rfl, z, _, _, rfl, ?_⟩
        exact ⟨rfl, rfl⟩
    · rw [decide_eq_false z]
      refine iteF ?_
      have d0 : d = 0 := by omega
      subst d0
      rw [Nat.gcd_zero_right] at e
      subst e
      exact ⟨_, rfl, q⟩
theorem scFrac : FnScope ["top", "bottom", "divisor"] ["top", "bottom"] (defScope (topS 19)) := ⟨rfl, rfl, rfl, by decide +kernel, rfl, by decide +kernel, by decide +kernel⟩
theorem ok_frac (B : Bi mg) {f f1 : Addr} {fd fd1 : FuncData} (c_greatest_divisor : Cal P w K mg base CX0 1 "greatest_divisor" f1 fd1 ["one", "other"] spGcd) (F : Fun K "fraction" "fraction" (topS 19) f fd) : FnOk P w K mg base CX0 2 f fd ["top", "bottom"] spFrac := by
  refine F.ok scFrac (fun vs H Q E h => ?_) (fun cdv A outer s H vs Q E hr h => ?_)
  · obtain ⟨t, b, rfl, _⟩ := h
    rfl
  · obtain ⟨t, b, rfl, b0, b8, q⟩ := h
    have nd := scFrac.nd
    have hr_greatest_divisor : Room 1 _ := hr.mono (by decide)
    refine ⟨_, (pss_cons (ps_set (i := 2) nd rfl (Or.inl rfl) (pe_call c_greatest_divisor.ok hr_greatest_divisor (by rfl) c_greatest_divisor.g c_greatest_divisor.kp c_greatest_divisor.b .nil pass0 (pa_cons (pe_callB call_abs (by rfl) B.abs (by decide +kernel) (pa_cons (pv 0) pa_nil)) (pa_cons (pv 1) pa_nil))))
      (pss_one (ps_ret (pe_tup (pa_cons (pe_op op_fdivW (pv 0) (pv 2)) (pa_cons (pe_op op_fdivW (pv 1) (pv 2)) pa_nil)))))), ?_⟩
    have g0 : 0 < Nat.gcd t.natAbs b := Nat.gcd_pos_of_pos_right _ b0
    have gl : Nat.gcd t.natAbs b < 2 ^ 8000 := Nat.lt_of_le_of_lt (Nat.le_of_dvd b0 (Nat.gcd_dvd_right _ _)) b8
    have wd : ∀ i : Int, CDivW i ((Nat.gcd t.natAbs b : Nat) : Int) := fun i => wide_div (by omega) (by rw [Int.natAbs_natCast]; exact gl) (by decide) (by decide)
    have ab : (if t < 0 then -t else t) = ((t.natAbs : Nat) : Int) := by split <;> omega
    refine ⟨_, rfl, t, rfl, ?_⟩
    rw [ab]
    refine ⟨_, rfl, _, _, rfl, ?_⟩
    refine ⟨_, rfl, _, rfl, _, _, rfl, rfl, wd _, ?_⟩
    refine ⟨_, rfl, _, rfl, _, _, rfl, rfl, wd _, ?_⟩
    refine ⟨by show 2 ≤ sizeLine; rw [sizeLine_eq]; omega, fun p np => ?_⟩
    refine q p _ np (same_upd np) ?_
    show upd H p (HO.tup [V.int (t / ((Nat.gcd t.natAbs b : Nat) : Int)), V.int ((b : Int) / ((Nat.gcd t.natAbs b : Nat) : Int))]) p = _
    rw [upd_same, ← mk_num b0, ← mk_den b0]
    rfl
theorem scLow : FnScope ["_law_top", "_law_bottom", "_law_one", "_law_other"] ["_law_top", "_law_bottom"] (defScope (topS 62)) := ⟨rfl, rfl, rfl, by decide +kernel, rfl, by decide +kernel, by decide +kernel⟩
theorem ok_low (B : Bi mg) {f : Addr} {fd : FuncData} (F : Fun K "_law_f_lowest" "_law_f_lowest" (topS 62) f fd) : FnOk P w K mg base CX0 1 f fd ["_law_top", "_law_bottom"] spFrac := by
  refine F.ok scLow (fun vs H Q E h => ?_) (fun cdv A outer s H vs Q E hr h => ?_)
  · obtain ⟨t, b, rfl, _⟩ := h
    rfl
  · obtain ⟨t, b, rfl, b0, b8, q⟩ := h
    have nd := scLow.nd
    refine ⟨_, (pss_cons (ps_par (i := 2) (j := 3) rfl nd rfl rfl (by decide) rfl rfl (pa_cons (pe_callB call_abs (by rfl) B.abs (by decide +kernel) (pa_cons (pv 0) pa_nil)) (pa_cons (pv 1) pa_nil)) (by rfl))
      (pss_cons (ps_while PassesOwn.never (pt_cmpR op_gt (pv 3) pe_int (nomark _)) (pss_one (ps_par (i := 2) (j := 3) rfl nd rfl rfl (by decide) rfl rfl (pa_cons (pv 3) (pa_cons (pe_op op_mod (pv 2) (pv 3)) pa_nil)) (by rfl))))
      (pss_one (ps_ret (pe_tup (pa_cons (pe_op op_fdivW (pv 0) (pv 2)) (pa_cons (pe_op op_fdivW (pv 1) (pv 2)) pa_nil))))))), ?_⟩
    have g0 : 0 < Nat.gcd t.natAbs b := Nat.gcd_pos_of_pos_right _ b0
    have gl : Nat.gcd t.natAbs b < 2 ^ 8000 := Nat.lt_of_le_of_lt (Nat.le_of_dvd b0 (Nat.gcd_dvd_right _ _)) b8
    have wd : ∀ i : Int, CDivW i ((Nat.gcd t.natAbs b : Nat) : Int) := fun i => wide_div (by omega) (by rw [Int.natAbs_natCast]; exact gl) (by decide) (by decide)
    have ab : (if t < 0 then -t else t) = ((t.natAbs : Nat) : Int) := by split <;> omega
    refine ⟨_, rfl, t, rfl, ?_⟩
    rw [ab]
    refine ⟨_, rfl, _, _, rfl, ?_⟩
    refine ⟨fun m σ' H' => ∃ c d : Nat, d = m ∧ σ' = [some (.int t), some (.int (b : Int)), some (.int (c : Int)), some (.int (d : Int))] ∧ H' = H ∧ Nat.gcd c d = Nat.gcd t.natAbs b, ⟨b, t.natAbs, b, rfl, rfl, rfl, rfl⟩, ?_⟩
    rintro m σ' H' ⟨c, d, rfl, rfl, rfl, e⟩
    refine ⟨_, rfl, _, _, rfl, rfl, _, rfl, ?_⟩
    by_cases z : (0 : Int) < (d : Int)
    · rw [decide_eq_true z]
      refine iteT ?_
      refine ⟨fun σ' H2 => σ' = [some (.int t), some (.int (b : Int)), some (.int (d : Int)), some (.int ((c % d : Nat) : Int))] ∧ H2 = H', ?_, ?_⟩
      · rintro σ' H2 ⟨rfl, rfl⟩
        have hd : 0 < d := by omega
        exact ⟨c % d, Nat.mod_lt _ hd, d, c % d, rfl, rfl, rfl, by rw [← e, Nat.gcd_comm d, ← Nat.gcd_rec d c, Nat.gcd_comm]⟩
      · refine ⟨_, rfl, _, rfl, _, rfl, _, _, rfl, rfl, z, _, _, rfl, ?_⟩
        exact ⟨rfl, rfl⟩
    · rw [decide_eq_false z]
      refine iteF ?_
      have d0 : d = 0 := by omega
      subst d0
      rw [Nat.gcd_zero_right] at e
      subst e
      refine ⟨_, rfl, _, rfl, _, _, rfl, rfl, wd _, ?_⟩
      refine ⟨_, rfl, _, rfl, _, _, rfl, rfl, wd _, ?_⟩
      refine ⟨by show 2 ≤ sizeLine; rw [sizeLine_eq]; omega, fun p np => ?_⟩
      refine q p _ np (same_upd np) ?_
      show upd _ p (HO.tup [V.int (t / ((Nat.gcd t.natAbs b : Nat) : Int)), V.int ((b : Int) / ((Nat.gcd t.natAbs b : Nat) : Int))]) p = _
      rw [upd_same, ← mk_num b0, ← mk_den b0]
      rfl
end
end Bk

namespace Bk
open PySem PySem.Spec PyProof.Rows L2
def spPlusF (K : PySem.W.Frag) : Sp := fun vs H Q _ => ∃ (u v : V) (p q : Rat) (m n : Nat), vs = [u, v] ∧ FrV K H u p ∧ FrV K H v q ∧ FrB m p ∧ FrB n q ∧ m + n ≤ 7000 ∧ ∀ z H', H z = none → Same H H' → H' z = some (.tup (pairQ (p + q))) → Q (.ref z) H'
def spTimesF (K : PySem.W.Frag) : Sp := fun vs H Q _ => ∃ (u v : V) (p q : Rat) (m n : Nat), vs = [u, v] ∧ FrV K H u p ∧ FrV K H v q ∧ FrB m p ∧ FrB n q ∧ m + n ≤ 7000 ∧ ∀ z H', H z = none → Same H H' → H' z = some (.tup (pairQ (p * q))) → Q (.ref z) H'
def spTimesI (K : PySem.W.Frag) : Sp := fun vs H Q _ => ∃ (u : V) (k : Int) (p : Rat) (m n : Nat), vs = [u, .int k] ∧ FrV K H u p ∧ FrB m p ∧ k.natAbs < 2 ^ n ∧ 0 < n ∧ m + n ≤ 7000 ∧ ∀ z H', H z = none → Same H H' → H' z = some (.tup (pairQ (p * (k : Rat)))) → Q (.ref z) H'
def spBelow (K : PySem.W.Frag) : Sp := fun vs H Q _ => ∃ (u v : V) (p q : Rat) (m n : Nat), vs = [u, v] ∧ FrV K H u p ∧ FrV K H v q ∧ FrB m p ∧ FrB n q ∧ m + n ≤ 7000 ∧ Q (.bl (decide (p < q))) H
theorem pow_small {m n k : Nat} (h : m + n ≤ k) {a b : Nat} (ha : a < 2 ^ m) (hb : b < 2 ^ n) : a * b < 2 ^ k := Nat.lt_of_lt_of_le (by rw [Nat.pow_add]; exact Nat.mul_lt_mul'' ha hb) (Nat.pow_le_pow_right (by decide) h)
theorem mulw {m n : Nat} {i j : Int} (hi : i.natAbs < 2 ^ m) (hj : j.natAbs < 2 ^ n) (m0 : 0 < m) (n0 : 0 < n) (mn : m + n ≤ 7000) : CMulW i j := wide_mul hi hj m0 n0 (by omega)
theorem den_abs {n : Nat} {q : Rat} (h : FrB n q) : ((q.den : Int)).natAbs < 2 ^ n := by
  rw [Int.natAbs_natCast]
  exact h.2
section
variable {P : Program} {w : World} {K : PySem.W.Frag} {mg : Str → Option Value} {base : Heap}
theorem scPl : FnScope ["one", "other"] ["one", "other"] (defScope (topS 21)) := ⟨rfl, rfl, rfl, by decide +kernel, rfl, by decide +kernel, by decide +kernel⟩
theorem ok_pl (B : Bi mg) {f f1 : Addr} {fd fd1 : FuncData} (c_fraction : Cal P w K mg base CX0 2 "fraction" f1 fd1 ["top", "bottom"] spFrac) (F : Fun K "plus" "plus" (topS 21) f fd) : FnOk P w K mg base CX0 3 f fd ["one", "other"] (spPlusF K) := by
  refine F.ok scPl (fun vs H Q E h => ?_) (fun cdv A outer s H vs Q E hr h => ?_)
  · obtain ⟨u, v, p, q, m, n, rfl, _⟩ := h
    rfl
  · obtain ⟨u, v, p, q, m, n, rfl, ⟨a, rfl, ha⟩, ⟨b, rfl, hb⟩, bp, bq, mn, qq⟩ := h
    have nd := scPl.nd
    have hr_fraction : Room 2 _ := hr.mono (by decide)
    refine ⟨_, (pss_one (ps_ret (pe_call c_fraction.ok hr_fraction (by rfl) c_fraction.g c_fraction.kp c_fraction.b .nil pass0 (pa_cons (pe_op op_add (pe_op op_mulW (pe_ix (kIxT K) (pv 0) pe_int (fun _ _ => rfl)) (pe_ix (kIxT K) (pv 1) pe_int (fun _ _ => rfl))) (pe_op op_mulW (pe_ix (kIxT K) (pv 1) pe_int (fun _ _ => rfl)) (pe_ix (kIxT K) (pv 0) pe_int (fun _ _ => rfl)))) (pa_cons (pe_op op_mulW (pe_ix (kIxT K) (pv 0) pe_int (fun _ _ => rfl)) (pe_ix (kIxT K) (pv 1) pe_int (fun _ _ => rfl))) pa_nil))))), ?_⟩
    refine ⟨_, rfl, a, _, _, _, rfl, rfl, ha, rfl, ⟨_, rfl, b, _, _, _, rfl, rfl, hb, rfl, ⟨_, _, rfl, rfl, mulw bp.1 (den_abs bq) bp.pos bq.pos mn, ?_⟩⟩⟩
    refine ⟨_, rfl, b, _, _, _, rfl, rfl, hb, rfl, ⟨_, rfl, a, _, _, _, rfl, rfl, ha, rfl, ⟨_, _, rfl, rfl, mulw bq.1 (den_abs bp) bq.pos bp.pos (by omega), ?_⟩⟩⟩
    refine ⟨_, _, rfl, rfl, ?_⟩
    refine ⟨_, rfl, a, _, _, _, rfl, rfl, ha, rfl, ⟨_, rfl, b, _, _, _, rfl, rfl, hb, rfl, ⟨_, _, rfl, rfl, mulw (den_abs bp) (den_abs bq) bp.pos bq.pos mn, ?_⟩⟩⟩
    refine ⟨_, p.den * q.den, rfl, Nat.mul_pos p.den_pos q.den_pos, pow_small (by omega) bp.2 bq.2, fun z H' nz e hz => ?_⟩
    rw [mk_add] at hz
    exact qq z H' nz e hz
theorem scTi : FnScope ["one", "other"] ["one", "other"] (defScope (topS 22)) := ⟨rfl, rfl, rfl, by decide +kernel, rfl, by decide +kernel, by decide +kernel⟩
theorem ok_ti (B : Bi mg) {f f1 : Addr} {fd fd1 : FuncData} (c_fraction : Cal P w K mg base CX0 2 "fraction" f1 fd1 ["top", "bottom"] spFrac) (F : Fun K "times" "times" (topS 22) f fd) : FnOk P w K mg base CX0 3 f fd ["one", "other"] (spTimesF K) := by
  refine F.ok scTi (fun vs H Q E h => ?_) (fun cdv A outer s H vs Q E hr h => ?_)
  · obtain ⟨u, v, p, q, m, n, rfl, _⟩ := h
    rfl
  · obtain ⟨u, v, p, q, m, n, rfl, ⟨a, rfl, ha⟩, ⟨b, rfl, hb⟩, bp, bq, mn, qq⟩ := h
    have nd := scTi.nd
    have hr_fraction : Room 2 _ := hr.mono (by decide)
    refine ⟨_, (pss_one (ps_ret (pe_call c_fraction.ok hr_fraction (by rfl) c_fraction.g c_fraction.kp c_fraction.b .nil pass0 (pa_cons (pe_op op_mulW (pe_ix (kIxT K) (pv 0) pe_int (fun _ _ => rfl)) (pe_ix (kIxT K) (pv 1) pe_int (fun _ _ => rfl))) (pa_cons (pe_op op_mulW (pe_ix (kIxT K) (pv 0) pe_int (fun _ _ => rfl)) (pe_ix (kIxT K) (pv 1) pe_int (fun _ _ => rfl))) pa_nil))))), ?_⟩
    refine ⟨_, rfl, a, _, _, _, rfl, rfl, ha, rfl, ⟨_, rfl, b, _, _, _, rfl, rfl, hb, rfl, ⟨_, _, rfl, rfl, mulw bp.1 bq.1 bp.pos bq.pos mn, ?_⟩⟩⟩
    refine ⟨_, rfl, a, _, _, _, rfl, rfl, ha, rfl, ⟨_, rfl, b, _, _, _, rfl, rfl, hb, rfl, ⟨_, _, rfl, rfl, mulw (den_abs bp) (den_abs bq) bp.pos bq.pos mn, ?_⟩⟩⟩
    refine ⟨_, p.den * q.den, rfl, Nat.mul_pos p.den_pos q.den_pos, pow_small (by omega) bp.2 bq.2, fun z H' nz e hz => ?_⟩
    rw [mk_mul] at hz
    exact qq z H' nz e hz
theorem scLPl : FnScope ["_law_x", "_law_y"] ["_law_x", "_law_y"] (defScope (topS 63)) := ⟨rfl, rfl, rfl, by decide +kernel, rfl, by decide +kernel, by decide +kernel⟩
theorem ok_lpl (B : Bi mg) {f f1 : Addr} {fd fd1 : FuncData} (c__law_f_lowest : Cal P w K mg base CX0 1 "_law_f_lowest" f1 fd1 ["_law_top", "_law_bottom"] spFrac) (F : Fun K "_law_f_plus" "_law_f_plus" (topS 63) f fd) : FnOk P w K mg base CX0 2 f fd ["_law_x", "_law_y"] (spPlusF K) := by
  refine F.ok scLPl (fun vs H Q E h => ?_) (fun cdv A outer s H vs Q E hr h => ?_)
  · obtain ⟨u, v, p, q, m, n, rfl, _⟩ := h
    rfl
  · obtain ⟨u, v, p, q, m, n, rfl, ⟨a, rfl, ha⟩, ⟨b, rfl, hb⟩, bp, bq, mn, qq⟩ := h
    have nd := scLPl.nd
    have hr__law_f_lowest : Room 1 _ := hr.mono (by decide)
    refine ⟨_, (pss_one (ps_ret (pe_call c__law_f_lowest.ok hr__law_f_lowest (by rfl) c__law_f_lowest.g c__law_f_lowest.kp c__law_f_lowest.b .nil pass0 (pa_cons (pe_op op_add (pe_op op_mulW (pe_ix (kIxT K) (pv 0) pe_int (fun _ _ => rfl)) (pe_ix (kIxT K) (pv 1) pe_int (fun _ _ => rfl))) (pe_op op_mulW (pe_ix (kIxT K) (pv 1) pe_int (fun _ _ => rfl)) (pe_ix (kIxT K) (pv 0) pe_int (fun _ _ => rfl)))) (pa_cons (pe_op op_mulW (pe_ix (kIxT K) (pv 0) pe_int (fun _ _ => rfl)) (pe_ix (kIxT K) (pv 1) pe_int (fun _ _ => rfl))) pa_nil))))), ?_⟩
    refine ⟨_, rfl, a, _, _, _, rfl, rfl, ha, rfl, ⟨_, rfl, b, _, _, _, rfl, rfl, hb, rfl, ⟨_, _, rfl, rfl, mulw bp.1 (den_abs bq) bp.pos bq.pos mn, ?_⟩⟩⟩
    refine ⟨_, rfl, b, _, _, _, rfl, rfl, hb, rfl, ⟨_, rfl, a, _, _, _, rfl, rfl, ha, rfl, ⟨_, _, rfl, rfl, mulw bq.1 (den_abs bp) bq.pos bp.pos (by omega), ?_⟩⟩⟩
    refine ⟨_, _, rfl, rfl, ?_⟩
    refine ⟨_, rfl, a, _, _, _, rfl, rfl, ha, rfl, ⟨_, rfl, b, _, _, _, rfl, rfl, hb, rfl, ⟨_, _, rfl, rfl, mulw (den_abs bp) (den_abs bq) bp.pos bq.pos mn, ?_⟩⟩⟩
    refine ⟨_, p.den * q.den, rfl, Nat.mul_pos p.den_pos q.den_pos, pow_small (by omega) bp.2 bq.2, fun z H' nz e hz => ?_⟩
    rw [mk_add] at hz
    exact qq z H' nz e hz
theorem scLTi : FnScope ["_law_x", "_law_number"] ["_law_x", "_law_number"] (defScope (topS 64)) := ⟨rfl, rfl, rfl, by decide +kernel, rfl, by decide +kernel, by decide +kernel⟩
theorem ok_lti (B : Bi mg) {f f1 : Addr} {fd fd1 : FuncData} (c__law_f_lowest : Cal P w K mg base CX0 1 "_law_f_lowest" f1 fd1 ["_law_top", "_law_bottom"] spFrac) (F : Fun K "_law_f_times" "_law_f_times" (topS 64) f fd) : FnOk P w K mg base CX0 2 f fd ["_law_x", "_law_number"] (spTimesI K) := by
  refine F.ok scLTi (fun vs H Q E h => ?_) (fun cdv A outer s H vs Q E hr h => ?_)
  · obtain ⟨u, k, p, m, n, rfl, _⟩ := h
    rfl
  · obtain ⟨u, k, p, m, n, rfl, ⟨a, rfl, ha⟩, bp, bk, n0, mn, qq⟩ := h
    have nd := scLTi.nd
    have hr__law_f_lowest : Room 1 _ := hr.mono (by decide)
    refine ⟨_, (pss_one (ps_ret (pe_call c__law_f_lowest.ok hr__law_f_lowest (by rfl) c__law_f_lowest.g c__law_f_lowest.kp c__law_f_lowest.b .nil pass0 (pa_cons (pe_op op_mulW (pe_ix (kIxT K) (pv 0) pe_int (fun _ _ => rfl)) (pv 1)) (pa_cons (pe_ix (kIxT K) (pv 0) pe_int (fun _ _ => rfl)) pa_nil))))), ?_⟩
    refine ⟨_, rfl, a, _, _, _, rfl, rfl, ha, rfl, ⟨_, rfl, _, _, rfl, rfl, mulw bp.1 bk bp.pos n0 mn, ?_⟩⟩
    refine ⟨_, rfl, a, _, _, _, rfl, rfl, ha, rfl, ?_⟩
    refine ⟨_, p.den, rfl, p.den_pos, Nat.lt_of_lt_of_le bp.2 (Nat.pow_le_pow_right (by decide) (by omega)), fun z H' nz e hz => ?_⟩
    rw [mk_mulI] at hz
    exact qq z H' nz e hz
theorem scLBe : FnScope ["_law_x", "_law_y"] ["_law_x", "_law_y"] (defScope (topS 65)) := ⟨rfl, rfl, rfl, by decide +kernel, rfl, by decide +kernel, by decide +kernel⟩
theorem ok_lbe (B : Bi mg) {f : Addr} {fd : FuncData} (F : Fun K "_law_f_below" "_law_f_below" (topS 65) f fd) : FnOk P w K mg base CX0 1 f fd ["_law_x", "_law_y"] (spBelow K) := by
  refine F.ok scLBe (fun vs H Q E h => ?_) (fun cdv A outer s H vs Q E hr h => ?_)
  · obtain ⟨u, v, p, q, m, n, rfl, _⟩ := h
    rfl
  · obtain ⟨u, v, p, q, m, n, rfl, ⟨a, rfl, ha⟩, ⟨b, rfl, hb⟩, bp, bq, mn, qq⟩ := h
    have nd := scLBe.nd
    refine ⟨_, (pss_one (ps_ret (pe_cmpR op_lt (pe_op op_mulW (pe_ix (kIxT K) (pv 0) pe_int (fun _ _ => rfl)) (pe_ix (kIxT K) (pv 1) pe_int (fun _ _ => rfl))) (pe_op op_mulW (pe_ix (kIxT K) (pv 1) pe_int (fun _ _ => rfl)) (pe_ix (kIxT K) (pv 0) pe_int (fun _ _ => rfl))) (nomark _)))), ?_⟩
    refine ⟨_, rfl, a, _, _, _, rfl, rfl, ha, rfl, ⟨_, rfl, b, _, _, _, rfl, rfl, hb, rfl, ⟨_, _, rfl, rfl, mulw bp.1 (den_abs bq) bp.pos bq.pos mn, ?_⟩⟩⟩
    refine ⟨_, rfl, b, _, _, _, rfl, rfl, hb, rfl, ⟨_, rfl, a, _, _, _, rfl, rfl, ha, rfl, ⟨_, _, rfl, rfl, mulw bq.1 (den_abs bp) bq.pos bp.pos (by omega), ?_⟩⟩⟩
    refine ⟨_, _, rfl, rfl, ?_⟩
    show Q (.bl (decide (p.num * (q.den : Int) < q.num * (p.den : Int)))) H
    rw [show decide (p.num * (q.den : Int) < q.num * (p.den : Int)) = decide (p < q) from decide_eq_decide.mpr (Rat.lt_iff p q).symm]
    exact qq
end
end Bk

namespace Bk
open PySem PySem.Spec PyProof.Rows L2
/-- the pair (0, 1) of the package -/
structure NoT (K : PySem.W.Frag) (mg : Str → Option Value) (aN : Addr) : Prop where
  g : mg "NOTHING" = some (.ref aN)
  t : ∀ H : Hp, SqT K H aN (pairQ 0)
/-- values that tell fractions -/
def FrVs (K : PySem.W.Frag) (H : Hp) (us : List V) (qs : List Rat) : Prop := us.length = qs.length ∧ ∀ (i : Nat) (u : V) (q : Rat), us[i]? = some u → qs[i]? = some q → FrV K H u q
theorem FrVs.same {K : PySem.W.Frag} {H H' : Hp} {us : List V} {qs : List Rat} (h : FrVs K H us qs) (e : Same H H') : FrVs K H' us qs := ⟨h.1, fun i u q h1 h2 => (h.2 i u q h1 h2).same e⟩
def spSumF (K : PySem.W.Frag) : Sp := fun vs H Q _ => ∃ (l : Addr) (us : List V) (qs : List Rat) (n : Nat), vs = [.ref l] ∧ SqL K H l us ∧ FrVs K H us qs ∧ (∀ q ∈ qs, FrB n q) ∧ (qs.length + 1) * (n + 1) ≤ 6000 ∧ ∀ v H', Same H H' → FrV K H' v (sumQ qs) → FrB ((qs.length + 1) * (n + 1)) (sumQ qs) → Q v H'
/-- what tells a size -/
def SizV (K : PySem.W.Frag) (H : Hp) (v : V) (q : Rat) : Prop := (∃ i : Nat, v = .int (i : Int) ∧ q = ((i : Int) : Rat)) ∨ ∃ (a : Addr) (t b : Nat), v = .ref a ∧ (SqT K H a [.int (t : Int), .int (b : Int)] ∨ SqL K H a [.int (t : Int), .int (b : Int)]) ∧ 0 < b ∧ b < 2 ^ 8000 ∧ q = mkRat t b
theorem SizV.same {K : PySem.W.Frag} {H H' : Hp} {v : V} {q : Rat} (h : SizV K H v q) (e : Same H H') : SizV K H' v q := by
  rcases h with h | ⟨a, t, b, h1, h2, h3⟩
  · exact .inl h
  · exact .inr ⟨a, t, b, h1, h2.imp (Same.sqt e) e.seq, h3⟩
def spSizeQ (K : PySem.W.Frag) : Sp := fun vs H Q _ => ∃ (v : V) (q : Rat), vs = [v] ∧ SizV K H v q ∧ ∀ z H', H z = none → Same H H' → H' z = some (.tup (pairQ q)) → Q (.ref z) H'
theorem sumQ_snoc (qs : List Rat) (q : Rat) : sumQ (qs ++ [q]) = sumQ qs + q := by
  unfold sumQ
  rw [List.foldl_append]
  rfl
theorem FrB.zero {n : Nat} (h : 0 < n) : FrB n 0 := ⟨Nat.pow_pos (by decide), by
  show 1 < 2 ^ n
  exact Nat.one_lt_two_pow (by omega)⟩
section
variable {P : Program} {w : World} {K : PySem.W.Frag} {mg : Str → Option Value} {base : Heap}
theorem scSum : FnScope ["fractions", "total", "each"] ["fractions"] (defScope (topS 24)) := ⟨rfl, rfl, rfl, by decide +kernel, rfl, by decide +kernel, by decide +kernel⟩
theorem ok_sum (B : Bi mg) {f f1 aN : Addr} {fd fd1 : FuncData} (TN : NoT K mg aN) (c_plus : Cal P w K mg base CX0 3 "plus" f1 fd1 ["one", "other"] (spPlusF K)) (F : Fun K "sum_of" "sum_of" (topS 24) f fd) : FnOk P w K mg base CX0 4 f fd ["fractions"] (spSumF K) := by
  refine F.ok scSum (fun vs H Q E h => ?_) (fun cdv A outer s H vs Q E hr h => ?_)
  · obtain ⟨l, us, qs, n, rfl, _⟩ := h
    rfl
  · obtain ⟨l, us, qs, n, rfl, hl, hus, hB, hn, qq⟩ := h
    have nd := scSum.nd
    have hr_plus : Room 3 _ := hr.mono (by decide)
    refine ⟨_, (pss_cons (ps_set (i := 1) nd rfl (Or.inl rfl) (pe_glob (v:=.ref aN) (by rfl) TN.g rfl))
      (pss_cons (ps_for PassesOwn.never rfl (kPiL K (pv 0)) (pg_name (i := 2) nd rfl (Or.inl rfl)) (pss_one (ps_set (i := 1) nd rfl (Or.inl rfl) (pe_call c_plus.ok hr_plus (by rfl) c_plus.g c_plus.kp c_plus.b .nil pass0 (pa_cons (pv 1) (pa_cons (pv 2) pa_nil))))))
      (pss_one (ps_ret (pv 1))))), ?_⟩
    refine ⟨_, rfl, l, rfl, ⟨_, hl⟩, ?_⟩
    have len := hus.1
    refine for_it walk_list (fun i σ' H' => ∃ v v2, σ' = [some (.ref l), some v, v2] ∧ Same H H' ∧ FrV K H' v (sumQ (qs.take i)) ∧ FrB (i * (n + 1) + 1) (sumQ (qs.take i))) ?_ (fun i σ' H' _ ⟨_, _, _, e, _, _⟩ => e.seq hl) ?_ ?_
    · exact ⟨_, _, rfl, Same.refl _, ⟨aN, rfl, TN.t _⟩, FrB.zero (by omega)⟩
    · rintro i y σ' H0 H1 hi ⟨v, v2, rfl, e, fv, fb⟩ ⟨rfl, hy⟩
      obtain ⟨q, hq⟩ : ∃ q, qs[i]? = some q := ⟨_, List.getElem?_eq_getElem (by omega)⟩
      have fq := (hus.2 i y q hy hq).same e
      have bq := hB q (List.mem_of_getElem? hq)
      have hm : (i + 1) * (n + 1) ≤ (qs.length + 1) * (n + 1) := Nat.mul_le_mul_right _ (by omega)
      have hs : (i + 1) * (n + 1) = i * (n + 1) + (n + 1) := Nat.succ_mul ..
      refine ⟨_, rfl, _, rfl, v, y, _, _, _, _, rfl, fv, fq, fb, bq, by omega, fun z H' nz e2 hz => ?_⟩
      refine ⟨_, _, rfl, Same.trans e e2, ?_, ?_⟩
      · rw [take_succ hq, sumQ_snoc]
        exact ⟨z, rfl, SqT.of hz⟩
      · rw [take_succ hq, sumQ_snoc]
        exact (fb.add bq).more (by omega)
    · rintro σ' H1 ⟨v, v2, rfl, e, fv, fb⟩
      rw [len, List.take_length] at fv fb
      have hm : (qs.length + 1) * (n + 1) = qs.length * (n + 1) + (n + 1) := Nat.succ_mul ..
      exact ⟨_, rfl, qq v H1 e fv (fb.more (by omega))⟩
theorem scSize : FnScope ["thing", "top", "bottom"] ["thing"] (defScope (topS 20)) := ⟨rfl, rfl, rfl, by decide +kernel, rfl, by decide +kernel, by decide +kernel⟩
theorem ok_size (B : Bi mg) {f f1 f2 f3 : Addr} {fd fd1 fd2 fd3 : FuncData} (c_is_integer : Cal P w K mg base CX0 1 "is_integer" f1 fd1 ["thing"] (spIsInt K)) (c_is_list : Cal P w K mg base CX0 1 "is_list" f2 fd2 ["thing"] (spIsList K)) (c_fraction : Cal P w K mg base CX0 2 "fraction" f3 fd3 ["top", "bottom"] spFrac)
    (F : Fun K "size_of" "size_of" (topS 20) f fd) : FnOk P w K mg base CX0 3 f fd ["thing"] (spSizeQ K) := by
  refine F.ok scSize (fun vs H Q E h => ?_) (fun cdv A outer s H vs Q E hr h => ?_)
  · obtain ⟨v, q, rfl, _⟩ := h
    rfl
  · obtain ⟨v, q, rfl, hv, qq⟩ := h
    have nd := scSize.nd
    have hr_fraction : Room 2 _ := hr.mono (by decide)
    have hr_is_integer : Room 1 _ := hr.mono (by decide)
    have hr_is_list := hr_is_integer
    refine ⟨_, (Evl.pss_cut (ps_if (pt_val (pe_call c_is_integer.ok hr_is_integer (by rfl) c_is_integer.g c_is_integer.kp c_is_integer.b .nil pass0 (pa_cons (pv 0) pa_nil))) (pss_one (ps_ret (pe_ifExp (pt_cmpR op_ge (pv 0) pe_int (nomark _)) (pe_tup (pa_cons (pv 0) (pa_cons pe_int pa_nil))) pe_non))) pss_nil)
      (pss_cons (ps_if (PW.pt (pw_or (pt_not (pt_val (pe_call c_is_list.ok hr_is_list (by rfl) c_is_list.g c_is_list.kp c_is_list.b .nil pass0 (pa_cons (pv 0) pa_nil)))) (pw_or1 (pt_cmpR op_ne (pe_callB (kLen K) (by rfl) B.len PySem.boot_len (pa_cons (pv 0) pa_nil)) pe_int (nomark _))))) (pss_one (ps_ret pe_non)) pss_nil)
      (pss_cons (ps_asg (pv 0) (kTgA K 2 rfl (pgs_cons (pg_name (i := 1) nd rfl (Or.inl rfl)) (pgs_cons (pg_name (i := 2) nd rfl (Or.inl rfl)) pgs_nil))))
      (pss_cons (ps_if (PW.pt (pw_or (pt_not (pt_val (pe_call c_is_integer.ok hr_is_integer (by rfl) c_is_integer.g c_is_integer.kp c_is_integer.b .nil pass0 (pa_cons (pv 1) pa_nil)))) (pw_or (pt_not (pt_val (pe_call c_is_integer.ok hr_is_integer (by rfl) c_is_integer.g c_is_integer.kp c_is_integer.b .nil pass0 (pa_cons (pv 2) pa_nil)))) (pw_or (pt_cmpR op_lt (pv 1) pe_int (nomark _)) (pw_or1 (pt_cmpR op_lt (pv 2) pe_int (nomark _))))))) (pss_one (ps_ret pe_non)) pss_nil)
      (pss_one (ps_ret (pe_call c_fraction.ok hr_fraction (by rfl) c_fraction.g c_fraction.kp c_fraction.b .nil pass0 (pa_cons (pv 1) (pa_cons (pv 2) pa_nil))))))))), ?_⟩
    have ki : kitB "int" "int" = some true := by decide +kernel
    have kb : kitB "int" "bool" = some false := by decide +kernel
    rcases hv with ⟨i, rfl, rfl⟩ | ⟨a, t, b, rfl, ha, b0, b8, rfl⟩
    · refine ⟨fun _ _ => False, ?_, fun _ _ z => z.elim⟩
      refine ⟨_, rfl, .int (i : Int), .type "int", true, false, rfl, .base (.int _), kit_ty ki, kit_ty kb, ?_⟩
      refine ⟨_, rfl, ?_⟩
      refine iteT ?_
      refine ⟨_, rfl, _, _, rfl, rfl, _, rfl, ?_⟩
      rw [decide_eq_true (by omega : (0 : Int) ≤ (i : Int))]
      refine iteT ?_
      refine ⟨_, rfl, by show 2 ≤ sizeLine; rw [sizeLine_eq]; omega, fun p np => ?_⟩
      exact qq p _ np (same_upd np) upd_same
    · obtain ⟨k, ty, n1, n2, sq⟩ : ∃ k : String, TyX K H (.ref a) (.type k) ∧ kitB k "int" = some false ∧ kitB k "bool" = some false ∧ Sqs K H (.ref a) true := by
        rcases ha with ha | ha
        · exact ⟨"tuple", tyx_t ha, by decide +kernel, by decide +kernel, sqs_kit (k := "tuple") (b1 := false) (b2 := true) (tyx_t ha) (by decide +kernel) (by decide +kernel)⟩
        · exact ⟨"list", tyx_l ha, by decide +kernel, by decide +kernel, sqs_kit (k := "list") (b1 := true) (b2 := false) (tyx_l ha) (by decide +kernel) (by decide +kernel)⟩
      refine ⟨fun σ' H' => σ' = [some (.ref a), none, none] ∧ H' = H, ?_, ?_⟩
      · refine ⟨_, rfl, .ref a, .type k, false, false, rfl, ty, kit_ty n1, kit_ty n2, ?_⟩
        refine ⟨_, rfl, ?_⟩
        refine iteF ?_
        exact ⟨rfl, rfl⟩
      rintro σ' H' ⟨rfl, rfl⟩
      refine ⟨_, rfl, .ref a, true, rfl, sq, fun H1 e1 => ?_⟩
      have ha1 : SqT K H1 a [.int (t : Int), .int (b : Int)] ∨ SqL K H1 a [.int (t : Int), .int (b : Int)] := ha.imp (Same.sqt e1) e1.seq
      refine ⟨_, rfl, ?_⟩
      refine iteF ?_
      refine ⟨_, rfl, _, 2, rfl, ha1.elim (fun z => .inr ⟨_, z, rfl⟩) (fun z => .inl ⟨_, z, rfl⟩), rfl, ?_⟩
      refine ⟨_, rfl, ?_⟩
      refine if_no (by decide) ?_
      refine ⟨_, rfl, ?_⟩
      refine (ha1.elim (fun z => .inl ⟨a, _, rfl, z, rfl, ?_⟩) (fun z => .inr ⟨a, _, rfl, z, rfl, ?_⟩))
      all_goals
        refine ⟨_, _, rfl, _, _, rfl, rfl, ?_⟩
        refine ⟨_, rfl, .int _, .type "int", true, false, rfl, .base (.int _), kit_ty ki, kit_ty kb, _, rfl, ?_⟩
        refine if_no rfl ?_
        refine ⟨_, rfl, .int _, .type "int", true, false, rfl, .base (.int _), kit_ty ki, kit_ty kb, _, rfl, ?_⟩
        refine if_no rfl ?_
        refine ⟨_, rfl, _, _, rfl, rfl, _, rfl, ?_⟩
        refine if_no (decide_eq_false (by omega)) ?_
        refine ⟨_, rfl, _, _, rfl, rfl, _, rfl, ?_⟩
        refine if_no (decide_eq_false (by omega)) ?_
        refine ⟨_, rfl, _, rfl, _, b, rfl, b0, b8, fun z H2 nz e2 hz => ?_⟩
        exact qq z H2 (e1.free nz) (Same.trans e1 e2) hz
end
end Bk

namespace Bk
open PySem PySem.Spec PyProof.Rows L2
def entW (es : List (List Str × V)) : List (List Key × V) := es.map fun e => (e.1.map Sum.inr, e.2)
def foundW (zs : List Str) (es : List (List Str × V)) : List (List Key × V) := es.map fun e => ((lotS zs e.1).map Sum.inr, e.2)
/-- the dict of right entries -/
structure EntsW (ch : Bool) (zs : List Str) (es : List (List Str × V)) : Prop where
  few : es.length ≤ 3000
  lot : ∀ e ∈ es, lotOfV ch zs (e.1.map V.str) = some (lotS zs e.1)
  len : ∀ e ∈ es, e.1.length ≤ 1000
  nd : (es.map fun e => lotS zs e.1).Nodup
def spByLots (K : PySem.W.Frag) (C : Addr) : Sp := fun vs H Q _ => ∃ (x d dx t pd : Addr) (zs : List Str) (ch : Bool) (es : List (List Str × V)), vs = [.ref x, .ref d] ∧ H x = some (.ins C dx (foldersF t pd ch)) ∧ H t = some (.tup (zs.map V.str)) ∧ H pd = some (.dT (placesOf (lotsFor ch zs))) ∧ pd ≠ d ∧
  zs.Nodup ∧ zs.length ≤ 12 ∧ H d = some (.dT (entW es)) ∧ EntsW ch zs es ∧ ∀ (D : Addr) (H' : Hp), H D = none → Same H H' → H' D = some (.dT (foundW zs es)) → Q (.ref D) H'
theorem foundW_get {zs : List Str} {es : List (List Str × V)} {l : List Str} (h : ∀ e ∈ es, lotS zs e.1 ≠ l) : valV (foundW zs es) (l.map Sum.inr) = none := by
  induction es with
  | nil => rfl
  | cons e r ih =>
    show valV (((lotS zs e.1).map Sum.inr, e.2) :: foundW zs r) _ = none
    rw [valV_neg (fun z => h e List.mem_cons_self (inr_inj z))]
    exact ih fun e' m => h e' (List.mem_cons_of_mem _ m)
theorem foundW_put {zs : List Str} {es : List (List Str × V)} {e : List Str × V} (h : ∀ e' ∈ es, lotS zs e'.1 ≠ lotS zs e.1) : putK (foundW zs es) ((lotS zs e.1).map Sum.inr) e.2 = foundW zs (es ++ [e]) := by
  rw [putK_fresh]
  · unfold foundW
    rw [List.map_append]
    rfl
  · unfold foundW
    rw [List.map_map]
    intro m
    obtain ⟨e', m', q⟩ := List.mem_map.mp m
    exact h e' m' (inr_inj q)
section
variable {P : Program} {w : World} {K : PySem.W.Frag} {mg : Str → Option Value} {base : Heap}
theorem scByLots : FnScope ["folders", "told", "found", "key", "thing", "lot"] ["folders", "told"] (defScope (topS 37)) := ⟨rfl, rfl, rfl, by decide +kernel, rfl, by decide +kernel, by decide +kernel⟩
theorem ok_by_lots (B : Bi mg) {C f0 f f1 : Addr} {fd fd1 : FuncData} (T : FolT K mg C f0) (c_lot_of : Cal P w K mg base CX0 2 "lot_of" f1 fd1 ["folders", "thing"] (spLotOf K C))
    (F : Fun K "by_lots" "by_lots" (topS 37) f fd) : FnOk P w K mg base CX0 3 f fd ["folders", "told"] (spByLots K C) := by
  refine F.ok scByLots (fun vs H Q E h => ?_) (fun cdv A outer s H vs Q E hr h => ?_)
  · obtain ⟨x, d, dx, t, pd, zs, ch, es, rfl, _⟩ := h
    rfl
  · obtain ⟨x, d, dx, t, pd, zs, ch, es, rfl, hx, ht, hp, npd, nz, lz, hd, hE, q⟩ := h
    have nd := scByLots.nd
    have hu := hu_of hr
    have hr_lot_of : Room 2 _ := hr.mono (by decide)
    refine ⟨_, (pss_cons (ps_set (i := 2) nd rfl (Or.inl rfl) pe_dnewT)
      (pss_cons (ps_lock (ps_for PassesOwn.never rfl (pi_itemsT (pv 1)) (kTg K 2 rfl (pgs_cons (pg_name (i := 3) nd rfl (Or.inl rfl)) (pgs_cons (pg_name (i := 4) nd rfl (Or.inl rfl)) pgs_nil))) (pss_cons (ps_set (i := 5) nd rfl (Or.inl rfl) (pe_call c_lot_of.ok hr_lot_of (by rfl) c_lot_of.g c_lot_of.kp c_lot_of.b .nil pass0 (pa_cons (pv 0) (pa_cons (pv 3) pa_nil))))
      (pss_cons (ps_if (PW.pt (pw_or (pt_cmpR op_isN (pv 5) pe_non (nomark _)) (pw_or1 (pt_cmp (pc_din hu (pv 5) (pv 2)))))) (pss_one ps_no) pss_nil)
      (pss_one (ps_dput hu (pv 2) (pv 5) (pv 4) rfl))))))
      (pss_one (ps_ret (pv 2))))), ?_⟩
    refine fun D nD => ?_
    have e0 := same_upd (o := HO.dT []) nD
    have hD0 : upd H D (.dT []) D = some (.dT []) := upd_same
    generalize upd H D (.dT []) = H0 at e0 hD0 ⊢
    have nDd : d ≠ D := ne_of_none hd nD
    refine ⟨d, _, e0 _ _ hd, trivial, fun od => ?_⟩
    have hxd : x ≠ d := ne_of hx hd (fun z => nomatch z)
    have htd : t ≠ d := ne_of ht hd (fun z => nomatch z)
    refine ⟨_, rfl, d, od, _, rfl, upd_same, ?_⟩
    refine for_it walk_itemsT (fun i σ' H' => ∃ v3 v4 v5, σ' = [some (.ref x), some (.ref d), some (.ref D), v3, v4, v5] ∧ H' d = some (.frz od (.dT (entW es))) ∧ H' D = some (.dT (foundW zs (es.take i))) ∧ ∀ b u, b ≠ d → H b = some u → H' b = some u) ?_ ?_ ?_ ?_
    · exact ⟨none, none, none, rfl, upd_same, by rw [upd_ne nDd.symm]; exact hD0, fun b u nb e => by rw [upd_ne nb]; exact e0 _ _ e⟩
    · rintro i σ' H' _ ⟨_, _, _, _, h, _⟩
      exact h
    · rintro i y σ' H1 H2 hi ⟨v3, v4, v5, rfl, hd1, hD1, kp1⟩ ⟨T2, k, v, qa, hk, hqa, rfl, nT, rfl⟩
      unfold entW at hk
      rw [List.getElem?_map] at hk
      obtain ⟨e, he, hkv⟩ := Option.map_eq_some_iff.mp hk
      obtain ⟨rfl, rfl⟩ := Prod.mk.inj hkv
      have eT := same_upd (o := HO.tup [V.ref qa, e.2]) nT
      refine ⟨T2, _, rfl, SqT.of upd_same, rfl, _, _, rfl, _, _, rfl, rfl, ?_⟩
      generalize upd H1 T2 (.tup [V.ref qa, e.2]) = H2 at eT ⊢
      have kp2 : ∀ b u, b ≠ d → H b = some u → H2 b = some u := fun b u nb z => eT _ _ (kp1 b u nb z)
      have hem := List.mem_of_getElem? he
      have hq2 : H2 qa = some (.tup (e.1.map V.str)) := by
        have := eT _ _ hqa
        rw [List.map_map] at this
        exact this
      have hl := hE.lot e hem
      refine ⟨_, rfl, _, rfl, x, .ref qa, zs, ch, rfl, ⟨dx, t, pd, kp2 _ _ hxd hx, kp2 _ _ htd ht, kp2 _ _ npd hp⟩, nz, lz, .inr ⟨qa, e.1.map V.str, rfl, .inr (SqT.of hq2), sqs_kit (k := "tuple") (b1 := false) (b2 := true) (.base (.tup hq2)) (by decide +kernel) (by decide +kernel), flat_strs _, ?_, fun H' e' hn => ?_, fun p l H3 np e3 hl' hp3 => ?_⟩⟩
      · have := hE.len e hem
        rw [List.length_map]
        omega
      · rw [hl] at hn
        cases hn
      rw [hl] at hl'
      obtain rfl := Option.some.inj hl'
      have hD3 := e3 _ _ (eT _ _ hD1)
      have hd3 := e3 _ _ (eT _ _ hd1)
      have fresh : ∀ e' ∈ es.take i, lotS zs e'.1 ≠ lotS zs e.1 := by
        intro e' m' z
        obtain ⟨j, hj, rfl⟩ := List.mem_take_iff_getElem.mp m'
        have hil := (List.getElem?_eq_some_iff.mp he).1
        have := nodup_inj hE.nd (i := j) (j := i) (by rw [List.length_map]; omega) (by rw [List.length_map]; exact hil) (by
          rw [List.getElem_map, List.getElem_map, z]
          have := (List.getElem?_eq_some_iff.mp he).2
          rw [this])
        omega
      have hno : valV (foundW zs (es.take i)) ((lotS zs e.1).map Sum.inr) = none := by
        exact foundW_get fresh
      have hp3' : H3 p = some (.tup (((lotS zs e.1).map Sum.inr : List Key).map kV)) := by
        rw [hp3, List.map_map]
        rfl
      refine ⟨_, rfl, rfl, _, rfl, ?_⟩
      refine iteF ?_
      refine ⟨_, rfl, _, rfl, D, _, rfl, DGet.t hD3 hp3', _, rfl, ?_⟩
      rw [hno]
      refine iteF ?_
      refine ⟨_, rfl, _, rfl, _, rfl, D, _, rfl, DPut.t (k := (lotS zs e.1).map Sum.inr) hD3 hp3' ?_, ?_⟩
      · unfold foundW
        rw [List.length_map, List.length_take]
        have := hE.few
        exact Evl.sz_lt (by omega)
      · refine ⟨_, _, _, rfl, ?_, ?_, fun b u nb z => ?_⟩
        · rw [upd_ne nDd]
          exact hd3
        · rw [upd_same, foundW_put fresh, take_succ he]
        · rw [upd_ne (ne_of_none z nD)]
          exact e3 _ _ (kp2 b u nb z)
    · rintro σ' H1 ⟨v3, v4, v5, rfl, hd1, hD1, kp1⟩
      refine ⟨hd1, ?_⟩
      refine ⟨_, rfl, q D _ nD (fun b u e => ?_) ?_⟩
      · by_cases nb : b = d
        · subst nb
          rw [upd_same, ← e, hd]
        · rw [upd_ne nb]
          exact kp1 b u nb e
      · rw [upd_ne nDd.symm]
        have : (entW es).length = es.length := by
          unfold entW
          rw [List.length_map]
        rw [this, List.take_length] at hD1
        exact hD1
end
end Bk

/-! the values of a dict whose keys are tuples, walked -/
namespace Bk
open PySem PySem.Spec PyProof.Rows L2
def Itvt (d : Addr) (o : Obj) (kvs : List (List Key × V)) : It :=
  ⟨fun i H => H d = some (.frz o (.dT kvs)) ∧ i < kvs.length, fun i H x H' => H' = H ∧ ∃ k, kvs[i]? = some (k, x), fun i H => H d = some (.frz o (.dT kvs)) ∧ kvs.length ≤ i⟩
section
variable {P : Program} {w : World} {K : PySem.W.Frag} {d : Addr} {o : Obj} {es : Array DictEntry} {ep : Nat}
theorem turn_valsT {tg : Expr} {kvs : List (List Key × V)} (it : Addr) (hod : o.data = .dict es ep) : Turn P w K tg (Itvt d o kvs) [it] it (fun i h => h.IsValIter it d i kvs.length ep) where
  mem := by simp
  obj := fun i h st b hb => by
    have e : b = it := by simpa using hb
    subst e
    obtain ⟨oi, e, c, dd⟩ := st
    exact ⟨oi, e, fun v z => by rw [dd] at z; cases z⟩
  keep := fun i h h' st k => st.at fun oi e => k it (by simp) oi e
  item := by
    intro X hP hw hK hc i pins s σ H E I hf st hg
    subst hP hw hK
    obtain ⟨hd, hi⟩ := hg
    obtain ⟨f0, f1, f2, f3, f4, f5⟩ := hf it (by simp)
    obtain ⟨hs, hgd, hx, es', ep', hdt, hsz, ent⟩ := frzTV I hd
    obtain ⟨rfl, rfl⟩ := dict_ep hod hdt
    obtain ⟨⟨k, v⟩, hkv⟩ : ∃ p, kvs[i]? = some p := ⟨kvs[i], List.getElem?_eq_getElem hi⟩
    obtain ⟨en, q, hen, hkey, hq, hval⟩ := ent i k v hkv
    have hi' : i < es'.size := by omega
    have hen' : es'[i] = en := by
      have e2 := Array.getElem?_eq_getElem hi'
      rw [hen] at e2
      exact (Option.some.inj e2).symm
    rw [← hsz] at st
    refine wpAny_pyNext_values_item_raw st ⟨o, hgd, hx, hdt⟩ hi' fun h' st' sb => ?_
    have I1 : Inv X pins σ H { s with heap := h' } := I.turned (t' := s.toks) (fun b ob hb e => (sb.2 b hb).trans e) f0 f1 f3 f4 f5
    obtain ⟨oi, e, c, dd⟩ := id st'
    rw [hen']
    refine ⟨_, rfl, go_of (s := { s with heap := h' }) e c dd (by decide) ⟨v, H, I1, hval, ⟨rfl, k, hkv⟩, ?_, fun b hb => (hf b hb).1⟩⟩
    show h'.IsValIter it d (i + 1) kvs.length _
    rw [← hsz]
    exact st'
  done := by
    intro X hP hw hK hc i pins s σ H E I hf st hg
    subst hP hw hK
    obtain ⟨hd, hi⟩ := hg
    obtain ⟨f0, f1, f2, f3, f4, f5⟩ := hf it (by simp)
    obtain ⟨hs, hgd, hx, es', ep', hdt, hsz, ent⟩ := frzTV I hd
    obtain ⟨rfl, rfl⟩ := dict_ep hod hdt
    rw [← hsz] at st
    exact wpAny_pyNext_values_end_raw (I.ok.hd hc) st ⟨o, hgd, hx, hdt⟩ (by omega) fun h' eb => ⟨rfl, I.turned (t' := s.toks) (fun b ob hb e => eb b ob hb e) f0 f1 f3 f4 f5⟩
  self := fun A i s Q E st h => wpAny_pyIter_valiter st h
end
/-- d.values(), d locked -/
def iValsT (td : TE) : TI := fun σ H R => td σ H fun x H1 => ∃ d o kvs, x = .ref d ∧ H1 d = some (.frz o (.dT kvs)) ∧ R (Itvt d o kvs) H1
section
variable {X : Cx} {tg e : Expr} {td : TE} {apos cpos : Pos}
theorem pi_valsT (he : PE X e td) (hbase : attributeBase e "values" X.env (eval e X.env) = eval e X.env := by rfl) (hline : (apos.endLine == cpos.line) = true := by rfl) :
    PI X tg (.Call (.Attribute e "values" apos) [] [] cpos) (iValsT td) := by
  refine ⟨fun pins s σ H R I h => ?_⟩
  refine wpAny_Call_method (T := "dict") (id := "dict.values") hbase rfl hline F.plainAttrs_dict F.slot_dict_values F.type_dict_values (thn (he.run pins s σ H _ I h) fun u s1 ⟨x, H1, I1, rx, d, o, kvs, ex, hd, q⟩ => ?_)
  subst ex
  obtain rfl : u = Value.ref d := rx
  obtain ⟨hs, hgd, hx, es, ep, hdt, hsz, ent⟩ := frzTV I1 hd
  have hm : s1.heap.DictRaw d es ep := ⟨o, hgd, hx, hdt⟩
  refine ⟨hm.typeIs, fun a e => by cases e; exact ⟨o, hgd, hx.2.1⟩, ?_⟩
  have I2 : Inv X pins σ H1 { s1 with heap := s1.heap.push { cls := .type "dict_values", data := .fields #[.ref d] } } := I1.kept (t' := s1.toks) fun b ob q => Heap.get?_push_of_some _ q
  have fin : wpAny (model X.prog X.w) X.A (pyIter (.ref s1.heap.objs.size)) (PIE X pins σ tg R) X.xe { s1 with heap := s1.heap.push { cls := .type "dict_values", data := .fields #[.ref d] } } := by
    refine wpAny_pyIter_values_raw (d := d) ⟨_, Heap.get?_push_size _ rfl, rfl, rfl⟩ (hm.at fun ob q => Heap.get?_push_of_some _ q) (pi_one (tk := s1.toks) I2 _ (turn_valsT _ hdt) ⟨_, Heap.get?_push_size _ rfl, rfl, ?_⟩ q)
    rw [← hsz] <;> rfl
  show wpAny _ _ (callWith cpos (.builtin "dict.values") [.ref d] [] []) _ X.xe s1
  exact method_meetsIn F.slot_dict_values F.entry_dict_values rfl (PySem.evalArgs_none ⟨rfl, hm.typeIs, F.args_dict_values_1 _, _, meets_dict_values_raw d hs, ⟨⟨es, ep, hm⟩, fin⟩⟩)
end
theorem walk_valsT {d : Addr} {o : Obj} {kvs : List (List Key × V)} : Walk (Itvt d o kvs) kvs.length (fun H => H d = some (.frz o (.dT kvs))) (fun i H x H' => H' = H ∧ ∃ k, kvs[i]? = some (k, x)) :=
  ⟨fun _ _ hi q => ⟨q, hi⟩, fun _ q => ⟨q, Nat.le_refl _⟩, fun _ _ _ _ _ _ y => y⟩
end Bk

namespace Bk
open PySem PySem.Spec PyProof.Rows L2
/-- what the top has written of Store -/
structure StoT (K : PySem.W.Frag) (mg : Str → Option Value) (C fI : Addr) : Prop where
  g : mg "Store" = some (.ref C)
  cl : Cls K C
  nF : NoAttr K C "folders"
  nT : NoAttr K C "table"
  make : Mk K C fI
/-! fractions as data -/
def dQ (q : Rat) : PyData := .tuple [.int q.num, .int (q.den : Int)]
theorem dp_q {K : PySem.W.Frag} {H : Hp} {v : V} {q : Rat} (h : FrV K H v q) : Dp K H v (dQ q) := by
  obtain ⟨a, rfl, h⟩ := h
  exact .tup h (.cons (.int _) (.cons (.int _) .nil))
theorem lay_q (q : Rat) : (dQ q).canLay0 = true := by simp [dQ, PyData.canLay0, PyData.canLayAll0]
theorem depth_q (q : Rat) : (dQ q).depth = 1 := by simp [dQ, PyData.depth, PyData.depthAll]
theorem shaped_q (q : Rat) : SeqAt.shaped (dQ q) = true := by
  unfold SeqAt.shaped
  rw [lay_q, depth_q]
  rfl
theorem rat_parts {p q : Rat} : p.num = q.num ∧ (p.den : Int) = (q.den : Int) ↔ p = q := by
  constructor
  · rintro ⟨h1, h2⟩
    exact Rat.ext h1 (by omega)
  · rintro rfl
    exact ⟨rfl, rfl⟩
theorem eqv_q (p q : Rat) : PyData.eqv (dQ p) (dQ q) = decide (p = q) := by
  have h := @rat_parts p q
  have e : PyData.eqv (dQ p) (dQ q) = (decide (p.num = q.num) && decide ((p.den : Int) = (q.den : Int))) := by
    unfold dQ
    simp only [PyData.eqv, PyData.eqvAll, Bool.and_true]
    congr 1 <;> first | rfl | exact (decide_eq_decide.mpr Iff.rfl)
  rw [e, ← Bool.decide_and]
  exact decide_eq_decide.mpr h
/-! tables of fractions -/
def FrTab (K : PySem.W.Frag) (H : Hp) (ks : List (List Key × V)) (qs : List (List Key × Rat)) : Prop := Paired (fun p q => p.1 = q.1 ∧ FrV K H p.2 q.2) ks qs
section
variable {K : PySem.W.Frag} {H H' : Hp} {ks : List (List Key × V)} {qs : List (List Key × Rat)}
theorem FrTab.same (h : FrTab K H ks qs) (e : Same H H') : FrTab K H' ks qs := Paired.mono (fun _ _ ⟨a, b⟩ => ⟨a, b.same e⟩) h
theorem FrTab.snoc {k : List Key} {v : V} {q : Rat} (h : FrTab K H ks qs) (r : FrV K H v q) : FrTab K H (ks ++ [(k, v)]) (qs ++ [(k, q)]) := Paired.snoc h ⟨rfl, r⟩
theorem FrTab.len (h : FrTab K H ks qs) : ks.length = qs.length := Paired.length h
theorem FrTab.keys (h : FrTab K H ks qs) : ks.map (·.1) = qs.map (·.1) := by
  unfold FrTab at h
  induction h with
  | nil => rfl
  | cons a t ih => rw [List.map_cons, List.map_cons, ih, a.1]
theorem FrTab.idx (h : FrTab K H ks qs) : ∀ {i : Nat} {k : List Key} {v : V}, ks[i]? = some (k, v) → ∃ q, qs[i]? = some (k, q) ∧ FrV K H v q := by
  unfold FrTab at h
  induction h with
  | nil => intro i k v e; simp at e
  | @cons a b l1 l2 hd t ih =>
    intro i k v e
    cases i with
    | zero =>
      rw [List.getElem?_cons_zero] at e ⊢
      cases e
      obtain ⟨b1, b2⟩ := b
      obtain ⟨h1, h2⟩ := hd
      have h1 : k = b1 := h1
      subst h1
      exact ⟨b2, rfl, h2⟩
    | succ i =>
      rw [List.getElem?_cons_succ] at e ⊢
      exact ih e
theorem FrV.chg {v : V} {q : Rat} {d : Addr} {w u : HO} (h : FrV K H v q) (hd : H d = some w) (n1 : ∀ xs, w ≠ .tup xs) (n2 : ∀ o xs, w ≠ .frz o (.tup xs)) : FrV K (upd H d u) v q := by
  obtain ⟨a, rfl, (h | ⟨o, h⟩) | h⟩ := h
  · exact ⟨a, rfl, .inl (.inl (by rw [upd_ne (ne_of h hd (fun z => n1 _ z.symm))]; exact h))⟩
  · exact ⟨a, rfl, .inl (.inr ⟨o, by rw [upd_ne (ne_of h hd (fun z => n2 _ _ z.symm))]; exact h⟩)⟩
  · exact ⟨a, rfl, .inr h⟩
theorem FrTab.chg {d : Addr} {w u : HO} (h : FrTab K H ks qs) (hd : H d = some w) (n1 : ∀ xs, w ≠ .tup xs) (n2 : ∀ o xs, w ≠ .frz o (.tup xs)) : FrTab K (upd H d u) ks qs := Paired.mono (fun _ _ ⟨a, b⟩ => ⟨a, b.chg hd n1 n2⟩) h
theorem FrTab.put {d : Addr} {tb : List (List Key × V)} {u : HO} (h : FrTab K H ks qs) (hd : H d = some (.dT tb)) : FrTab K (upd H d u) ks qs := h.chg hd (fun _ z => nomatch z) (fun _ _ z => nomatch z)
theorem FrTab.ins {d C e : Addr} {fs : List (Str × V)} {u : HO} (h : FrTab K H ks qs) (hd : H d = some (.ins C e fs)) : FrTab K (upd H d u) ks qs := h.chg hd (fun _ z => nomatch z) (fun _ _ z => nomatch z)
theorem FrTab.unl {d : Addr} {o : Obj} {tb : List (List Key × V)} {u : HO} (h : FrTab K H ks qs) (hd : H d = some (.frz o (.dT tb))) : FrTab K (upd H d u) ks qs := h.chg hd (fun _ z => nomatch z) (fun _ _ z => nomatch z)
def getQ (ks : List (List Key × Rat)) (k : List Key) : Option Rat := (ks.find? fun p => decide (p.1 = k)).map (·.2)
theorem getQ_pos {p : List Key × Rat} {r : List (List Key × Rat)} {k : List Key} (e : p.1 = k) : getQ (p :: r) k = some p.2 := by simp [getQ, List.find?_cons, e]
theorem getQ_neg {p : List Key × Rat} {r : List (List Key × Rat)} {k : List Key} (e : ¬ p.1 = k) : getQ (p :: r) k = getQ r k := by simp [getQ, List.find?_cons, e]
/-- the value at a key, or none on both sides -/
theorem FrTab.at (h : FrTab K H ks qs) (k : List Key) : (valV ks k = none ∧ getQ qs k = none) ∨ ∃ v q, valV ks k = some v ∧ getQ qs k = some q ∧ FrV K H v q := by
  unfold FrTab at h
  induction h with
  | nil => exact .inl ⟨rfl, rfl⟩
  | @cons a b l1 l2 hd t ih =>
    obtain ⟨h1, h2⟩ := hd
    by_cases z : a.1 = k
    · exact .inr ⟨a.2, b.2, valV_pos z, getQ_pos (h1 ▸ z), h2⟩
    · rw [valV_neg z, getQ_neg (fun y => z (h1.trans y))]
      exact ih
/-- whether two tables of fractions are equal -/
def sameQ (ks ls : List (List Key × Rat)) : Bool := ks.length == ls.length && ks.all fun p => decide (getQ ls p.1 = some p.2)
end
section
variable {X : Cx} {pins : List (Addr × Obj)} {σ : L2.St} {H : Hp} {s : Shared}
theorem fr_eq {A : Around} (hu : A.units + 1 < cLine) (I : Inv X pins σ H s) {v w : V} {p q : Rat} (hv : FrV X.K H v p) (hw : FrV X.K H w q) {x y : Value} (rx : RelV v x) (ry : RelV w y) : SeqAt.EqAt A s x y (decide (p = q)) := by
  obtain ⟨as, r1⟩ := Dp.reads I _ _ _ (dp_q hv) rx
  obtain ⟨bs, r2⟩ := Dp.reads I _ _ _ (dp_q hw) ry
  rw [← eqv_q]
  refine SeqAt.eqAt_reads _ _ A s x y as bs r1 r2 (lay_q p) (lay_q q) ?_
  rw [depth_q, depth_q]
  exact hu
theorem hitsQ {A : Around} (hu : A.units + 1 < cLine) (I : Inv X pins σ H s) {kb : List (List Key × V)} {ls : List (List Key × Rat)} {vb : List (List Key × Addr × Value)} (rb : KT H kb vb) (fb : FrTab X.K H kb ls) {ka : List (List Key × V)} : ∀ {qs : List (List Key × Rat)} {va : List (List Key × Addr × Value)}, KT H ka va → FrTab X.K H ka qs →
    PySem.W.BkHits A s vb va (qs.all fun p => decide (getQ ls p.1 = some p.2)) := by
  induction ka with
  | nil =>
    intro qs va ra fa
    cases ra
    cases fa
    exact .nil
  | cons p r ih =>
    intro qs va ra fa
    cases ra with
    | @cons _ q _ vs h t =>
      cases fa with
      | @cons _ f _ fs g u =>
        obtain ⟨h1, _, h3⟩ := h
        obtain ⟨g1, g2⟩ := g
        obtain ⟨k, c, v⟩ := q
        have h1 : p.1 = k := h1
        subst h1
        have rr := rb.val p.1
        rw [List.all_cons, ← g1]
        rcases fb.at p.1 with ⟨n1, n2⟩ | ⟨w, j, n1, n2, n3⟩
        · rw [n1] at rr
          rw [n2, show decide ((none : Option Rat) = some f.2) = false from decide_eq_false (fun z => nomatch z), Bool.false_and]
          refine .miss fun z hz => ?_
          cases e2 : atKey vb p.1 with
          | none => exact atKey_none e2 z hz
          | some w => rw [e2] at rr; exact rr
        · rw [n1] at rr
          cases e2 : atKey vb p.1 with
          | none => rw [e2] at rr; exact absurd rr (fun z => z)
          | some y =>
            rw [e2] at rr
            have hm := atKey_mem e2
            have ee := fr_eq hu I g2 n3 h3 (show RelV w y.2 from rr)
            have ed : decide (getQ ls p.1 = some f.2) = decide (f.2 = j) := by
              rw [n2]
              exact decide_eq_decide.mpr ⟨fun z => (Option.some.inj z).symm, fun z => by rw [z]⟩
            rw [ed]
            exact .hit hm ee (ih t u)
/-- table == table, the values fractions -/
def rEqQ (K : PySem.W.Frag) (neg : Bool) : R2 := fun x y H Q => ∃ a b ka kb ks ls, x = .ref a ∧ y = .ref b ∧ H a = some (.dT ka) ∧ H b = some (.dT kb) ∧ FrTab K H ka ks ∧ FrTab K H kb ls ∧ Q (.bl (if neg then !sameQ ks ls else sameQ ks ls)) H
theorem op_eqQ (K : PySem.W.Frag) (hu : X.A.units + 64 < cLine) (e : X.K = K := by rfl) : OpR X (compareOp .Eq) (rEqQ K false) := by
  subst e
  intro pins s σ H x y v u Q I rx ry h
  obtain ⟨a, b, ka, kb, ks, ls, rfl, rfl, ea, eb, fa, fb, q⟩ := h
  obtain rfl : v = Value.ref a := rx
  obtain rfl : u = Value.ref b := ry
  obtain ⟨_, ya, va, ra, da⟩ := dt_of I.hok ea
  obtain ⟨_, yb, vb, rb, db⟩ := dt_of I.hok eb
  have hu1 : X.A.units + 1 < cLine := by omega
  have hl1 : va.length = ks.length := by rw [← Paired.length ra]; exact fa.len
  have hl2 : vb.length = ls.length := by rw [← Paired.length rb]; exact fb.len
  refine PySem.W.bk_eq (knd := tupleKind (mixKind X.prog X.w)) (tupleKind_room_in1 hu1) ya yb da db (Nat.lt_of_succ_lt hu1) (fun _ => hitsQ (A := X.A.in1) (by show X.A.units + 1 + 1 < cLine; omega) I rb fb ra fa) ?_
  rw [hl1, hl2]
  exact ⟨_, H, I, (show RelV (.bl _) _ from rfl), q⟩
end
/-! ### stores as objects -/
def tabQ (ls : List (List Str)) (sz : List Str → Rat) : List (List Key × Rat) := (ls.filter fun l => decide (sz l ≠ 0)).map fun l => (l.map Sum.inr, sz l)
def StoreAt (K : PySem.W.Frag) (CF CS : Addr) (H : Hp) (s x : Addr) (zs : List Str) (ch : Bool) (sz : List Str → Rat) : Prop := ∃ ds td tb, H s = some (.ins CS ds (questF x td)) ∧ FoldersAt CF H x zs ch ∧ H td = some (.dT tb) ∧ FrTab K H tb (tabQ (lotsFor ch zs) sz)
theorem StoreAt.same {K : PySem.W.Frag} {CF CS s x : Addr} {H H' : Hp} {zs : List Str} {ch : Bool} {sz : List Str → Rat} (h : StoreAt K CF CS H s x zs ch sz) (e : Same H H') : StoreAt K CF CS H' s x zs ch sz := by
  obtain ⟨ds, td, tb, h1, h2, h3, h4⟩ := h
  exact ⟨ds, td, tb, e _ _ h1, h2.same e, e _ _ h3, h4.same e⟩
theorem stays_fr {K : PySem.W.Frag} : Stays (FrV K) := ⟨fun H1 H2 u l e h => h.same e, fun H1 D as bs u l hD => by
  rintro ⟨a, rfl, (h | ⟨o, h⟩) | h⟩
  · exact ⟨a, rfl, .inl (.inl (by rw [upd_ne (ne_of h hD (fun z => nomatch z))]; exact h))⟩
  · exact ⟨a, rfl, .inl (.inr ⟨o, by rw [upd_ne (ne_of h hD (fun z => nomatch z))]; exact h⟩)⟩
  · exact ⟨a, rfl, .inr h⟩⟩
theorem tabQ_idx {ls : List (List Str)} {sz : List Str → Rat} {i : Nat} {k : List Key} {q : Rat} (h : (tabQ ls sz)[i]? = some (k, q)) : ∃ l, (ls.filter fun l => decide (sz l ≠ 0))[i]? = some l ∧ k = l.map Sum.inr ∧ q = sz l := by
  unfold tabQ at h
  rw [List.getElem?_map] at h
  obtain ⟨l, h1, h2⟩ := Option.map_eq_some_iff.mp h
  cases h2
  exact ⟨l, h1, rfl, rfl⟩
theorem tabQ_len (ls : List (List Str)) (sz : List Str → Rat) : (tabQ ls sz).length = (ls.filter fun l => decide (sz l ≠ 0)).length := List.length_map ..
theorem tabQ_keys (ls : List (List Str)) (sz : List Str → Rat) : (tabQ ls sz).map (·.1) = (ls.filter fun l => decide (sz l ≠ 0)).map fun l => (l.map Sum.inr : List Key) := by
  unfold tabQ
  rw [List.map_map]
  rfl
theorem keys_nodup {ls : List (List Str)} (nd : ls.Nodup) : (ls.map fun l => (l.map Sum.inr : List Key)).Nodup := by
  rw [List.nodup_iff_pairwise_ne, List.pairwise_map]
  exact (List.nodup_iff_pairwise_ne.mp nd).imp fun h z => h (inr_inj z)
theorem getQ_tab (sz : List Str → Rat) (l : List Str) : ∀ ls : List (List Str), getQ (tabQ ls sz) (l.map Sum.inr) = if l ∈ ls ∧ sz l ≠ 0 then some (sz l) else none
  | [] => by simp [tabQ, getQ]
  | x :: r => by
    have ih := getQ_tab sz l r
    unfold tabQ at ih ⊢
    by_cases h : sz x = 0
    · rw [List.filter_cons_of_neg (by simp [h]), ih]
      by_cases e : l = x
      · subst e
        rw [if_neg (fun z => z.2 h), if_neg (fun z => z.2 h)]
      · by_cases m : l ∈ r ∧ sz l ≠ 0
        · rw [if_pos m, if_pos ⟨List.mem_cons_of_mem _ m.1, m.2⟩]
        · rw [if_neg m, if_neg (fun z => (List.mem_cons.mp z.1).elim e fun y => m ⟨y, z.2⟩)]
    · rw [List.filter_cons_of_pos (p := fun l => decide (sz l ≠ 0)) (decide_eq_true h), List.map_cons]
      by_cases e : x = l
      · subst e
        rw [getQ_pos rfl, if_pos ⟨List.mem_cons_self, h⟩]
      · rw [getQ_neg (fun z => e (inr_inj z)), ih]
        by_cases m : l ∈ r ∧ sz l ≠ 0
        · rw [if_pos m, if_pos ⟨List.mem_cons_of_mem _ m.1, m.2⟩]
        · rw [if_neg m, if_neg (fun z => (List.mem_cons.mp z.1).elim (fun y => e y.symm) fun y => m ⟨y, z.2⟩)]
/-- the value that stands at the i-th key is what the dict holds there -/
theorem valV_once {kvs : List (List Key × V)} (nd : (kvs.map (·.1)).Nodup) {i : Nat} {k : List Key} {v : V} (h : kvs[i]? = some (k, v)) : valV kvs k = some v := by
  induction kvs generalizing i with
  | nil => simp at h
  | cons p r ih =>
    rw [List.map_cons, List.nodup_cons] at nd
    cases i with
    | zero =>
      rw [List.getElem?_cons_zero] at h
      cases h
      exact valV_pos rfl
    | succ i =>
      rw [List.getElem?_cons_succ] at h
      have m : k ∈ r.map (·.1) := List.mem_map.mpr ⟨(k, v), List.mem_of_getElem? h, rfl⟩
      rw [valV_neg (fun z => nd.1 (z ▸ m))]
      exact ih nd.2 h
theorem putK_mem {kvs : List (List Key × V)} {k : List Key} {v : V} {p : List Key × V} (h : p ∈ putK kvs k v) : p ∈ kvs ∨ p.2 = v := by
  unfold putK at h
  by_cases c : (kvs.any fun kv => decide (kv.1 = k)) = true
  · rw [if_pos c] at h
    obtain ⟨e, he, rfl⟩ := List.mem_map.mp h
    by_cases z : e.1 = k
    · rw [if_pos z]; exact .inr rfl
    · rw [if_neg z]; exact .inl he
  · rw [if_neg c] at h
    exact (List.mem_append.mp h).imp id fun z => by rw [List.mem_singleton.mp z]
theorem places_int {ls : List (List Str)} {p : List Key × V} (h : p ∈ placesOf ls) : ∃ i, p.2 = V.int i := by
  unfold placesOf at h
  have all : ∀ (xs : List (List Str × Nat)) (acc : List (List Key × V)), (∀ p ∈ acc, ∃ i, p.2 = V.int i) → ∀ p ∈ xs.foldl (fun acc (p : List Str × Nat) => putK acc (p.1.map Sum.inr) (V.int (p.2 : Int))) acc, ∃ i, p.2 = V.int i := by
    intro xs
    induction xs with
    | nil => intro acc ha p hp; exact ha p hp
    | cons x r ih =>
      intro acc ha p hp
      exact ih _ (fun p hp => (putK_mem hp).elim (ha p) fun e => ⟨_, e⟩) p hp
  exact all _ [] (fun p m => nomatch m) p h
/-- a question stays, though a table of references is locked -/
theorem QuestAt.off {CF CQ q x : Addr} {H H' : Hp} {d : Addr} {tb : List (List Key × V)} {k : List Key} {a : Addr} {zs : List Str} {ch : Bool} {wt : List Str → Int} (h : QuestAt CF CQ H q x zs ch wt) (hd : H d = some (.dT tb)) (hm : (k, V.ref a) ∈ tb) (e : ∀ b o, b ≠ d → H b = some o → H' b = some o) : QuestAt CF CQ H' q x zs ch wt := by
  obtain ⟨dq, td, h1, ⟨dx, t, pd, h2, h3, h4⟩, h5⟩ := h
  refine ⟨dq, td, e _ _ (ne_of h1 hd (fun z => nomatch z)) h1, ⟨dx, t, pd, e _ _ (ne_of h2 hd (fun z => nomatch z)) h2, e _ _ (ne_of h3 hd (fun z => nomatch z)) h3, e _ _ (fun z => ?_) h4⟩, e _ _ (fun z => ?_) h5⟩
  · subst z
    rw [h4] at hd
    cases hd
    obtain ⟨i, z⟩ := places_int hm
    cases z
  · subst z
    rw [h5] at hd
    cases hd
    obtain ⟨kv, _, z⟩ := List.mem_map.mp hm
    cases z
/-- the answer of a store to a question -/
def ansQ (ls : List (List Str)) (sz : List Str → Rat) (wt : List Str → Int) : Rat := sumQ (ls.map fun l => sz l * ((wt l : Int) : Rat))
theorem ansQ_some (ls : List (List Str)) (sz : List Str → Rat) (wt : List Str → Int) : ansQ (ls.filter fun l => decide (sz l ≠ 0)) sz wt = ansQ ls sz wt := by
  unfold ansQ sumQ
  have all : ∀ (ls : List (List Str)) (a : Rat), ((ls.filter fun l => decide (sz l ≠ 0)).map fun l => sz l * ((wt l : Int) : Rat)).foldl (fun a b => a + b) a = (ls.map fun l => sz l * ((wt l : Int) : Rat)).foldl (fun a b => a + b) a := by
    intro ls
    induction ls with
    | nil => intro a; rfl
    | cons l r ih =>
      intro a
      by_cases z : sz l = 0
      · rw [List.filter_cons_of_neg (by simp [z]), ih a, List.map_cons, List.foldl_cons, z, Rat.zero_mul, Rat.add_zero]
      · rw [List.filter_cons_of_pos (p := fun l => decide (sz l ≠ 0)) (decide_eq_true z), List.map_cons, List.map_cons, List.foldl_cons, List.foldl_cons, ih]
  exact all ls 0
end Bk

namespace Bk
open PySem PySem.Spec PyProof.Rows L2
/-- what stands at a key, or nothing -/
def Siz0 (K : PySem.W.Frag) (H : Hp) (o : Option V) (q : Rat) : Prop := (o = none ∧ q = 0) ∨ ∃ v, o = some v ∧ SizV K H v q
theorem Siz0.same {K : PySem.W.Frag} {H H' : Hp} {o : Option V} {q : Rat} (h : Siz0 K H o q) (e : Same H H') : Siz0 K H' o q := h.imp id fun ⟨v, h1, h2⟩ => ⟨v, h1, h2.same e⟩
theorem SizV.lock {K : PySem.W.Frag} {H : Hp} {v : V} {q : Rat} {d : Addr} {tb : List (List Key × V)} {u : HO} (h : SizV K H v q) (hd : H d = some (.dT tb)) : SizV K (upd H d u) v q := by
  rcases h with h | ⟨a, t, b, h1, h2, h3⟩
  · exact .inl h
  · exact .inr ⟨a, t, b, h1, (sq_lock h2.symm hd).symm, h3⟩
theorem SizV.but {K : PySem.W.Frag} {H : Hp} {v : V} {q : Rat} {s C ds : Addr} {fs : List (Str × V)} {u : HO} (h : SizV K H v q) (hs : H s = some (.ins C ds fs)) : SizV K (upd H s u) v q := by
  rcases h with h | ⟨a, t, b, h1, (((h | ⟨o, h⟩) | h) | ((h | ⟨o, h⟩) | h)), h3⟩
  · exact .inl h
  · exact .inr ⟨a, t, b, h1, .inl (.inl (.inl (by rw [upd_ne (ne_of h hs (fun z => nomatch z))]; exact h))), h3⟩
  · exact .inr ⟨a, t, b, h1, .inl (.inl (.inr ⟨o, by rw [upd_ne (ne_of h hs (fun z => nomatch z))]; exact h⟩)), h3⟩
  · exact .inr ⟨a, t, b, h1, .inl (.inr h), h3⟩
  · exact .inr ⟨a, t, b, h1, .inr (.inl (.inl (by rw [upd_ne (ne_of h hs (fun z => nomatch z))]; exact h))), h3⟩
  · exact .inr ⟨a, t, b, h1, .inr (.inl (.inr ⟨o, by rw [upd_ne (ne_of h hs (fun z => nomatch z))]; exact h⟩)), h3⟩
  · exact .inr ⟨a, t, b, h1, .inr (.inr h), h3⟩
theorem SizV.zero {K : PySem.W.Frag} {H : Hp} : SizV K H (.int 0) 0 := .inl ⟨0, rfl, rfl⟩
/-- what the told gives for a lot -/
theorem Siz0.getD {K : PySem.W.Frag} {H : Hp} {o : Option V} {q : Rat} (h : Siz0 K H o q) : SizV K H (o.getD (.int 0)) q := by
  rcases h with ⟨rfl, rfl⟩ | ⟨v, rfl, h⟩
  · exact .zero
  · exact h
def spStore (K : PySem.W.Frag) (C CS : Addr) : Sp := fun vs H Q _ => ∃ (s x ds dx t pd : Addr) (wv : V) (zs : List Str) (ch : Bool) (sz : List Str → Rat), vs = [.ref s, .ref x, wv] ∧ H s = some (.ins CS ds []) ∧ H x = some (.ins C dx (foldersF t pd ch)) ∧ H t = some (.tup (zs.map V.str)) ∧ H pd = some (.dT (placesOf (lotsFor ch zs))) ∧
  zs.Nodup ∧ zs.length ≤ mostFor ch ∧ ((wv = .non ∧ ∀ l ∈ lotsFor ch zs, sz l = 0) ∨ ∃ (d : Addr) (es : List (List Str × V)), wv = .ref d ∧ pd ≠ d ∧ H d = some (.dT (entW es)) ∧ EntsW ch zs es ∧ (∀ e ∈ es, ∃ q, SizV K H e.2 q) ∧ ∀ l ∈ lotsFor ch zs, Siz0 K H (valV (foundW zs es) (l.map Sum.inr)) (sz l)) ∧
  ∀ H', StoreAt K C CS H' s x zs ch sz → (∀ b u, b ≠ s → H b = some u → H' b = some u) → Q .non H'
section
variable {P : Program} {w : World} {K : PySem.W.Frag} {mg : Str → Option Value} {base : Heap}
theorem scStore : FnScope ["self", "folders", "sizes", "told", "size", "lot"] ["self", "folders", "sizes"] (defScope (inClass (topS 36) 0)) := ⟨rfl, rfl, rfl, by decide +kernel, rfl, by decide +kernel, by decide +kernel⟩
theorem ok_store (B : Bi mg) {C CS f0 fS f f1 f2 aN : Addr} {fd fd1 fd2 : FuncData} {dvs : List V} (T : FolT K mg C f0) (TS : StoT K mg CS fS) (TN : NoT K mg aN) (c_by_lots : Cal P w K mg base CX0 3 "by_lots" f1 fd1 ["folders", "told"] (spByLots K C)) (c_size_of : Cal P w K mg base CX0 3 "size_of" f2 fd2 ["thing"] (spSizeQ K))
    (F : FunD K "__init__" "Store.__init__" (defArgs (inClass (topS 36) 0)) (defBody (inClass (topS 36) 0)) (defScope (inClass (topS 36) 0)) dvs [] f fd) : FnOk P w K mg base CX0 4 f fd ["self", "folders", "sizes"] (spStore K C CS) := by
  refine F.ok scStore (fun vs H Q E h => ?_) (fun cdv A outer s' H vs Q E hr h => ?_)
  · obtain ⟨s, x, ds, dx, t, pd, wv, zs, ch, sz, rfl, _⟩ := h
    rfl
  · obtain ⟨s, x, ds, dx, t, pd, wv, zs, ch, sz, rfl, hs, hx, ht, hp, nz, lz, hw, qq⟩ := h
    have nd := scStore.nd
    have hu := hu_of hr
    have hr_by_lots : Room 3 _ := hr.mono (by decide)
    have hr_size_of := hr_by_lots
    have l12 : zs.length ≤ 12 := Nat.le_trans lz (by cases ch <;> decide)
    refine ⟨_, (Evl.pss_cut (ps_set (i := 3) nd rfl (Or.inr rfl) (pe_ifExp (pt_cmpR op_isN (pv 2) pe_non (nomark _)) pe_dnewT (pe_call c_by_lots.ok hr_by_lots (by rfl) c_by_lots.g c_by_lots.kp c_by_lots.b .nil pass0 (pa_cons (pv 1) (pa_cons (pv 2) pa_nil)))))
      (Evl.pss_cut (ps_lock (ps_for (passes_of rfl) rfl (pi_valsT (pv 3)) (pg_name (i := 4) nd rfl (Or.inl rfl)) (pss_one (ps_if (pt_cmpR op_isN (pe_call c_size_of.ok hr_size_of (by rfl) c_size_of.g c_size_of.kp c_size_of.b .nil pass0 (pa_cons (pv 4) pa_nil)) pe_non (nomark _)) (pss_one ps_no) pss_nil))))
      (pss_cons (ps_fld (pv 0) (pv 1) rfl)
      (pss_one (ps_fld (pv 0) (pe_lock (pe_dcTI (own := [("lot", 5)]) hr.units0 rfl nd (pi_keys (pe_fld (pv 1) rfl)) (blkOk_by (N := ["self", "folders", "sizes", "told", "size", "lot"]) (sc := defScope (inClass (topS 36) 0)) (by decide +kernel)) (fun _ _ _ _ _ => (pg_name (i := 5) nd rfl (Or.inl rfl))) (fun _ _ _ _ _ => (pts_one (pt_cmpR (kNeD K hr.units) (pe_call c_size_of.ok hr_size_of (by rfl) c_size_of.g c_size_of.kp c_size_of.b .nil pass0 (pa_cons (pe_dget2 hu (pv 3) (pv 5) pe_int ⟨rfl, rfl, rfl, rfl⟩) pa_nil)) (pe_glob (v:=.ref aN) (by rfl) TN.g rfl) (nomark _)))) (fun _ _ _ _ _ => (pv 5)) (fun _ _ _ _ _ => (pe_call c_size_of.ok hr_size_of (by rfl) c_size_of.g c_size_of.kp c_size_of.b .nil pass0 (pa_cons (pe_dget hu (pv 3) (pv 5) (fun _ _ => rfl)) pa_nil))))) rfl))))), ?_⟩
    -- told
    refine ⟨fun σ1 H1 => ∃ (D : Addr) (tb : List (List Key × V)), σ1 = [some (.ref s), some (.ref x), some wv, some (.ref D), none, none] ∧ H D = none ∧ Same H H1 ∧ H1 D = some (.dT tb) ∧ (∀ p ∈ tb, ∃ q, SizV K H1 p.2 q) ∧ ∀ l ∈ lotsFor ch zs, Siz0 K H1 (valV tb (l.map Sum.inr)) (sz l), ?_, ?_⟩
    · rcases hw with ⟨rfl, h0⟩ | ⟨d, es, rfl, npd, hd, hE, hS, h0⟩
      · refine ⟨_, rfl, rfl, _, rfl, ?_⟩
        refine iteT ?_
        intro D nD
        exact ⟨D, [], rfl, nD, same_upd nD, upd_same, fun p m => (nomatch m), fun l m => .inl ⟨rfl, h0 l m⟩⟩
      · refine ⟨_, rfl, rfl, _, rfl, ?_⟩
        refine iteF ?_
        refine ⟨_, rfl, _, rfl, x, d, dx, t, pd, zs, ch, es, rfl, hx, ht, hp, npd, nz, l12, hd, hE, fun D H' nD e1 hD => ⟨D, _, rfl, nD, e1, hD, fun p m => ?_, fun l m => (h0 l m).same e1⟩⟩
        obtain ⟨e, me, rfl⟩ := List.mem_map.mp m
        obtain ⟨q, hq⟩ := hS e me
        exact ⟨q, hq.same e1⟩
    rintro σ1 H1 ⟨D, tb, rfl, nD, e1, hD1, hv, hz⟩
    -- each size is one
    refine ⟨fun σ2 H2 => ∃ v5, σ2 = [some (.ref s), some (.ref x), some wv, some (.ref D), v5, none] ∧ Same H1 H2, ?_, ?_⟩
    · refine ⟨D, _, hD1, trivial, fun oD => ?_⟩
      have hD2 : upd H1 D (.frz oD (.dT tb)) D = some (.frz oD (.dT tb)) := upd_same
      refine ⟨_, rfl, D, oD, _, rfl, hD2, ?_⟩
      refine for_it walk_valsT (fun i σ' H' => ∃ v5, σ' = [some (.ref s), some (.ref x), some wv, some (.ref D), v5, none] ∧ Same (upd H1 D (.frz oD (.dT tb))) H') ⟨_, rfl, Same.refl _⟩ (fun i σ' H' _ ⟨_, _, e⟩ => e _ _ hD2) ?_ ?_
      · rintro i y σ' H2 H3 hi ⟨v5, rfl, e2⟩ ⟨rfl, k, hk⟩
        obtain ⟨q, hq⟩ := hv _ (List.mem_of_getElem? hk)
        have hq3 := (hq.lock (u := .frz oD (.dT tb)) hD1).same e2
        refine ⟨_, rfl, y, q, rfl, hq3, fun z H4 nz4 e4 hz4 => ?_⟩
        refine ⟨rfl, _, rfl, ?_⟩
        refine iteF ?_
        exact ⟨_, rfl, Same.trans e2 e4⟩
      · rintro σ' H2 ⟨v5, rfl, e2⟩
        exact ⟨e2 _ _ hD2, _, rfl, unlock hD1 e2⟩
    rintro σ2 H2 ⟨v5, rfl, e2⟩
    -- self.folders
    have e12 := Same.trans e1 e2
    have hxs : x ≠ s := fun z => by subst z; rw [hx] at hs; injection hs with hs; injection hs with _ _ h3; cases h3
    have hts : t ≠ s := ne_of ht hs (fun z => nomatch z)
    have hps : pd ≠ s := ne_of hp hs (fun z => nomatch z)
    have hDs : D ≠ s := (ne_of_none hs nD).symm
    refine ⟨_, rfl, _, rfl, s, CS, ds, [], rfl, e12 _ _ hs, TS.cl, TS.nF, by decide, ?_⟩
    rw [putq1]
    have hs3 : upd H2 s (.ins CS ds [("folders", .ref x)]) s = some (.ins CS ds [("folders", .ref x)]) := upd_same
    have k3 : ∀ b u, b ≠ s → H2 b = some u → upd H2 s (.ins CS ds [("folders", .ref x)]) b = some u := fun b u nb z => by rw [upd_ne nb]; exact z
    have kz : ∀ v q, SizV K H2 v q → SizV K (upd H2 s (.ins CS ds [("folders", .ref x)])) v q := fun v q h => h.but (e12 _ _ hs)
    generalize upd H2 s (.ins CS ds [("folders", .ref x)]) = H3 at hs3 k3 kz ⊢
    have hD3 : H3 D = some (.dT tb) := k3 _ _ hDs (e2 _ _ hD1)
    have hp3 : H3 pd = some (.dT (placesOf (lotsFor ch zs))) := k3 _ _ hps (e12 _ _ hp)
    -- self.table
    have hx3 := k3 _ _ hxs (e12 _ _ hx)
    have ht3 := k3 _ _ hts (e12 _ _ ht)
    refine ⟨pd, _, hp3, trivial, fun od => ?_⟩
    have hxp : x ≠ pd := ne_of hx hp (fun z => nomatch z)
    have htp : t ≠ pd := ne_of ht hp (fun z => nomatch z)
    have hsp : s ≠ pd := hps.symm
    have hDp : D ≠ pd := (ne_of_none hp nD).symm
    have hp4 : upd H3 pd (.frz od (.dT (placesOf (lotsFor ch zs)))) pd = some (.frz od (.dT (placesOf (lotsFor ch zs)))) := upd_same
    have hx4 : upd H3 pd (.frz od (.dT (placesOf (lotsFor ch zs)))) x = some (.ins C dx (foldersF t pd ch)) := by rw [upd_ne hxp]; exact hx3
    have hD4 : upd H3 pd (.frz od (.dT (placesOf (lotsFor ch zs)))) D = some (.dT tb) := by rw [upd_ne hDp]; exact hD3
    refine ⟨_, rfl, x, C, dx, _, _, rfl, hx4, T.cl, T.nP, look_places _ _ _, pd, od, rfl, .inr ⟨_, hp4, fun D2 nD2 => ?_⟩⟩
    have lots3 : (lotsFor ch zs).length ≤ 2000 := lots_few lz
    refine dcI_it walk_keysT (fun i H' => Same (upd H3 pd (.frz od (.dT (placesOf (lotsFor ch zs))))) H' ∧ ∃ tb2, H' D2 = some (.dT tb2) ∧ FrTab K H' tb2 (tabQ ((lotsFor ch zs).take i) sz)) ⟨same_upd nD2, [], upd_same, .nil⟩ (fun i H' _ ⟨e4, _⟩ => e4 _ _ hp4) ?_ ?_
    · rintro i y H4 H5 hi ⟨e4, tb2, hd4, ft⟩ ⟨rfl, k, v, qa, hk, rfl, hqa⟩
      obtain ⟨l, hl, rfl⟩ := places_key nz hk
      refine ⟨rfl, ?_⟩
      have ml := List.mem_of_getElem? hl
      have hqs : H5 qa = some (.tup ((l.map Sum.inr : List Key).map kV)) := hqa
      have hz5 : ∀ v q, SizV K H1 v q → SizV K H5 v q := fun v q h => ((kz v q (h.same e2)).lock hp3).same e4
      have hl0 := hz l ml
      have htake : tabQ ((lotsFor ch zs).take (i + 1)) sz = tabQ ((lotsFor ch zs).take i) sz ++ if sz l = 0 then [] else [(l.map Sum.inr, sz l)] := by
        unfold tabQ
        rw [take_succ hl, List.filter_append, List.map_append]
        by_cases z : sz l = 0
        · simp [z]
        · simp [z]
      refine ⟨_, rfl, D, rfl, .inr ⟨_, .inl (e4 _ _ hD4)⟩, _, rfl, _, DGet.t (e4 _ _ hD4) hqs, ?_⟩
      refine ⟨_, sz l, rfl, hz5 _ _ hl0.getD, fun z H6 nz6 e6 hz6 => ?_⟩
      refine ⟨dQ (sz l), dQ 0, dp_q ⟨z, rfl, SqT.of hz6⟩, dp_q ⟨aN, rfl, TN.t _⟩, shaped_q _, shaped_q _, ?_⟩
      rw [eqv_q]
      refine ⟨_, rfl, ?_⟩
      have e46 := Same.trans e4 e6
      by_cases c : sz l = 0
      · rw [decide_eq_true c]
        rw [if_pos c, List.append_nil] at htake
        refine iteF ?_
        exact ⟨e46, tb2, e6 _ _ hd4, by rw [htake]; exact ft.same e6⟩
      · rw [decide_eq_false c]
        rw [if_neg c] at htake
        refine iteT ?_
        obtain ⟨v1, hv1, hs1⟩ : ∃ v, valV tb (l.map Sum.inr) = some v ∧ SizV K H1 v (sz l) := by
          rcases hl0 with ⟨_, h⟩ | h
          · exact absurd h c
          · exact h
        refine ⟨_, rfl, _, rfl, _, rfl, D, v1, rfl, ?_, ?_⟩
        · have := DGet.t (e46 _ _ hD4) (e6 _ _ hqs)
          rw [hv1] at this
          exact this
        refine ⟨v1, sz l, rfl, (hz5 _ _ hs1).same e6, fun z7 H7 nz7 e7 hz7 => ?_⟩
        have e47 := Same.trans e46 e7
        have ft7 := ft.same (Same.trans e6 e7)
        have hd7 : H7 D2 = some (.dT tb2) := e7 _ _ (e6 _ _ hd4)
        have fresh : (l.map Sum.inr : List Key) ∉ tb2.map (·.1) := by
          rw [ft.keys, tabQ_keys]
          intro m
          obtain ⟨l', m', e⟩ := List.mem_map.mp m
          rw [inr_inj e] at m'
          exact take_fresh (lots_nodup (ch := ch) nz) hl (List.mem_filter.mp m').1
        refine ⟨_, l.map Sum.inr, qa, rfl, e7 _ _ (e6 _ _ hqs), hd7, ?_, Same.grow e47 nD2, tb2 ++ [(l.map Sum.inr, .ref z7)], ?_, ?_⟩
        · rw [ft.len, tabQ_len]
          have h1 := List.length_filter_le (fun l => decide (sz l ≠ 0)) ((lotsFor ch zs).take i)
          rw [List.length_take] at h1
          exact Evl.sz_lt (by omega)
        · rw [upd_same, putK_fresh fresh]
        · rw [htake]
          exact (ft7.snoc ⟨z7, rfl, SqT.of hz7⟩).put hd7
    · rintro H4 ⟨e4, tb2, hd4, ft⟩
      rw [places_length nz, List.take_length] at ft
      refine ⟨e4 _ _ hp4, ?_⟩
      have hs4 : upd H3 pd (.frz od (.dT (placesOf (lotsFor ch zs)))) s = some (.ins CS ds [("folders", .ref x)]) := by rw [upd_ne hsp]; exact hs3
      have ht4 : upd H3 pd (.frz od (.dT (placesOf (lotsFor ch zs)))) t = some (.tup (zs.map V.str)) := by rw [upd_ne htp]; exact ht3
      have n2p : D2 ≠ pd := (ne_of_none hp4 nD2).symm
      have n2s : D2 ≠ s := (ne_of_none hs4 nD2).symm
      have hs5 : upd H4 pd (.dT (placesOf (lotsFor ch zs))) s = some (.ins CS ds [("folders", .ref x)]) := by rw [upd_ne hsp]; exact e4 _ _ hs4
      refine ⟨_, rfl, s, CS, ds, [("folders", .ref x)], rfl, hs5, TS.cl, TS.nT, by show 1 < 1000; decide, ?_⟩
      rw [putq2]
      refine qq _ ⟨ds, D2, tb2, upd_same, ⟨dx, t, pd, ?_, ?_, ?_⟩, ?_, ?_⟩ fun b u nb z => ?_
      · rw [upd_ne hxs, upd_ne hxp]; exact e4 _ _ hx4
      · rw [upd_ne hts, upd_ne htp]; exact e4 _ _ ht4
      · rw [upd_ne hps, upd_same]
      · rw [upd_ne n2s, upd_ne n2p]; exact hd4
      · refine FrTab.ins ?_ hs5
        exact ft.unl (e4 _ _ hp4)
      · rw [upd_ne nb]
        by_cases nb2 : b = pd
        · subst nb2
          rw [upd_same, ← z, hp]
        · rw [upd_ne nb2]
          refine e4 _ _ ?_
          rw [upd_ne nb2]
          exact k3 _ _ nb (e12 _ _ z)
end
end Bk

namespace Bk
open PySem PySem.Spec PyProof.Rows L2
/-- store(question): the answer -/
def spCall (K : PySem.W.Frag) (C CS CQ : Addr) : Sp := fun vs H Q _ => ∃ (s x q x' : Addr) (zs : List Str) (ch : Bool) (sz : List Str → Rat) (wt : List Str → Int) (m n : Nat), vs = [.ref s, .ref q] ∧ StoreAt K C CS H s x zs ch sz ∧ QuestAt C CQ H q x' zs ch wt ∧ (∀ z ∈ zs, isNameS z = true) ∧ zs.Nodup ∧ zs.length ≤ mostFor ch ∧
  (∀ l ∈ lotsFor ch zs, FrB m (sz l)) ∧ (∀ l ∈ lotsFor ch zs, (wt l).natAbs < 2 ^ n) ∧ 0 < n ∧ ((lotsFor ch zs).length + 1) * (m + n + 1) ≤ 6000 ∧
  ∀ v H', Same H H' → FrV K H' v (ansQ (lotsFor ch zs) sz wt) → FrB 6000 (ansQ (lotsFor ch zs) sz wt) → Q v H'
theorem look_weight1 (x td : Addr) : (questF x td).lookup ("weight" : Str) = none := by
  have h1 : (("weight" : Str) == ("folders" : Str)) = false := by decide +kernel
  have h2 : (("weight" : Str) == ("table" : Str)) = false := by decide +kernel
  show List.lookup ("weight" : Str) [(("folders" : Str), V.ref x), ("table", .ref td)] = _
  simp [List.lookup, h1, h2]
theorem FrB.ofInt {n : Nat} {k : Int} (h : k.natAbs < 2 ^ n) (n0 : 0 < n) : FrB n (k : Rat) := ⟨h, Nat.one_lt_two_pow (by omega)⟩
section
variable {P : Program} {w : World} {K : PySem.W.Frag} {mg : Str → Option Value} {base : Heap}
theorem scSCall : FnScope ["self", "question", "lot"] ["self", "question"] (defScope (inClass (topS 36) 2)) := ⟨rfl, rfl, rfl, by decide +kernel, rfl, by decide +kernel, by decide +kernel⟩
theorem ok_scall (B : Bi mg) {C CS CQ f0 fS fQ fE fW f f1 f2 : Addr} {fdE fdW fd fd1 fd2 : FuncData} (T : FolT K mg C f0) (TS : StoT K mg CS fS) (TQ : QueT K mg CQ fQ) (kT : PySem.W.kitOne K (.ref C) (.ref C) = some true) (tF : ∀ (H : Hp) (x dx : Addr) (fs : List (Str × V)), H x = some (.ins C dx fs) → TyX K H (.ref x) (.ref C))
    (GE : FnOk P w K mg base CX0 1 fE fdE ["self", "other"] (spFEq K C)) (bE : Binds K fdE ["self", "other"] []) (mE : Own K C "__eq__" fE) (cE : eqCls K C fE = true)
    (GW : FnOk P w K mg base CX0 3 fW fdW ["self", "lot"] (spWeight K C CQ)) (bW : Binds K fdW ["self", "lot"] []) (mW : Meth K CQ "weight" fW)
    (c_sum_of : Cal P w K mg base CX0 4 "sum_of" f1 fd1 ["fractions"] (spSumF K)) (c_times : Cal P w K mg base CX0 3 "times" f2 fd2 ["one", "other"] (spTimesF K)) (F : Fun K "__call__" "Store.__call__" (inClass (topS 36) 2) f fd) : FnOk P w K mg base CX0 5 f fd ["self", "question"] (spCall K C CS CQ) := by
  refine F.ok scSCall (fun vs H Q E h => ?_) (fun cdv A outer s' H vs Q E hr h => ?_)
  · obtain ⟨s, x, q, x', zs, ch, sz, wt, m, n, rfl, _⟩ := h
    rfl
  · obtain ⟨s, x, q, x', zs, ch, sz, wt, m, n, rfl, SA, QA, nm, nz, lz, bz, bw, n0, bn, qq⟩ := h
    have nd := scSCall.nd
    have hu := hu_of hr
    have hrN : Room 2 _ := hr.mono (by decide)
    have hrW : Room 3 _ := hr.mono (by decide)
    have hr_times := hrW
    have hr_sum_of := hr
    refine ⟨_, (pss_cons (ps_if (pt_cmpR (op_neOwn GE bE pass0 hrN cE mE.fn) (pe_fld (pv 0) rfl) (pe_fld (pv 1) rfl) (nomark _)) (pss_one ps_no) pss_nil)
      (pss_one (ps_ret (pe_call c_sum_of.ok hr_sum_of (by rfl) c_sum_of.g c_sum_of.kp c_sum_of.b .nil pass0 (pa_cons (pe_lock (pe_lc (own := [("lot", 2)]) rfl nd (pi_keys (pe_fld (pv 0) rfl)) (blkOk_by (N := ["self", "question", "lot"]) (sc := defScope (inClass (topS 36) 2)) (by decide +kernel)) (fun _ _ _ _ _ => (pg_name (i := 2) nd rfl (Or.inl rfl))) (fun _ _ _ _ _ => pts_nil) (fun _ _ _ _ _ => (pe_call c_times.ok hr_times (by rfl) c_times.g c_times.kp c_times.b .nil pass0 (pa_cons (pe_dget hu (kFld K (pv 0)) (pv 2) (fun _ _ => rfl)) (pa_cons (pe_tup (pa_cons (pe_meth (pv 1) TQ.cl mW GW hrW bW .nil pass0 (pa_cons (pv 2) pa_nil)) (pa_cons pe_int pa_nil))) pa_nil)))))) pa_nil))))), ?_⟩
    obtain ⟨ds, td, tb, hs, FA, htd, ft⟩ := id SA
    obtain ⟨dq, tq, hq, FB, htq⟩ := id QA
    obtain ⟨dx, t, pd, hx, ht, hp⟩ := id FA
    obtain ⟨dx', t', pd', hx', ht', hp'⟩ := id FB
    refine ⟨_, rfl, s, CS, ds, _, _, rfl, hs, TS.cl, TS.nF, look_folders _ _, _, rfl, q, CQ, dq, _, _, rfl, hq, TQ.cl, TQ.nF, look_folders _ _, x, dx, x', dx', _, _, rfl, rfl, hx, hx', x, .ref x', .ref C, zs, ch, _, rfl, FA, nm, tF _ _ _ _ hx', .inr ⟨kT, x', zs, ch, rfl, FB, nm, rfl⟩, fun H1 e1 => ⟨_, rfl, _, rfl, ?_⟩⟩
    rw [decide_eq_true rfl, decide_eq_true rfl]
    refine iteF ?_
    have htd1 := e1 _ _ htd
    have SA1 := SA.same e1
    have QA1 := QA.same e1
    have ft1 := ft.same e1
    refine ⟨td, _, htd1, trivial, fun od => ?_⟩
    have hst : s ≠ td := ne_of hs htd (fun z => nomatch z)
    have hl2 : upd H1 td (.frz od (.dT tb)) td = some (.frz od (.dT tb)) := upd_same
    have off : ∀ b o, b ≠ td → H1 b = some o → upd H1 td (.frz od (.dT tb)) b = some o := fun b o nb z => by rw [upd_ne nb]; exact z
    have ft2 : FrTab K (upd H1 td (.frz od (.dT tb))) tb (tabQ (lotsFor ch zs) sz) := ft1.put htd1
    generalize hH2 : upd H1 td (.frz od (.dT tb)) = H2 at hl2 off ft2 ⊢
    refine ⟨_, rfl, s, CS, ds, _, _, rfl, off _ _ hst (e1 _ _ hs), TS.cl, TS.nT, look_table _ _, td, od, rfl, .inr ⟨_, hl2, fun D2 nD2 => ?_⟩⟩
    have ndk : (tb.map (·.1)).Nodup := by
      rw [ft.keys, tabQ_keys]
      exact keys_nodup ((lots_nodup nz).filter _)
    have tlen : tb.length = ((lotsFor ch zs).filter fun l => decide (sz l ≠ 0)).length := by rw [ft.len, tabQ_len]
    have lots3 : (lotsFor ch zs).length ≤ 2000 := lots_few lz
    have tl3 : tb.length ≤ 2000 := by
      rw [tlen]
      exact Nat.le_trans (List.length_filter_le _ _) lots3
    refine lc_it walk_keysT (fun i H' => ∃ us, Same H2 H' ∧ H' D2 = some (.lst us) ∧ us.length = i ∧ Told (FrV K) H' us ((((lotsFor ch zs).filter fun l => decide (sz l ≠ 0)).map fun l => sz l * ((wt l : Int) : Rat)).take i)) ⟨[], same_upd nD2, upd_same, rfl, .nil⟩ (fun i H' _ ⟨_, e, _⟩ => e _ _ hl2) ?_ ?_
    · rintro i y H3 H4 hi ⟨us, e3, hD3, lu, tu⟩ ⟨rfl, k, v, qa, hk, rfl, hqa⟩
      obtain ⟨q1, hq1, fv⟩ := ft2.idx hk
      obtain ⟨l, hl, rfl, rfl⟩ := tabQ_idx hq1
      have ml := (List.mem_filter.mp (List.mem_of_getElem? hl)).1
      have hqs : H4 qa = some (.tup ((l.map Sum.inr : List Key).map kV)) := hqa
      obtain ⟨va, rfl, _⟩ := id fv
      have QA4 : QuestAt C CQ H4 q x' zs ch wt := by
        exact QuestAt.off QA1 htd1 (List.mem_of_getElem? hk) (fun b o nb z => e3 _ _ (off b o nb z))
      obtain ⟨dq4, tq4, hq4, FB4, htq4⟩ := id QA4
      refine ⟨rfl, ?_⟩
      have hs4 : H4 s = some (.ins CS ds (questF x td)) := e3 _ _ (off _ _ hst (e1 _ _ hs))
      refine ⟨_, rfl, s, CS, ds, _, _, rfl, hs4, TS.cl, TS.nT, look_table _ _, _, rfl, td, .ref va, rfl, ?_, ?_⟩
      · exact .inr ⟨_, _, qa, .inr ⟨od, e3 _ _ hl2⟩, rfl, hqs, (valV_once ndk hk).symm⟩
      rw [str_key] at hqs
      refine ⟨_, rfl, q, dq4, _, rfl, hq4, look_weight1 _ _, _, rfl, q, x', qa, zs, l, ch, wt, rfl, QA4, nz, Nat.le_trans lz (by cases ch <;> decide), ml, lz, hqs, fun H5 e5 => ?_⟩
      refine ⟨by show 2 ≤ sizeLine; rw [sizeLine_eq]; omega, fun p np => ?_⟩
      have e6 := same_upd (o := HO.tup [V.int (wt l), .int 1]) np
      have hp6 : upd H5 p (HO.tup [V.int (wt l), .int 1]) p = some (.tup [V.int (wt l), .int 1]) := upd_same
      generalize upd H5 p (HO.tup [V.int (wt l), .int 1]) = H6 at e6 hp6 ⊢
      have e46 := Same.trans e5 e6
      refine ⟨.ref va, .ref p, sz l, ((wt l : Int) : Rat), m, n, rfl, (fv.same e3).same e46, ⟨p, rfl, SqT.of hp6⟩, bz l ml, FrB.ofInt (bw l ml) n0, ?_, fun z7 H7 nz7 e7 hz7 => ?_⟩
      · have := Nat.le_mul_of_pos_left (m + n + 1) (show 0 < (lotsFor ch zs).length + 1 by omega)
        omega
      have e47 := Same.trans e46 e7
      have e37 := Same.trans e3 e47
      have hD7 := e47 _ _ hD3
      refine ⟨us, hD7, Evl.sz_lt (by omega), us ++ [.ref z7], Same.grow e37 nD2, upd_same, by rw [List.length_append, lu]; rfl, ?_⟩
      rw [take_succ (by rw [List.getElem?_map, hl]; rfl)]
      exact ((tu.same stays_fr e47).snoc ⟨z7, rfl, SqT.of hz7⟩).up stays_fr hD7
    · rintro H3 ⟨us, e3, hD3, lu, tu⟩
      refine ⟨e3 _ _ hl2, ?_⟩
      have e13 := unlock htd1 (hH2 ▸ e3)
      have e03 := Same.trans e1 e13
      have n2d : D2 ≠ td := (ne_of_none hl2 nD2).symm
      rw [tlen, List.take_of_length_le (by rw [List.length_map]; exact Nat.le_refl _)] at tu
      have fvs : FrVs K (upd H3 td (.dT tb)) us (((lotsFor ch zs).filter fun l => decide (sz l ≠ 0)).map fun l => sz l * ((wt l : Int) : Rat)) := ⟨tu.1, fun i u q h1 h2 => (tu.2 i u q h1 h2).chg (e3 _ _ hl2) (fun _ z => nomatch z) (fun _ _ z => nomatch z)⟩
      have hlen : (((lotsFor ch zs).filter fun l => decide (sz l ≠ 0)).map fun l => sz l * ((wt l : Int) : Rat)).length ≤ (lotsFor ch zs).length := by
        rw [List.length_map]
        exact List.length_filter_le _ _
      have hmul := Nat.mul_le_mul_right (m + n + 1) (Nat.succ_le_succ hlen)
      refine ⟨D2, us, _, m + n, rfl, SqL.of (by rw [upd_ne n2d]; exact hD3), fvs, fun q mq => ?_, Nat.le_trans hmul bn, fun v H4 e4 fv fb => ?_⟩
      · obtain ⟨l, ml, rfl⟩ := List.mem_map.mp mq
        have ml := (List.mem_filter.mp ml).1
        exact (bz l ml).mul (FrB.ofInt (bw l ml) n0)
      have key := ansQ_some (lotsFor ch zs) sz wt
      unfold ansQ at key
      have fv : FrV K H4 v (ansQ (lotsFor ch zs) sz wt) := by
        unfold ansQ
        rw [← key]
        exact fv
      refine qq v H4 (Same.trans e03 e4) fv ?_
      unfold ansQ
      rw [← key]
      exact fb.more (Nat.le_trans hmul bn)
end
end Bk

namespace Bk
open PySem PySem.Spec PyProof.Rows L2
theorem entsW_some {ch : Bool} {zs : List Str} (nz : zs.Nodup) (lz : zs.length ≤ mostFor ch) {es : List (List Str × V)} (sub : ∀ e ∈ es, e.1 ∈ lotsFor ch zs) (nl : (es.map (·.1)).Nodup) : EntsW ch zs es where
  few := by
    have h1 := pigeon _ (lotsFor ch zs) nl fun l m => by
      obtain ⟨e, he, rfl⟩ := List.mem_map.mp m
      exact sub e he
    have h2 : (lotsFor ch zs).length ≤ 2000 := lots_few lz
    rw [List.length_map] at h1
    omega
  lot := fun e he => by rw [lotOfV_lot lz nz (sub e he), lotS_sub (lots_sub lz (sub e he)) nz]
  len := fun e he => by
    have h1 := lot_len (sub e he)
    have h2 : mostFor ch ≤ 12 := by cases ch <;> decide
    omega
  nd := by
    have e : (es.map fun e => lotS zs e.1) = es.map (·.1) := List.map_congr_left fun e m => lotS_sub (lots_sub lz (sub e m)) nz
    rw [e]
    exact nl
theorem foundW_some {ch : Bool} {zs : List Str} (nz : zs.Nodup) (lz : zs.length ≤ mostFor ch) {es : List (List Str × V)} (sub : ∀ e ∈ es, e.1 ∈ lotsFor ch zs) : foundW zs es = entW es := List.map_congr_left fun e m => by rw [lotS_sub (lots_sub lz (sub e m)) nz]
theorem entW_at {es : List (List Str × V)} {l : List Str} (h : l ∉ es.map (·.1)) : valV (entW es) (l.map Sum.inr) = none := by
  induction es with
  | nil => rfl
  | cons e r ih =>
    show valV ((e.1.map Sum.inr, e.2) :: entW r) _ = none
    rw [valV_neg (fun z => h (by rw [← inr_inj z]; exact List.mem_cons_self))]
    exact ih fun m => h (List.mem_cons_of_mem _ m)
theorem entW_in {es : List (List Str × V)} (nl : (es.map (·.1)).Nodup) {e : List Str × V} (h : e ∈ es) : valV (entW es) (e.1.map Sum.inr) = some e.2 := by
  induction es with
  | nil => cases h
  | cons y r ih =>
    show valV ((y.1.map Sum.inr, y.2) :: entW r) _ = _
    rw [List.map_cons, List.nodup_cons] at nl
    rcases List.mem_cons.mp h with rfl | h
    · exact valV_pos rfl
    · rw [valV_neg (fun z => nl.1 (by rw [inr_inj z]; exact List.mem_map.mpr ⟨e, h, rfl⟩))]
      exact ih nl.2 h
/-- Store(folders, d) of a dict whose keys are lots -/
theorem make_store {K : PySem.W.Frag} {C CS : Addr} {H : Hp} {x d : Addr} {zs : List Str} {ch : Bool} {es : List (List Str × V)} {sz : List Str → Rat} {R : Addr → Hp → Prop} (FA : FoldersAt C H x zs ch) (nz : zs.Nodup) (lz : zs.length ≤ mostFor ch) (hd : H d = some (.dT (entW es))) (far : ∀ dx t pd, H x = some (.ins C dx (foldersF t pd ch)) → pd ≠ d)
    (sub : ∀ e ∈ es, e.1 ∈ lotsFor ch zs) (nl : (es.map (·.1)).Nodup) (hv : ∀ e ∈ es, SizV K H e.2 (sz e.1)) (h0 : ∀ l ∈ lotsFor ch zs, l ∉ es.map (·.1) → sz l = 0) (r : ∀ s H', H s = none → Same H H' → StoreAt K C CS H' s x zs ch sz → R s H') :
    ∀ s ds, H s = none → H ds = none → ds ≠ s → spStore K C CS [.ref s, .ref x, .ref d] (upd (upd H ds (.own s)) s (.ins CS ds [])) (fun v H' => v = .non ∧ R s H') E0 := by
  rintro s ds ns nds hne
  have e2 := Same.grow (o := HO.ins CS ds []) (Same.grow (o := HO.own s) (Same.refl H) nds) ns
  obtain ⟨dx, t, pd, hx, ht, hp⟩ := FA
  refine ⟨s, x, ds, dx, t, pd, .ref d, zs, ch, sz, rfl, upd_same, e2 _ _ hx, e2 _ _ ht, e2 _ _ hp, nz, lz, .inr ⟨d, es, rfl, far _ _ _ hx, e2 _ _ hd, entsW_some nz lz sub nl, fun e m => ⟨_, (hv e m).same e2⟩, fun l m => ?_⟩, fun H' SA hb => ⟨rfl, r s H' ns (fun b u z => hb b u (ne_of_none z ns) (e2 _ _ z)) SA⟩⟩
  rw [foundW_some nz lz sub]
  by_cases c : l ∈ es.map (·.1)
  · obtain ⟨e, me, rfl⟩ := List.mem_map.mp c
    exact .inr ⟨e.2, entW_in nl me, (hv e me).same e2⟩
  · exact .inl ⟨entW_at c, h0 l m c⟩
def spSEq (K : PySem.W.Frag) (C CS : Addr) : Sp := fun vs H Q _ => ∃ (s x s' x' : Addr) (zs zs' : List Str) (ch ch' : Bool) (sz sz' : List Str → Rat), vs = [.ref s, .ref s'] ∧ StoreAt K C CS H s x zs ch sz ∧ StoreAt K C CS H s' x' zs' ch' sz' ∧
  (∀ z ∈ zs, isNameS z = true) ∧ (∀ z ∈ zs', isNameS z = true) ∧ ∀ H', Same H H' → Q (.bl (decide (zs = zs') && decide (ch = ch') && sameQ (tabQ (lotsFor ch zs) sz) (tabQ (lotsFor ch' zs') sz'))) H'
/-- the store of just one lot -/
def oneQ (l : List Str) : List Str → Rat := fun k => if k = l then 1 else 0
def spMoreAt (K : PySem.W.Frag) (C CS CQ : Addr) : Sp := fun vs H Q _ => ∃ (q x q' x' : Addr) (zs : List Str) (ch : Bool) (wt wt' : List Str → Int), vs = [.ref q, .ref q'] ∧ QuestAt C CQ H q x zs ch wt ∧ QuestAt C CQ H q' x' zs ch wt' ∧ (∀ z ∈ zs, isNameS z = true) ∧ zs.Nodup ∧ zs.length ≤ mostFor ch ∧
  (∀ H', Same H H' → (∀ l ∈ lotsFor ch zs, wt l ≤ wt' l) → Q .non H') ∧ ∀ l s H', Same H H' → (lotsFor ch zs).find? (fun l => decide (wt' l < wt l)) = some l → H s = none → StoreAt K C CS H' s x zs ch (oneQ l) → Q (.ref s) H'
section
variable {P : Program} {w : World} {K : PySem.W.Frag} {mg : Str → Option Value} {base : Heap}
theorem scSEq : FnScope ["self", "other"] ["self", "other"] (defScope (inClass (topS 36) 7)) := ⟨rfl, rfl, rfl, by decide +kernel, rfl, by decide +kernel, by decide +kernel⟩
theorem ok_seq (B : Bi mg) {C CS f0 fS fE f : Addr} {fdE fd : FuncData} (T : FolT K mg C f0) (TS : StoT K mg CS fS) (kS : PySem.W.kitOne K (.ref CS) (.ref CS) = some true) (tS : ∀ (H : Hp) (x dx : Addr) (fs : List (Str × V)), H x = some (.ins CS dx fs) → TyX K H (.ref x) (.ref CS))
    (kF : PySem.W.kitOne K (.ref C) (.ref C) = some true) (nC : PySem.W.notFirst K C (.ref C) = true) (tF : ∀ (H : Hp) (x dx : Addr) (fs : List (Str × V)), H x = some (.ins C dx fs) → TyX K H (.ref x) (.ref C))
    (GE : FnOk P w K mg base CX0 1 fE fdE ["self", "other"] (spFEq K C)) (bE : Binds K fdE ["self", "other"] []) (mE : Own K C "__eq__" fE)
    (F : Fun K "__eq__" "Store.__eq__" (inClass (topS 36) 7) f fd) : FnOk P w K mg base CX0 2 f fd ["self", "other"] (spSEq K C CS) := by
  refine F.ok scSEq (fun vs H Q E h => ?_) (fun cdv A outer s' H vs Q E hr h => ?_)
  · obtain ⟨s, x, s', x', zs, zs', ch, ch', sz, sz', rfl, _⟩ := h
    rfl
  · obtain ⟨s, x, s2, x2, zs, zs', ch, ch', sz, sz', rfl, ⟨ds, td, tb, hs, FA, htd, ft⟩, ⟨ds', td', tb', hs', FA', htd', ft'⟩, hn, hn', qq⟩ := h
    have nd := scSEq.nd
    have hu := hu_of hr
    have hu2 := hr.units
    have g_Store := TS.g
    have hrE : Room 1 _ := hr.mono (by decide)
    refine ⟨_, (pss_one (ps_ret (pe_and (pe_callB (kIsi K) (by rfl) B.isinstance (by decide +kernel) (pa_cons (pv 1) (pa_cons (pe_glob (v := .ref _) (by rfl) g_Store rfl) pa_nil))) (pe_and (pe_cmpR (kEqOwn K GE bE pass0 hrE mE) (pe_fld (pv 0) rfl) (pe_fld (pv 1) rfl) (nomark _)) (pe_one (pe_cmpR (op_eqQ K hu2) (pe_fld (pv 0) rfl) (pe_fld (pv 1) rfl) (nomark _))))))), ?_⟩
    refine ⟨_, rfl, .ref s2, .ref CS, .ref CS, .ref CS, true, rfl, .own _, tS _ _ _ _ hs', kS, _, rfl, ?_⟩
    refine iteT ?_
    obtain ⟨dx, t, pd, hx, _, _⟩ := id FA
    obtain ⟨dx', t', pd', hx', _, _⟩ := id FA'
    refine ⟨_, rfl, s, CS, ds, _, _, rfl, hs, TS.cl, TS.nF, look_folders _ _, _, rfl, s2, CS, ds', _, _, rfl, hs', TS.cl, TS.nF, look_folders _ _, ?_⟩
    refine ⟨x, dx, _, .ref C, rfl, hx, tF _ _ _ _ hx', nC, x, .ref x2, .ref C, zs, ch, _, rfl, FA, hn, tF _ _ _ _ hx', .inr ⟨kF, x2, zs', ch', rfl, FA', hn', rfl⟩, fun H1 e1 => ⟨_, rfl, _, rfl, ?_⟩⟩
    have qq := qq H1 e1
    cases hb : decide (zs = zs') && decide (ch = ch') with
    | false =>
      rw [hb] at qq
      refine iteF ?_
      exact qq
    | true =>
      rw [hb, Bool.true_and] at qq
      refine iteT ?_
      refine ⟨_, rfl, s, CS, ds, _, _, rfl, e1 _ _ hs, TS.cl, TS.nT, look_table _ _, _, rfl, s2, CS, ds', _, _, rfl, e1 _ _ hs', TS.cl, TS.nT, look_table _ _, ?_⟩
      exact ⟨td, td', _, _, _, _, rfl, rfl, e1 _ _ htd, e1 _ _ htd', ft.same e1, ft'.same e1, qq⟩
theorem scMoreAt : FnScope ["one", "other", "lot"] ["one", "other"] (defScope (topS 45)) := ⟨rfl, rfl, rfl, by decide +kernel, rfl, by decide +kernel, by decide +kernel⟩
theorem ok_more_at (B : Bi mg) {C CS CQ fS fQ f f1 : Addr} {fdS fd fd1 : FuncData} (TS : StoT K mg CS fS) (TQ : QueT K mg CQ fQ) (GS : FnOk P w K mg base CX0 4 fS fdS ["self", "folders", "sizes"] (spStore K C CS)) (bS : Binds K fdS ["self", "folders", "sizes"] [])
    (c_first_more : Cal P w K mg base CX0 4 "first_more" f1 fd1 ["one", "other"] (spMore C CQ)) (F : Fun K "more_at" "more_at" (topS 45) f fd) : FnOk P w K mg base CX0 6 f fd ["one", "other"] (spMoreAt K C CS CQ) := by
  refine F.ok scMoreAt (fun vs H Q E h => ?_) (fun cdv A outer s' H vs Q E hr h => ?_)
  · obtain ⟨q, x, q', x', zs, ch, wt, wt', rfl, _⟩ := h
    rfl
  · obtain ⟨q, x, q', x', zs, ch, wt, wt', rfl, QA, QB, nm, nz, lz, q1, q2⟩ := h
    have nd := scMoreAt.nd
    have hu := hu_of hr
    have hr_first_more : Room 4 _ := hr.mono (by decide)
    refine ⟨_, (pss_cons (ps_set (i := 2) nd rfl (Or.inl rfl) (pe_call c_first_more.ok hr_first_more (by rfl) c_first_more.g c_first_more.kp c_first_more.b .nil pass0 (pa_cons (pv 0) (pa_cons (pv 1) pa_nil))))
      (pss_one (ps_ret (pe_ifExp (pt_cmpR op_isN (pv 2) pe_non (nomark _)) pe_non (pe_make TS.make GS hr (by rfl) TS.g bS .nil pass0 (pa_cons (pe_fld (pv 0) rfl) (pa_cons (pe_dispT hu (pps_cons (pv 2) pe_int pps_nil) (by rfl) (by rfl) (fun z => by cases z) (by decide)) pa_nil))))))), ?_⟩
    refine ⟨_, rfl, _, rfl, q, x, q', x', zs, ch, wt, wt', rfl, QA, QB, nm, nz, lz, fun H1 e1 hall => ?_, fun l b H1 e1 hf hb => ?_⟩
    · refine ⟨_, rfl, rfl, _, rfl, ?_⟩
      refine iteT ?_
      exact q1 H1 e1 hall
    · refine ⟨_, rfl, rfl, _, rfl, ?_⟩
      rw [show decide (V.ref b = V.non) = false from decide_eq_false (fun z => by cases z)]
      refine iteF ?_
      have QA1 := QA.same e1
      obtain ⟨dq, tq, hq, FA1, htq⟩ := id QA1
      have ml := List.mem_of_find?_eq_some hf
      refine ⟨_, rfl, q, CQ, dq, _, _, rfl, hq, TQ.cl, TQ.nF, look_folders _ _, fun p np => ?_⟩
      have e2 := same_upd (o := HO.dT []) np
      have hp2 : upd H1 p (.dT []) p = some (.dT []) := upd_same
      refine ⟨_, rfl, ?_⟩
      refine ⟨hp2, [(l.map Sum.inr, .int 1)], .cons ⟨b, rfl, ?_⟩ .nil, Nat.le_add_left 1 14, ?_⟩
      · rw [str_key]
        exact e2 _ _ hb
      have e3 := Same.grow (o := HO.dT (mergeT [] [((l.map Sum.inr : List Key), V.int 1)])) e2 np
      have hp3 : upd (upd H1 p (.dT [])) p (.dT (mergeT [] [((l.map Sum.inr : List Key), V.int 1)])) p = some (.dT (entW [(l, V.int 1)])) := upd_same
      generalize upd (upd H1 p (.dT [])) p (.dT (mergeT [] [((l.map Sum.inr : List Key), V.int 1)])) = H3 at e3 hp3 ⊢
      refine make_store (es := [(l, V.int 1)]) (sz := oneQ l) (FA1.same e3) nz lz hp3 (far_new FA1 np e3) ?_ ?_ ?_ ?_ fun s H4 ns e4 SA => ?_
      · intro e m
        rw [List.mem_singleton.mp m]
        exact ml
      · exact List.nodup_cons.mpr ⟨(fun z => nomatch z), List.nodup_nil⟩
      · intro e m
        rw [List.mem_singleton.mp m]
        refine .inl ⟨1, rfl, ?_⟩
        unfold oneQ
        rw [if_pos rfl]
        rfl
      · intro k _ nk
        unfold oneQ
        rw [if_neg (fun z => nk (by rw [z]; exact List.mem_cons_self))]
      · exact q2 l s H4 (Same.trans (Same.trans e1 e3) e4) hf ((Same.trans e1 e3).free ns) SA
theorem ok_more_atU (B : Bi mg) {C CQ CU CS fS f f1 : Addr} {fdS fd fd1 : FuncData} (TS : StoT K mg CS fS) (GS : FnOk P w K mg base CX0 4 fS fdS ["self", "folders", "sizes"] (spStore K C CS)) (bS : Binds K fdS ["self", "folders", "sizes"] [])
    (c_first_more : Cal P w K mg base (L2N.CX P w) 4 "first_more" f1 fd1 ["one", "other"] (spTwoU C CQ CU)) (F : Fun K "more_at" "more_at" (topS 45) f fd) : FnOk P w K mg base (L2N.CX P w) 6 f fd ["one", "other"] (spTwoU C CQ CU) := by
  refine Fun.okN F scMoreAt (fun vs H Q E h => ?_) (fun cdv A outer s H vs Q E hr h => ?_)
  · obtain ⟨q, q', rfl, _⟩ := h
    rfl
  · obtain ⟨q, q', rfl, U, kE⟩ := h
    have nd := scMoreAt.nd
    have hu := hu_of hr
    have hr_first_more : Room 4 _ := hr.mono (by decide)
    refine ⟨_, (pss_cons (ps_set (i := 2) nd rfl (Or.inl rfl) (pe_call c_first_more.ok hr_first_more (by rfl) c_first_more.g c_first_more.kp c_first_more.b .nil (L2N.passes_call (L2N.takes_of rfl rfl rfl rfl) (fun _ _ _ _ h => h)) (pa_cons (pv 0) (pa_cons (pv 1) pa_nil))))
      (pss_one (ps_ret (pe_ifExp (pt_cmpR op_isN (pv 2) pe_non (nomark _)) pe_non (pe_make TS.make GS hr (by rfl) TS.g bS .nil pass0 (pa_cons (pe_fld (pv 0) rfl) (pa_cons (pe_dispT hu (pps_cons (pv 2) pe_int pps_nil) (by rfl) (by rfl) (fun z => by cases z) (by decide)) pa_nil))))))), ?_⟩
    exact ⟨_, rfl, _, rfl, q, q', rfl, U, kE⟩
end
end Bk

namespace Bk
open PySem PySem.Spec PyProof.Rows L2
/-! ### what stays while the stream moves; pairs of a lot and a thing; dicts of them -/
section
variable {K : PySem.W.Frag} {H H' : Hp} {st c : Addr} {n : Nat}
theorem FrV.kept {v : V} {q : Rat} (h : FrV K H v q) (S : Strm H st c n) (k : Kept st c H H') : FrV K H' v q := by
  obtain ⟨a, rfl, (h | ⟨o, h⟩) | h⟩ := h
  · exact ⟨a, rfl, .inl (.inl (S.hold k h (fun _ z => nomatch z)))⟩
  · exact ⟨a, rfl, .inl (.inr ⟨o, S.hold k h (fun _ z => nomatch z)⟩)⟩
  · exact ⟨a, rfl, .inr h⟩
theorem FrTab.kept {ks : List (List Key × V)} {qs : List (List Key × Rat)} (h : FrTab K H ks qs) (S : Strm H st c n) (k : Kept st c H H') : FrTab K H' ks qs := Paired.mono (fun _ _ ⟨a, b⟩ => ⟨a, b.kept S k⟩) h
theorem StoreAt.kept {CF CS s x : Addr} {zs : List Str} {ch : Bool} {sz : List Str → Rat} (h : StoreAt K CF CS H s x zs ch sz) (S : Strm H st c n) (k : Kept st c H H') : StoreAt K CF CS H' s x zs ch sz := by
  obtain ⟨ds, td, tb, h1, h2, h3, h4⟩ := h
  exact ⟨ds, td, tb, S.hold k h1 (fun _ z => nomatch z), h2.kept S k, S.hold k h3 (fun _ z => nomatch z), h4.kept S k⟩
theorem Told.imp {α : Type} {Rel : Hp → V → α → Prop} {us : List V} {ls : List α} (t : Told Rel H us ls) (h : ∀ u l, Rel H u l → Rel H' u l) : Told Rel H' us ls := ⟨t.1, fun k u l h1 h2 => h u l (t.2 k u l h1 h2)⟩
theorem told_fr {us : List V} {qs : List Rat} (t : Told (FrV K) H us qs) (S : Strm H st c n) (k : Kept st c H H') : Told (FrV K) H' us qs := t.imp fun _ _ h => h.kept S k
end
theorem paired_of {α : Type} {Rel : Hp → V → α → Prop} {H : Hp} : ∀ {us : List V} {ls : List α}, Told Rel H us ls → Paired (Rel H) us ls
  | [], [], _ => .nil
  | [], _ :: _, t => by cases t.1
  | _ :: _, [], t => by cases t.1
  | u :: r, l :: s, t => .cons (t.2 0 u l rfl rfl) (paired_of ⟨Nat.succ.inj t.1, fun k u l a b => t.2 (k + 1) u l a b⟩)
theorem told_of {α : Type} {Rel : Hp → V → α → Prop} {H : Hp} {us : List V} {ls : List α} (p : Paired (Rel H) us ls) : Told Rel H us ls := by
  induction p with
  | nil => exact .nil
  | @cons a b l1 l2 h t ih =>
    refine ⟨by rw [List.length_cons, List.length_cons, ih.1], fun k u l h1 h2 => ?_⟩
    cases k with
    | zero =>
      cases h1
      cases h2
      exact h
    | succ k => exact ih.2 k u l h1 h2
theorem paired_perm {α β : Type} {F : α → β → Prop} {l1 l1' : List α} (h : l1'.Perm l1) : ∀ {l2 : List β}, Paired F l1 l2 → ∃ l2', l2'.Perm l2 ∧ Paired F l1' l2' := by
  induction h with
  | nil => intro l2 p; exact ⟨l2, .refl _, p⟩
  | cons x _ ih =>
    intro l2 p
    cases p with
    | cons a t =>
      obtain ⟨l, h1, h2⟩ := ih t
      exact ⟨_, h1.cons _, .cons a h2⟩
  | swap x y l =>
    intro l2 p
    cases p with
    | cons a t =>
      cases t with
      | cons b t => exact ⟨_, .swap _ _ _, .cons b (.cons a t)⟩
  | trans _ _ ih1 ih2 =>
    intro l2 p
    obtain ⟨l, h1, h2⟩ := ih2 p
    obtain ⟨m, g1, g2⟩ := ih1 h2
    exact ⟨m, g1.trans h1, g2⟩
theorem told_perm {α : Type} {Rel : Hp → V → α → Prop} {H : Hp} {us ys : List V} {ls : List α} (t : Told Rel H us ls) (h : ys.Perm us) : ∃ ls', ls'.Perm ls ∧ Told Rel H ys ls' := by
  obtain ⟨l, h1, h2⟩ := paired_perm h (paired_of t)
  exact ⟨l, h1, told_of h2⟩
/-- a pair of a lot's tuple and a thing -/
def PairV (H : Hp) (u : V) (e : List Str × V) : Prop := ∃ p b : Addr, u = .ref p ∧ H p = some (.tup [.ref b, e.2]) ∧ H b = some (.tup (e.1.map V.str))
theorem stays_pairV : Stays PairV := ⟨fun H1 H2 u l e => by
  rintro ⟨p, b, rfl, h1, h2⟩
  exact ⟨p, b, rfl, e _ _ h1, e _ _ h2⟩, fun H1 D as bs u l hD => by
  rintro ⟨p, b, rfl, h1, h2⟩
  exact ⟨p, b, rfl, by rw [upd_ne (ne_of h1 hD (fun z => nomatch z))]; exact h1, by rw [upd_ne (ne_of h2 hD (fun z => nomatch z))]; exact h2⟩⟩
theorem PairV.kept {H H' : Hp} {st c : Addr} {n : Nat} {u : V} {e : List Str × V} (h : PairV H u e) (S : Strm H st c n) (k : Kept st c H H') : PairV H' u e := by
  obtain ⟨p, b, rfl, h1, h2⟩ := h
  exact ⟨p, b, rfl, S.hold k h1 (fun _ z => nomatch z), S.hold k h2 (fun _ z => nomatch z)⟩
theorem told_pairsV {H : Hp} : ∀ {es : List (List Str × V)} {us : List V}, Told PairV H us es → ∃ ps : List Addr, us = ps.map V.ref ∧ Paired (fun p kv => ∃ b, H p = some (.tup [.ref b, kv.2]) ∧ H b = some (.tup (kv.1.map kV))) ps (es.map fun e => ((e.1.map Sum.inr : List Key), e.2))
  | [], [], _ => ⟨[], rfl, .nil⟩
  | [], _ :: _, t => by cases t.1
  | _ :: _, [], t => by cases t.1
  | e :: r, u :: us, t => by
    obtain ⟨p, b, rfl, h1, h2⟩ := t.2 0 u e rfl rfl
    obtain ⟨ps, rfl, hp⟩ := told_pairsV (es := r) (us := us) ⟨Nat.succ.inj t.1, fun k u l a b => t.2 (k + 1) u l a b⟩
    exact ⟨p :: ps, rfl, .cons ⟨b, h1, by rw [str_key]; exact h2⟩ hp⟩
theorem merge_fresh : ∀ (kvs done : List (List Key × V)), ((done ++ kvs).map (·.1)).Nodup → mergeT done kvs = done ++ kvs
  | [], done, _ => by rw [List.append_nil]; rfl
  | p :: r, done, h => by
    have h2 : (((done ++ [p]) ++ r).map (·.1)).Nodup := by rw [List.append_assoc]; exact h
    have hl : p.1 ∉ done.map (·.1) := fun m => by
      rw [List.map_append, List.nodup_append] at h
      exact h.2.2 _ m _ List.mem_cons_self rfl
    have e := merge_fresh r _ h2
    rw [List.append_assoc] at e
    show mergeT (putK done p.1 p.2) r = _
    rw [putK_fresh hl]
    exact e
theorem ex_fun {α : Type} (z : α) : ∀ {ls : List (List Str)} {ns : List α}, ls.Nodup → ns.length = ls.length → ∃ f : List Str → α, ls.map f = ns ∧ ∀ l, f l = z ∨ f l ∈ ns
  | [], [], _, _ => ⟨fun _ => z, rfl, fun _ => .inl rfl⟩
  | [], _ :: _, _, h => nomatch h
  | _ :: _, [], _, h => nomatch h
  | l :: r, n :: t, nd, h => by
    obtain ⟨h1, h2⟩ := List.nodup_cons.mp nd
    obtain ⟨f, hf, hb⟩ := ex_fun z (ls := r) (ns := t) h2 (Nat.succ.inj h)
    refine ⟨fun m => if m = l then n else f m, ?_, fun m => ?_⟩
    · rw [List.map_cons, if_pos rfl, ← hf]
      congr 1
      exact List.map_congr_left fun m hm => if_neg fun (y : m = l) => h1 (y ▸ hm)
    · show (if m = l then n else f m) = z ∨ (if m = l then n else f m) ∈ n :: t
      by_cases c : m = l
      · rw [if_pos c]
        exact .inr List.mem_cons_self
      · rw [if_neg c]
        exact (hb m).imp id fun y => List.mem_cons_of_mem _ y
/-- a comprehension over zip of two lists, whatever its tests do to others -/
theorem lcZL {K : PySem.W.Frag} {i j : Nat} {a b : Addr} {xs ys : List V} {g : TG} {tt : TT} {te : TE} {vs : List Nat} {σ : L2.St} {H : Hp} {Q : VK} (hv1 : σ[i]? = some (some (.ref a))) (hv2 : σ[j]? = some (some (.ref b)))
    (h1 : SqL K H a xs) (h2 : SqL K H b ys) (hl : xs.length = ys.length)
    (h : ∀ D, H D = none → ∃ Pv : Nat → Hp → Prop, Pv 0 (upd H D (.lst [])) ∧ (∀ k H', Pv k H' → SqL K H' a xs ∧ SqL K H' b ys) ∧
      (∀ k v H' H2, k < xs.length → Pv k H' → YPair (fun i => xs[i]?) (fun i => ys[i]?) k H' v H2 → g v (wipe σ vs) H2 fun σ2 H3 => wipe σ2 vs = wipe σ vs ∧ tt σ2 H3 fun b H4 =>
        if b = true then te σ2 H4 fun y H5 => ∃ acc, H5 D = some (.lst acc) ∧ acc.length < sizeLine ∧ Pv (k + 1) (upd H5 D (.lst (acc ++ [y]))) else Pv (k + 1) H4) ∧
      ∀ H', Pv xs.length H' → Q (.ref D) H') : tLc (RZ.iZipA K (tCons (tVar i) (tCons (tVar j) tNil))) g tt te vs σ H Q := by
  have hm : xs.length = min xs.length ys.length := by omega
  refine ⟨_, hv1, _, hv2, a, b, xs, ys, rfl, .inl ⟨h1, h2, fun D nD => ?_⟩⟩
  obtain ⟨Pv, p0, ps, pt, pd⟩ := h D nD
  exact lc_it (walk_zip hm) Pv p0 (fun k H' _ p => ps k H' p) pt pd
theorem lots_144 {ch : Bool} {zs : List Str} (h : zs.length ≤ mostFor ch) : (lotsFor ch zs).length ≤ 144 := by
  cases ch with
  | true =>
    have h : zs.length ≤ 12 := h
    have := flatMap_len (f := longRows zs) (m := 12) (l := List.range zs.length) fun x _ => by rw [longRows_len]; omega
    rw [List.length_range] at this
    show (chainLots zs).length ≤ 144
    unfold chainLots
    omega
  | false =>
    have h : zs.length ≤ 5 := h
    have := rows_few zs.length (by omega)
    show (lotsOf zs).length ≤ 144
    unfold lotsOf
    rw [List.length_map]
    omega
theorem rows_16 : ∀ n, n < 5 → (lotRows n).length ≤ 16 := by decide +kernel
theorem lots_16 {ch : Bool} {zs : List Str} (h : zs.length ≤ 4) : (lotsFor ch zs).length ≤ 16 := by
  cases ch with
  | true =>
    have := flatMap_len (f := longRows zs) (m := 4) (l := List.range zs.length) fun x _ => by rw [longRows_len]; omega
    rw [List.length_range] at this
    show (chainLots zs).length ≤ 16
    unfold chainLots
    omega
  | false =>
    have := rows_16 zs.length (by omega)
    show (lotsOf zs).length ≤ 16
    unfold lotsOf
    rw [List.length_map]
    omega
theorem pairB_ok {K : PySem.W.Frag} {a : Addr} (h : pairB K a = true) (H : Hp) : SqT K H a (pairQ 0) := by
  unfold pairB at h
  split at h
  · rename_i c dd its n sl e
    obtain ⟨h1, h2⟩ := Bool.and_eq_true_iff.mp h
    have h1 := of_decide_eq_true h1
    subst h1
    split at h2
    · rename_i i t j u e2
      obtain ⟨h3, h4⟩ := Bool.and_eq_true_iff.mp h2
      have h3 := of_decide_eq_true h3
      have h4 := of_decide_eq_true h4
      subst h3 h4
      have hl : its.size = 2 := by
        have := congrArg List.length e2
        simpa using this
      refine .inr ⟨_, its, n, e, rfl, rfl, by rw [hl, sizeLine_eq]; omega, ?_⟩
      rw [e2]
      exact .cons ⟨_, rfl⟩ (.cons ⟨_, rfl⟩ .nil)
    · cases h2
  · cases h
end Bk

namespace Bk
open PySem PySem.Spec PyProof.Rows L2
/-- sizes as the laws draw them -/
def Sz10 (q : Rat) : Prop := 0 ≤ q.num ∧ FrB 10 q
def spSizes (K : PySem.W.Frag) : Sp := fun vs H Q _ => ∃ (st c D bl : Addr) (n : Nat) (ws : List V) (bs : List Nat), vs = [.ref st, .ref D, .ref bl] ∧ Strm H st c n ∧ n ≤ 800000 ∧ H D = some (.lst ws) ∧ D ≠ st ∧ D ≠ c ∧ ws.length ≤ 2000 ∧ H bl = some (.lst (bs.map fun (b : Nat) => V.int (b : Int))) ∧ bl ≠ st ∧ bl ≠ c ∧ bs ≠ [] ∧ bs.length < 1000 ∧ (∀ b ∈ bs, 0 < b ∧ b < 2 ^ 10) ∧
  ∀ (R : Addr) (us : List V) (qs : List Rat) (H' : Hp), H R = none → H' R = some (.lst us) → Told (FrV K) H' us qs → qs.length = ws.length → (∀ q ∈ qs, Sz10 q) → Strm H' st c (n + 3 * ws.length) → Kept st c H H' → Q (.ref R) H'
/-- _law_b_store(stream, house, lots, sizes) -/
def spBStore (K : PySem.W.Frag) (C CS : Addr) : Sp := fun vs H Q _ => ∃ (st c nl x D R : Addr) (n : Nat) (zs : List Str) (ch : Bool) (ws us : List V) (sz : List Str → Rat), vs = [.ref st, .ref x, .ref D, .ref R] ∧ HouseAt C H st c nl x D zs ch ws ∧ Strm H st c n ∧ n ≤ 800000 ∧ H R = some (.lst us) ∧ R ≠ st ∧ R ≠ c ∧ Told (FrV K) H us ((lotsFor ch zs).map sz) ∧ (∀ l ∈ lotsFor ch zs, Sz10 (sz l)) ∧
  ∀ (s : Addr) (H' : Hp), H s = none → StoreAt K C CS H' s x zs ch sz → Strm H' st c (n + 2 * (lotsFor ch zs).length) → Kept st c H H' → Q (.ref s) H'
section
variable {P : Program} {w : World} {K : PySem.W.Frag} {mg : Str → Option Value} {base : Heap}
theorem scSizes : FnScope ["_law_stream", "_law_lots", "_law_bottoms", "_law_found", "_law_lot", "_law_top"] ["_law_stream", "_law_lots", "_law_bottoms"] (defScope (topS 69)) := ⟨rfl, rfl, rfl, by decide +kernel, rfl, by decide +kernel, by decide +kernel⟩
theorem ok_sizes (B : Bi mg) {f f1 f2 f3 : Addr} {fd fd1 fd2 fd3 : FuncData} (c__law_draw : Cal P w K mg base CX0 1 "_law_draw" f1 fd1 ["_law_stream", "_law_many"] spDraw) (c__law_pick : Cal P w K mg base CX0 2 "_law_pick" f2 fd2 ["_law_stream", "_law_some"] (spPick K)) (c__law_f_lowest : Cal P w K mg base CX0 1 "_law_f_lowest" f3 fd3 ["_law_top", "_law_bottom"] spFrac)
    (F : Fun K "_law_b_sizes" "_law_b_sizes" (topS 69) f fd) : FnOk P w K mg base CX0 3 f fd ["_law_stream", "_law_lots", "_law_bottoms"] (spSizes K) := by
  refine F.ok scSizes (fun vs H Q E h => ?_) (fun cdv A outer s' H vs Q E hr h => ?_)
  · obtain ⟨st, c, D, bl, n, ws, bs, rfl, _⟩ := h
    rfl
  · obtain ⟨st, c, D, bl, n, ws, bs, rfl, S, hn, hD, D1, D2, lw, hbl, b1, b2, bne, lb, hb, q⟩ := h
    have nd := scSizes.nd
    have hu := hu_of hr
    have hr__law_draw : Room 1 _ := hr.mono (by decide)
    have hr__law_pick := hr
    have hr__law_f_lowest := hr__law_draw
    refine ⟨_, (pss_cons (ps_set (i := 3) nd rfl (Or.inl rfl) (pe_lst pa_nil))
      (pss_cons (ps_for PassesOwn.never rfl (kPiL K (pv 1)) (pg_name (i := 4) nd rfl (Or.inl rfl)) (pss_cons (ps_set (i := 5) nd rfl (Or.inl rfl) (pe_ix (kIxL K) (pe_lst (pa_cons pe_int (pa_cons pe_int (pa_cons pe_int (pa_cons pe_int (pa_cons pe_int (pa_cons pe_int (pa_cons pe_int (pa_cons pe_int (pa_cons pe_int (pa_cons (pe_op op_add pe_int (pe_call c__law_draw.ok hr__law_draw (by rfl) c__law_draw.g c__law_draw.kp c__law_draw.b .nil pass0 (pa_cons (pv 0) (pa_cons pe_int pa_nil)))) pa_nil))))))))))) (pe_call c__law_draw.ok hr__law_draw (by rfl) c__law_draw.g c__law_draw.kp c__law_draw.b .nil pass0 (pa_cons (pv 0) (pa_cons pe_int pa_nil))) (fun _ _ => rfl)))
      (pss_one (ps_expr (pe_bm PySem.F.plainAttrs_list PySem.F.slot_list_append PySem.F.type_list_append mt_append (pv 3) (pa_cons (pe_call c__law_f_lowest.ok hr__law_f_lowest (by rfl) c__law_f_lowest.g c__law_f_lowest.kp c__law_f_lowest.b .nil pass0 (pa_cons (pv 5) (pa_cons (pe_call c__law_pick.ok hr__law_pick (by rfl) c__law_pick.g c__law_pick.kp c__law_pick.b .nil pass0 (pa_cons (pv 0) (pa_cons (pv 2) pa_nil))) pa_nil))) pa_nil))))))
      (pss_one (ps_ret (pv 3))))), ?_⟩
    refine ⟨Nat.zero_le _, fun R nR => ?_⟩
    obtain ⟨R1, R2⟩ := S.notfree nR
    have nDR : D ≠ R := ne_of_none hD nR
    have nbR : bl ≠ R := ne_of_none hbl nR
    have e0 := same_upd (o := HO.lst []) nR
    refine ⟨_, rfl, D, rfl, ⟨ws, SqL.of (e0 _ _ hD)⟩, ?_⟩
    refine for_it walk_list (fun i σ' H' => ∃ (us : List V) (qs : List Rat) (v4 v5 : Option V), σ' = [some (.ref st), some (.ref D), some (.ref bl), some (.ref R), v4, v5] ∧ H' R = some (.lst us) ∧ Told (FrV K) H' us qs ∧ qs.length = i ∧ (∀ q ∈ qs, Sz10 q) ∧ Strm H' st c (n + 3 * i) ∧ Kept st c H H') ?_ (fun i σ' H' _ ⟨_, _, _, _, _, _, _, _, _, _, k⟩ => SqL.of (k _ _ D1 D2 hD)) ?_ ?_
    · exact ⟨[], [], none, none, rfl, upd_same, .nil, rfl, (fun q m => nomatch m), S.same e0, Same.kept e0⟩
    · rintro i y σ' H1 H2 hi ⟨us, qs, v4, v5, rfl, hR, tu, hq, hs, S1, k1⟩ ⟨rfl, hy⟩
      refine ⟨_, rfl, st, c, n + 3 * i, 900, rfl, S1, by omega, by decide, by decide, fun d H3 d0 d9 S3 k3 => ?_⟩
      refine ⟨100, d, rfl, rfl, ?_⟩
      refine ⟨by show 10 ≤ sizeLine; rw [sizeLine_eq]; omega, fun T nT => ?_⟩
      have e4 := same_upd (o := HO.lst [V.int 0, .int 0, .int 1, .int 2, .int 3, .int 5, .int 8, .int 13, .int 40, .int (100 + d)]) nT
      obtain ⟨T1, T2⟩ := S3.notfree nT
      have hT : upd H3 T (HO.lst [V.int 0, .int 0, .int 1, .int 2, .int 3, .int 5, .int 8, .int 13, .int 40, .int (100 + d)]) T = some (.lst [V.int 0, .int 0, .int 1, .int 2, .int 3, .int 5, .int 8, .int 13, .int 40, .int (100 + d)]) := upd_same
      generalize upd H3 T (HO.lst [V.int 0, .int 0, .int 1, .int 2, .int 3, .int 5, .int 8, .int 13, .int 40, .int (100 + d)]) = H4 at e4 hT ⊢
      have S4 := S3.same e4
      refine ⟨_, rfl, st, c, n + 3 * i + 1, 10, rfl, S4, by omega, by decide, by decide, fun j H5 j0 j9 S5 k5 => ?_⟩
      have hT5 := k5 _ _ T1 T2 hT
      obtain ⟨t, ht, t0, t9⟩ : ∃ t : Int, atI [V.int 0, .int 0, .int 1, .int 2, .int 3, .int 5, .int 8, .int 13, .int 40, .int (100 + d)] j = some (.int t) ∧ 0 ≤ t ∧ t < 1000 := by
        obtain ⟨m, rfl⟩ : ∃ m : Nat, j = (m : Int) := ⟨j.toNat, by omega⟩
        have hm : m < 10 := by omega
        match m, hm with
        | 0, _ => exact ⟨0, atI_nat rfl, by decide, by decide⟩
        | 1, _ => exact ⟨0, atI_nat rfl, by decide, by decide⟩
        | 2, _ => exact ⟨1, atI_nat rfl, by decide, by decide⟩
        | 3, _ => exact ⟨2, atI_nat rfl, by decide, by decide⟩
        | 4, _ => exact ⟨3, atI_nat rfl, by decide, by decide⟩
        | 5, _ => exact ⟨5, atI_nat rfl, by decide, by decide⟩
        | 6, _ => exact ⟨8, atI_nat rfl, by decide, by decide⟩
        | 7, _ => exact ⟨13, atI_nat rfl, by decide, by decide⟩
        | 8, _ => exact ⟨40, atI_nat rfl, by decide, by decide⟩
        | 9, _ => exact ⟨100 + d, atI_nat rfl, by omega, by omega⟩
        | m + 10, h => omega
      refine ⟨T, _, j, .int t, rfl, rfl, SqL.of hT5, ht, ?_⟩
      have k15 := k3.trans ((Same.kept e4).trans k5)
      have kH5 := k1.trans k15
      have hR5 := k15 _ _ R1 R2 hR
      have hb5 := kH5 _ _ b1 b2 hbl
      have lbm : (bs.map fun (b : Nat) => V.int (b : Int)).length = bs.length := List.length_map ..
      have bpos := List.length_pos_iff.mpr bne
      refine ⟨_, rfl, .inl ⟨rfl, _, SqL.of hR5⟩, _, rfl, _, rfl, _, rfl, st, c, n + 3 * i + 2, _, .ref bl, fun k => (bs.map fun (b : Nat) => V.int (b : Int)).getD k .non, rfl, S5, by omega, ?_, ?_, .lst (SqL.of hb5) b1 b2 fun k hk => ?_, fun k H6 hk S6 k6 => ?_⟩
      · rw [lbm]; exact bpos
      · rw [lbm]; omega
      · rw [List.getD_eq_getElem?_getD, List.getElem?_eq_getElem hk]
        rfl
      rw [lbm] at hk
      have hbk := hb bs[k] (List.getElem_mem hk)
      have hget : (bs.map fun (b : Nat) => V.int (b : Int)).getD k .non = .int ((bs[k] : Nat) : Int) := by
        rw [List.getD_eq_getElem?_getD, List.getElem?_map, List.getElem?_eq_getElem hk]
        rfl
      have h10 : (2 : Nat) ^ 10 ≤ 2 ^ 8000 := Nat.pow_le_pow_right (by decide) (by decide)
      refine ⟨t, bs[k], by show [V.int t, (bs.map fun (b : Nat) => V.int (b : Int)).getD k .non] = _; rw [hget], hbk.1, Nat.lt_of_lt_of_le hbk.2 h10, fun p H7 np e7 hp7 => ?_⟩
      have k17 := k15.trans (k6.trans (Same.kept e7))
      have hR7 := e7 _ _ (k6 _ _ R1 R2 hR5)
      have lus : us.length = i := by rw [tu.1, hq]
      have tu7 := told_fr tu S1 k17
      refine ⟨R, us, .ref p, rfl, rfl, hR7, Evl.sz_lt (by omega), us ++ [.ref p], qs ++ [mkRat t bs[k]], _, _, rfl, upd_same, ?_, by rw [List.length_append, hq]; rfl, fun x m => ?_, ?_, (k1.trans k17).upd S nR⟩
      · exact (tu7.snoc ⟨p, rfl, SqT.of hp7⟩).up stays_fr hR7
      · rcases List.mem_append.mp m with m | m
        · exact hs x m
        · rw [List.mem_singleton.mp m]
          refine ⟨?_, .mk (by have : (2 : Nat) ^ 10 = 1024 := rfl; omega) hbk.1 hbk.2⟩
          rw [mk_num hbk.1]
          exact Int.ediv_nonneg t0 (Int.natCast_nonneg _)
      · exact ((S6.same e7).upd R1 R2).more (by omega)
    · rintro σ' H1 ⟨us, qs, v4, v5, rfl, hR, tu, hq, hs, S1, k1⟩
      exact ⟨_, rfl, q R us qs H1 nR hR tu hq hs S1 k1⟩
theorem tseq_asg {te : TE} {g : TG} {rest : TS} {D : Ends} {σ : L2.St} {H : Hp} (h : te σ H fun v H1 => g v σ H1 fun σ2 H2 => rest D σ2 H2) : tSeq (tAsg te g) rest D σ H := h
theorem scBStore : FnScope ["_law_stream", "_law_house", "_law_lots", "_law_sizes", "_law_pairs", "_law_lot", "_law_size"] ["_law_stream", "_law_house", "_law_lots", "_law_sizes"] (defScope (topS 70)) := ⟨rfl, rfl, rfl, by decide +kernel, rfl, by decide +kernel, by decide +kernel⟩
theorem ok_b_store (B : Bi mg) {C CS fS f f1 f2 : Addr} {fdS fd fd1 fd2 : FuncData} (TS : StoT K mg CS fS) (GS : FnOk P w K mg base CX0 4 fS fdS ["self", "folders", "sizes"] (spStore K C CS)) (bS : Binds K fdS ["self", "folders", "sizes"] [])
    (c__law_draw : Cal P w K mg base CX0 1 "_law_draw" f1 fd1 ["_law_stream", "_law_many"] spDraw) (c__law_mixed : Cal P w K mg base CX0 2 "_law_mixed" f2 fd2 ["_law_stream", "_law_some"] (spMixed K))
    (F : Fun K "_law_b_store" "_law_b_store" (topS 70) f fd) : FnOk P w K mg base CX0 6 f fd ["_law_stream", "_law_house", "_law_lots", "_law_sizes"] (spBStore K C CS) := by
  refine F.ok scBStore (fun vs H Q E h => ?_) (fun cdv A outer s' H vs Q E hr h => ?_)
  · obtain ⟨st, c, nl, x, D, R, n, zs, ch, ws, us, sz, rfl, _⟩ := h
    rfl
  · obtain ⟨st, c, nl, x, D, R, n, zs, ch, ws, us, sz, rfl, HA, S, hn, hR, R1, R2, tu, hs, q⟩ := h
    have nd := scBStore.nd
    have hu := hu_of hr
    have hr__law_draw : Room 1 _ := hr.mono (by decide)
    have hr__law_mixed : Room 2 _ := hr.mono (by decide)
    refine ⟨_, (pss_cons (ps_setLc (i := 4) (own := [("_law_lot", 5), ("_law_size", 6)]) rfl nd rfl rfl (sw_true rfl rfl rfl (by decide +kernel)) (kPiZ K (by rfl) B.zip (pa_cons (pv 2) (pa_cons (pv 3) pa_nil))) (blkOk_by (N := ["_law_stream", "_law_house", "_law_lots", "_law_sizes", "_law_pairs", "_law_lot", "_law_size"]) (sc := defScope (topS 70)) (by decide +kernel)) (fun _ _ _ _ _ => (kTg K 2 rfl (pgs_cons (pg_name (i := 5) nd rfl (Or.inl rfl)) (pgs_cons (pg_name (i := 6) nd rfl (Or.inl rfl)) pgs_nil)))) (fun _ _ _ _ _ => (pts_one (PW.pt (pw_or (pt_cmpR op_gt (pe_ix (kIxT K) (pv 6) pe_int (fun _ _ => rfl)) pe_int (nomark _)) (pw_or1 (pt_cmpR op_eq (pe_call c__law_draw.ok hr__law_draw (by rfl) c__law_draw.g c__law_draw.kp c__law_draw.b .nil pass0 (pa_cons (pv 0) (pa_cons pe_int pa_nil))) pe_int (nomark _))))))) (fun _ _ _ _ _ => (pe_tup (pa_cons (pv 5) (pa_cons (pv 6) pa_nil)))))
      (pss_one (ps_ret (pe_make TS.make GS hr (by rfl) TS.g bS .nil pass0 (pa_cons (pv 1) (pa_cons (pe_callTy (kDictPT K rfl hr.units) (by rfl) B.dict (by decide +kernel) (pa_cons (pe_call c__law_mixed.ok hr__law_mixed (by rfl) c__law_mixed.g c__law_mixed.kp c__law_mixed.b .nil pass0 (pa_cons (pv 0) (pa_cons (pv 4) pa_nil))) pa_nil)) pa_nil)))))), ?_⟩
    have few := lots_144 (ch := ch) HA.le
    have wsl : ws.length = (lotsFor ch zs).length := HA.at_.1
    have usl : us.length = (lotsFor ch zs).length := by rw [tu.1, List.length_map]
    refine tseq_asg ?_
    refine lcZL rfl rfl (SqL.of HA.ld) (SqL.of hR) (by omega) fun D0 nD0 => ?_
    obtain ⟨d1, d2⟩ := S.notfree nD0
    refine ⟨fun k H' => ∃ (ps : List V) (es : List (List Str × V)), H' D0 = some (.lst ps) ∧ Told PairV H' ps es ∧ (es.map (·.1)).Sublist ((lotsFor ch zs).take k) ∧ (∀ l ∈ (lotsFor ch zs).take k, sz l ≠ 0 → l ∈ es.map (·.1)) ∧ (∀ e ∈ es, FrV K H' e.2 (sz e.1)) ∧ Strm H' st c (n + k) ∧ Kept st c H H', ?_, ?_, ?_, ?_⟩
    · have e0 := same_upd (o := HO.lst []) nD0
      exact ⟨[], [], upd_same, .nil, List.nil_sublist _, (fun l m => nomatch m), (fun e m => nomatch m), S.same e0, Same.kept e0⟩
    · rintro k H' ⟨ps, es, _, _, _, _, _, _, k1⟩
      exact ⟨SqL.of (k1 _ _ HA.d1 HA.d2 HA.ld), SqL.of (k1 _ _ R1 R2 hR)⟩
    · rintro k v H' H2 hk ⟨ps, es, hD0, tp, sl, al, fe, S1, k1⟩ ⟨T, x1, y1, rfl, nT, rfl, hx1, hy1⟩
      have hkl : k < (lotsFor ch zs).length := by omega
      obtain ⟨l, hlk⟩ : ∃ l, (lotsFor ch zs)[k]? = some l := ⟨_, List.getElem?_eq_getElem hkl⟩
      have ml := List.mem_of_getElem? hlk
      obtain ⟨b, rfl, hb⟩ := HA.at_.2 k x1 l hx1 hlk
      have fy : FrV K H y1 (sz l) := tu.2 k y1 (sz l) hy1 (by rw [List.getElem?_map, hlk]; rfl)
      have lps : ps.length ≤ k := by
        have := sl.length_le
        rw [List.length_map, List.length_take, ← tp.1] at this
        omega
      have adv : ∀ (H4 : Hp) (p : Addr), H4 D0 = some (.lst ps) → Told PairV H4 ps es → (∀ e ∈ es, FrV K H4 e.2 (sz e.1)) → Strm H4 st c (n + (k + 1)) → Kept st c H H4 → H4 p = none →
          ∃ (ps' : List V) (es : List (List Str × V)), upd (upd H4 p (.tup [V.ref b, y1])) D0 (.lst (ps ++ [.ref p])) D0 = some (.lst ps') ∧ Told PairV (upd (upd H4 p (.tup [V.ref b, y1])) D0 (.lst (ps ++ [.ref p]))) ps' es ∧ (es.map (·.1)).Sublist ((lotsFor ch zs).take (k + 1)) ∧ (∀ l ∈ (lotsFor ch zs).take (k + 1), sz l ≠ 0 → l ∈ es.map (·.1)) ∧ (∀ e ∈ es, FrV K (upd (upd H4 p (.tup [V.ref b, y1])) D0 (.lst (ps ++ [.ref p]))) e.2 (sz e.1)) ∧ Strm (upd (upd H4 p (.tup [V.ref b, y1])) D0 (.lst (ps ++ [.ref p]))) st c (n + (k + 1)) ∧ Kept st c H (upd (upd H4 p (.tup [V.ref b, y1])) D0 (.lst (ps ++ [.ref p]))) := fun H4 p hD4 t4 f4 S4 k4 np => by
        have e5 := same_upd (o := HO.tup [V.ref b, y1]) np
        have hp5 : upd H4 p (HO.tup [V.ref b, y1]) p = some (.tup [V.ref b, y1]) := upd_same
        generalize upd H4 p (HO.tup [V.ref b, y1]) = H5 at e5 hp5 ⊢
        have hD5 := e5 _ _ hD4
        refine ⟨ps ++ [.ref p], es ++ [(l, y1)], upd_same, ((t4.same stays_pairV e5).snoc ⟨p, b, rfl, hp5, e5 _ _ (S.hold k4 hb (fun _ z => nomatch z))⟩).up stays_pairV hD5, ?_, fun l' m' ne => ?_, fun e m => ?_, (S4.same e5).upd d1 d2, (k4.trans (Same.kept e5)).upd S nD0⟩
        · rw [List.map_append, take_succ hlk]
          exact sl.append (List.Sublist.refl _)
        · rw [take_succ hlk] at m'
          rw [List.map_append]
          rcases List.mem_append.mp m' with m' | m'
          · exact List.mem_append_left _ (al l' m' ne)
          · exact List.mem_append_right _ m'
        · refine stays_fr.up _ _ _ _ _ _ hD5 ?_
          rcases List.mem_append.mp m with m | m
          · exact (f4 e m).same e5
          · rw [List.mem_singleton.mp m]
            exact (fy.kept S k4).same e5
      have e1 := same_upd (o := HO.tup [V.ref b, y1]) nT
      have hT : upd H' T (HO.tup [V.ref b, y1]) T = some (.tup [V.ref b, y1]) := upd_same
      generalize upd H' T (HO.tup [V.ref b, y1]) = H2 at e1 hT ⊢
      have k2 := k1.trans (Same.kept e1)
      have S2 := S1.same e1
      obtain ⟨ay, rfl, sy⟩ := fy.kept S k2
      refine ⟨_, _, rfl, SqT.of hT, rfl, _, _, rfl, _, _, rfl, rfl, rfl, ?_⟩
      refine ⟨_, rfl, ay, _, 0, .int (sz l).num, rfl, rfl, sy, rfl, _, _, rfl, rfl, _, rfl, ?_⟩
      refine ite2 (fun c1 => ?_) (fun c1 => ?_)
      · refine iteT ?_
        refine ⟨_, rfl, _, rfl, by show 2 ≤ sizeLine; rw [sizeLine_eq]; omega, fun p np => ?_⟩
        refine ⟨ps, (same_upd np) _ _ (e1 _ _ hD0), Evl.sz_lt (by omega), ?_⟩
        exact adv H2 p (e1 _ _ hD0) (tp.same stays_pairV e1) (fun e m => (fe e m).same e1) (S2.more (by omega)) k2 np
      · refine ⟨_, rfl, st, c, n + k, 3, rfl, S2, by omega, by decide, by decide, fun d H3 d0 d3 S3 k3 => ?_⟩
        have k23 := k2.trans k3
        have hD3 := k3 _ _ d1 d2 (e1 _ _ hD0)
        have t3 : Told PairV H3 ps es := (tp.same stays_pairV e1).imp fun _ _ h => h.kept S2 k3
        have f3 : ∀ e ∈ es, FrV K H3 e.2 (sz e.1) := fun e m => ((fe e m).same e1).kept S2 k3
        refine ⟨rfl, _, rfl, ?_⟩
        refine ite2 (fun c2 => ?_) (fun c2 => ?_)
        · refine ⟨_, rfl, _, rfl, by show 2 ≤ sizeLine; rw [sizeLine_eq]; omega, fun p np => ?_⟩
          refine ⟨ps, (same_upd np) _ _ hD3, Evl.sz_lt (by omega), ?_⟩
          exact adv H3 p hD3 t3 f3 (S3.more (by omega)) k23 np
        · refine ⟨ps, es, hD3, t3, ?_, fun l' m' ne => ?_, f3, S3.more (by omega), k23⟩
          · rw [take_succ hlk]
            exact sl.trans (List.sublist_append_left _ _)
          · rw [take_succ hlk] at m'
            rcases List.mem_append.mp m' with m' | m'
            · exact al l' m' ne
            · rw [List.mem_singleton.mp m'] at ne
              exfalso
              have h0 := (hs l ml).1
              have h1 : ¬ 0 < (sz l).num := fun z => c1 (decide_eq_true z)
              exact ne (Rat.num_eq_zero.mp (by omega))
    · rintro H' ⟨ps, es, hD0, tp, sl, al, fe, S1, k1⟩
      rw [wsl, List.take_length] at sl al
      rw [wsl] at S1
      have lps : ps.length ≤ (lotsFor ch zs).length := by
        have := sl.length_le
        rw [List.length_map, ← tp.1] at this
        exact this
      refine ⟨_, rfl, ?_⟩
      refine tcons_go (tcb_one ?_)
      refine ⟨_, rfl, _, rfl, st, c, D0, n + (lotsFor ch zs).length, ps, rfl, S1, by omega, .inl (SqL.of hD0), by omega, fun D1 ys H2 nD1 hp hD1 S2 k2 => ?_⟩
      have tp2 : Told PairV H2 ps es := tp.imp fun _ _ h => h.kept S1 k2
      obtain ⟨es', pe, ty⟩ := told_perm tp2 hp
      obtain ⟨pa, rfl, hpa⟩ := told_pairsV ty
      have k02 := k1.trans k2
      have nl : (es'.map (·.1)).Nodup := (pe.map _).nodup_iff.mpr (sl.nodup (lots_nodup HA.nd))
      have nk : ((es'.map fun e => ((e.1.map Sum.inr : List Key), e.2)).map (·.1)).Nodup := by
        rw [List.map_map]
        have := keys_nodup nl
        rw [List.map_map] at this
        exact this
      refine ⟨D1, pa, _, rfl, SqL.of hD1, hpa, fun b nb => ?_⟩
      rw [merge_fresh _ [] nk, List.nil_append]
      have e6 := same_upd (o := HO.dT (es'.map fun e => ((e.1.map Sum.inr : List Key), e.2))) nb
      have hb : upd H2 b (.dT (es'.map fun e => ((e.1.map Sum.inr : List Key), e.2))) b = some (.dT (entW es')) := upd_same
      generalize upd H2 b (.dT (es'.map fun e => ((e.1.map Sum.inr : List Key), e.2))) = H3 at e6 hb ⊢
      have HA2 := HA.kept S k02
      have S3 := S2.same e6
      have k03 := k02.trans (Same.kept e6)
      have memE : ∀ e ∈ es', e ∈ es := fun e m => pe.mem_iff.mp m
      have subE : ∀ e ∈ es', e.1 ∈ lotsFor ch zs := fun e m => sl.subset (List.mem_map.mpr ⟨e, memE e m, rfl⟩)
      refine make_store (es := es') (sz := sz) (HA2.fo.same e6) HA.nd HA.le hb (far_new HA2.fo nb e6) subE nl (fun e m => ?_) (fun l m nm => ?_) fun s H7 ns e7 SA => ?_
      · have fv := (((fe e (memE e m)).kept S1 k2).same e6)
        have h10 := hs e.1 (subE e m)
        obtain ⟨a, ea, sa⟩ := fv
        refine .inr ⟨a, (sz e.1).num.toNat, (sz e.1).den, ea, .inl ?_, (sz e.1).den_pos, Nat.lt_of_lt_of_le h10.2.2 (Nat.pow_le_pow_right (by decide) (by decide)), ?_⟩
        · rw [Int.toNat_of_nonneg h10.1]
          exact sa
        · rw [Int.toNat_of_nonneg h10.1]
          exact (Rat.mkRat_self _).symm
      · have h2 : ¬ sz l ≠ 0 := fun ne => by
          obtain ⟨e, me, rfl⟩ := List.mem_map.mp (al l m ne)
          exact nm (List.mem_map.mpr ⟨e, pe.mem_iff.mpr me, rfl⟩)
        exact Decidable.not_not.mp h2
      · obtain ⟨s1, s2⟩ := S3.notfree ns
        exact q s H7 (k03.free ns s1 s2) SA ((S3.same e7).more (by omega)) (k03.trans (Same.kept e7))
end
end Bk

namespace Bk
open PySem PySem.Spec PyProof.Rows L2
def spAnswer (K : PySem.W.Frag) : Sp := fun vs H Q _ => ∃ (r R : Addr) (us : List V) (ls : List (List Str)) (sz : List Str → Rat) (wt : List Str → Int) (m n : Nat), vs = [.ref r, .ref R] ∧ H r = some (.lst (ls.map fun l => V.int (wt l))) ∧ H R = some (.lst us) ∧ Told (FrV K) H us (ls.map sz) ∧
  (∀ l ∈ ls, FrB m (sz l)) ∧ (∀ l ∈ ls, (wt l).natAbs < 2 ^ n) ∧ 0 < n ∧ (ls.length + 1) * (m + n + 1) ≤ 6000 ∧ ∀ v H', Same H H' → FrV K H' v (ansQ ls sz wt) → FrB ((ls.length + 1) * (m + n + 1)) (ansQ ls sz wt) → Q v H'
section
variable {P : Program} {w : World} {K : PySem.W.Frag} {mg : Str → Option Value} {base : Heap}
theorem scAnswer : FnScope ["_law_row", "_law_sizes", "_law_found", "_law_number", "_law_size"] ["_law_row", "_law_sizes"] (defScope (topS 71)) := ⟨rfl, rfl, rfl, by decide +kernel, rfl, by decide +kernel, by decide +kernel⟩
theorem ok_answer (B : Bi mg) {f f1 f2 : Addr} {fd fd1 fd2 : FuncData} (c__law_f_plus : Cal P w K mg base CX0 2 "_law_f_plus" f1 fd1 ["_law_x", "_law_y"] (spPlusF K)) (c__law_f_times : Cal P w K mg base CX0 2 "_law_f_times" f2 fd2 ["_law_x", "_law_number"] (spTimesI K))
    (F : Fun K "_law_b_answer" "_law_b_answer" (topS 71) f fd) : FnOk P w K mg base CX0 3 f fd ["_law_row", "_law_sizes"] (spAnswer K) := by
  refine F.ok scAnswer (fun vs H Q E h => ?_) (fun cdv A outer s' H vs Q E hr h => ?_)
  · obtain ⟨r, R, us, ls, sz, wt, m, n, rfl, _⟩ := h
    rfl
  · obtain ⟨r, R, us, ls, sz, wt, m, n, rfl, hR0, hR, tu, bz, bw, n0, bn, qq⟩ := h
    have nd := scAnswer.nd
    have hu := hu_of hr
    have hr__law_f_plus := hr
    have hr__law_f_times := hr
    refine ⟨_, (pss_cons (ps_set (i := 2) nd rfl (Or.inl rfl) (pe_tup (pa_cons pe_int (pa_cons pe_int pa_nil))))
      (pss_cons (ps_for PassesOwn.never rfl (kPiZ K (by rfl) B.zip (pa_cons (pv 0) (pa_cons (pv 1) pa_nil))) (kTg K 2 rfl (pgs_cons (pg_name (i := 3) nd rfl (Or.inl rfl)) (pgs_cons (pg_name (i := 4) nd rfl (Or.inl rfl)) pgs_nil))) (pss_one (ps_set (i := 2) nd rfl (Or.inl rfl) (pe_call c__law_f_plus.ok hr__law_f_plus (by rfl) c__law_f_plus.g c__law_f_plus.kp c__law_f_plus.b .nil pass0 (pa_cons (pv 2) (pa_cons (pe_call c__law_f_times.ok hr__law_f_times (by rfl) c__law_f_times.g c__law_f_times.kp c__law_f_times.b .nil pass0 (pa_cons (pv 4) (pa_cons (pv 3) pa_nil))) pa_nil))))))
      (pss_one (ps_ret (pv 2))))), ?_⟩
    have usl : us.length = ls.length := by rw [tu.1, List.length_map]
    have rsl : (ls.map fun l => V.int (wt l)).length = ls.length := List.length_map ..
    refine ⟨by show 2 ≤ sizeLine; rw [sizeLine_eq]; omega, fun p np => ?_⟩
    have e0 := same_upd (o := HO.tup [V.int 0, .int 1]) np
    have hp0 : upd H p (HO.tup [V.int 0, .int 1]) p = some (.tup [V.int 0, .int 1]) := upd_same
    generalize upd H p (HO.tup [V.int 0, .int 1]) = H0 at e0 hp0 ⊢
    refine ⟨_, rfl, _, rfl, r, R, _, us, rfl, .inl ⟨SqL.of (e0 _ _ hR0), SqL.of (e0 _ _ hR), ?_⟩⟩
    refine for_it (walk_zip (xs := ls.map fun l => V.int (wt l)) (ys := us) (n := ls.length) (by omega)) (fun i σ' H' => ∃ (v : V) (v3 v4 : Option V), σ' = [some (.ref r), some (.ref R), some v, v3, v4] ∧ Same H H' ∧ FrV K H' v (ansQ (ls.take i) sz wt) ∧ FrB (i * (m + n + 1) + 1) (ansQ (ls.take i) sz wt)) ?_ (fun i σ' H' _ ⟨_, _, _, _, e, _⟩ => ⟨e.seq (SqL.of hR0), e.seq (SqL.of hR)⟩) ?_ ?_
    · exact ⟨_, none, none, rfl, e0, ⟨p, rfl, SqT.of hp0⟩, FrB.zero (by omega)⟩
    · rintro i y σ' H1 H2 hi ⟨v, v3, v4, rfl, e, fv, fb⟩ ⟨T, x1, y1, rfl, nT, rfl, hx1, hy1⟩
      obtain ⟨l, hl⟩ : ∃ l, ls[i]? = some l := ⟨_, List.getElem?_eq_getElem hi⟩
      have ml := List.mem_of_getElem? hl
      have hx1 : (ls.map fun l => V.int (wt l))[i]? = some x1 := hx1
      rw [List.getElem?_map, hl] at hx1
      cases hx1
      have e1 := same_upd (o := HO.tup [V.int (wt l), y1]) nT
      have hT : upd H1 T (HO.tup [V.int (wt l), y1]) T = some (.tup [V.int (wt l), y1]) := upd_same
      generalize upd H1 T (HO.tup [V.int (wt l), y1]) = H2 at e1 hT ⊢
      have e2 := Same.trans e e1
      have fy : FrV K H2 y1 (sz l) := (tu.2 i y1 (sz l) hy1 (by rw [List.getElem?_map, hl]; rfl)).same e2
      have hm : (i + 1) * (m + n + 1) ≤ (ls.length + 1) * (m + n + 1) := Nat.mul_le_mul_right _ (by omega)
      have hs : (i + 1) * (m + n + 1) = i * (m + n + 1) + (m + n + 1) := Nat.succ_mul ..
      refine ⟨_, _, rfl, SqT.of hT, rfl, _, _, rfl, _, _, rfl, rfl, ?_⟩
      refine ⟨_, rfl, _, rfl, _, rfl, y1, wt l, sz l, m, n, rfl, fy, bz l ml, bw l ml, n0, by omega, fun z3 H3 nz3 e3 hz3 => ?_⟩
      have fs : FrB (m + n) (sz l * ((wt l : Int) : Rat)) := (bz l ml).mul (FrB.ofInt (bw l ml) n0)
      refine ⟨v, .ref z3, _, _, _, _, rfl, (fv.same e1).same e3, ⟨z3, rfl, SqT.of hz3⟩, fb, fs, by omega, fun z4 H4 nz4 e4 hz4 => ?_⟩
      have ea : ansQ (ls.take (i + 1)) sz wt = ansQ (ls.take i) sz wt + sz l * ((wt l : Int) : Rat) := by
        unfold ansQ
        rw [take_succ hl, List.map_append]
        exact sumQ_snoc _ _
      refine ⟨_, _, _, rfl, Same.trans e2 (Same.trans e3 e4), ?_, ?_⟩
      · rw [ea]
        exact ⟨z4, rfl, SqT.of hz4⟩
      · rw [ea]
        exact (fb.add fs).more (by omega)
    · rintro σ' H1 ⟨v, v3, v4, rfl, e, fv, fb⟩
      rw [List.take_length] at fv fb
      have hs : (ls.length + 1) * (m + n + 1) = ls.length * (m + n + 1) + (m + n + 1) := Nat.succ_mul ..
      exact ⟨_, rfl, qq v H1 e fv (fb.more (by omega))⟩
end
end Bk

/-! try: .. / except A: .. / except B as n: .. , the errors' context told; each error is of A or of B -/
namespace Bk
open PySem PySem.Spec PyProof.Rows L2
/-- what such a try asks of an error that reaches it -/
def wTwo (K : PySem.W.Frag) (c1 c2 : Value) (i : Nat) (t1 t2 : Addr → Value → Option Addr → TS) (D : Ends) : WX := fun cls d σ H =>
  (PySem.W.exmOne K cls c1 = some true ∧ ∀ a, H a = none → t1 a cls d D σ H) ∨
  (PySem.W.exmOne K cls c1 = some false ∧ PySem.W.exmOne K cls c2 = some true ∧ ∀ a, H a = none →
    t2 a cls d { nx := fun τ G => D.nx (τ.set i none) G, rt := D.rt, bk := fun τ G => D.bk (τ.set i none) G, ct := fun τ G => D.ct (τ.set i none) G } (σ.set i (some (.ref a))) H)
section
variable {X : Cx} {body s1 s2 : List Stmt} {b1 b2 : Stmt} {x1 x2 n : Str} {c1 c2 : Value} {i : Nat} {p1 p2 q1 q2 pos : Pos} {tb : WX → TS} {t1 t2 : Addr → Value → Option Addr → TS}
theorem ps_try_two (hst : X.stack = X.env :: X.outer) (hfm : X.env.frame = some X.env.locals) (hN : X.N.Nodup) (hi : X.N[i]? = some n) (hln : X.env.kindOf n = some .local) (hc1 : Names X x1 c1) (hc2 : Names X x2 c2)
    (hb : ∀ (W : WX) (pn : List (Addr × Obj)) (xe : Value → Shared → Prop), L2N.Takes (X.tr pn xe) W → PassesOwn (model X.prog X.w) X.A X.env xe → PSs (X.tr pn xe) body (tb W))
    (h1 : ∀ (a : Addr) (oe : Obj) (cls : Value) (d : Option Addr) (pn : List (Addr × Obj)), L2N.Zn cls d oe → (∃ vs, oe.data = .fields vs) → PSs (X.suite a ((a, oe) :: pn)) (b1 :: s1) (t1 a cls d))
    (h2 : ∀ (a : Addr) (oe : Obj) (cls : Value) (d : Option Addr) (pn : List (Addr × Obj)), L2N.Zn cls d oe → (∃ vs, oe.data = .fields vs) → PSs (X.suite a ((a, oe) :: pn)) (b2 :: s2) (t2 a cls d)) :
    PS X (.Try body [.ExceptHandler (some (.Name x1 p1)) none (b1 :: s1) q1, .ExceptHandler (some (.Name x2 p2)) (some n) (b2 :: s2) q2] [] [] pos) (fun D σ H => tb (wTwo X.K c1 c2 i t1 t2 D) D σ H) := by
  constructor
  intro pins s σ H D I h
  have ok := I.ok
  have frm : X.A.frames = some (X.env :: X.outer) := by rw [ok.frames, hst]
  have loc : Loc X.env.scope n := .inl hln
  refine wpAny_Try_except ?_
  have run := (hb (wTwo X.K c1 c2 i t1 t2 D) (X.pn ++ pins) (fun e z => wpAny (model X.prog X.w) X.A (noteFrame e X.env) (fun _ z => wpAny (model X.prog X.w) X.A (setFlight e none)
    (fun _ z => wpAny (model X.prog X.w) X.A (handleBy e X.env [.ExceptHandler (some (.Name x1 p1)) none (b1 :: s1) q1, .ExceptHandler (some (.Name x2 p2)) (some n) (b2 :: s2) q2]) (SP X pins D) X.xe z) X.xe z) X.xe z) ?_ PassesOwn.looking).run [] s σ H D (I.toTry _) h
  · refine wpAny_mono run (fun f z hz => ?_) fun e z hz => hz
    match f, hz with
    | .next, ⟨τ, G, J, k⟩ => exact wpAny_execs_nil ⟨τ, G, J.ofTry ok, k⟩
    | .brk, ⟨τ, G, J, k⟩ => exact ⟨τ, G, J.ofTry ok, k⟩
    | .cont, ⟨τ, G, J, k⟩ => exact ⟨τ, G, J.ofTry ok, k⟩
    | .ret u, ⟨v, τ, G, J, r, k⟩ => exact ⟨v, τ, G, J.ofTry ok, r, k⟩
  rintro u z ⟨a, B, sI, pins', τ, G, cls, d, rfl, J0, nb, up, sky, na, os, ag, hw⟩
  have J := J0.ofTry ok
  show wpAny (model X.prog X.w) X.A (noteFrame (.ref a) X.env) _ _ _
  refine L2N.Sky.land L2N.Zn.steady frm hfm (hst ▸ sky) fun g fl ug => ?_
  have J1 : Inv X pins τ G { z with heap := g } := J.landed nb fl.1 (up.trans ug) os ag
  obtain ⟨oe, vs, hoe, hzn, hdt⟩ := fl.there
  have away : a ∉ frs (X.env :: X.outer) := fun hm => by
    obtain ⟨_, o', e', hnf⟩ := fl.2.2.1.mem hm
    rw [hoe] at e'
    cases e'
    exact hnf _ hdt
  have nL : a ≠ X.env.locals := fun k => away (List.mem_filterMap.mpr ⟨X.env, List.mem_cons_self, by rw [hfm, k]⟩)
  have nF : a ∉ X.fs := fun hm => by
    obtain ⟨w0, m0, k0⟩ := List.mem_filterMap.mp hm
    exact away (List.mem_filterMap.mpr ⟨w0, List.mem_cons_of_mem _ m0, k0⟩)
  have S1 := J1.suite hoe hdt na nL nF
  have ty : PySem.W.Looks (model X.prog X.w) g (typeOf (.ref a)) cls := fun A Q E s k q => wpAny_typeOf_ref (k _ _ hoe) (hzn.1.symm ▸ q)
  -- the name of a clause
  have nam : ∀ {x : Str} {c : Value} {p : Pos} (_ : Names X x c) {Q E : Value → Shared → Prop}, Q c { z with heap := g } → wpAny (model X.prog X.w) (X.A.mark (some (.ref a))) (eval (.Name x p) X.env) Q E { z with heap := g } := fun {x c p} hc {Q E} k => by
    obtain ⟨g0, db, hm | ⟨hm, hv, hnn⟩⟩ := hc
    · exact ld_glob (X := X.suite a ((a, oe) :: (X.pn ++ pins))) S1 g0 hm k db
    · exact ld_blt (X := X.suite a ((a, oe) :: (X.pn ++ pins))) S1 g0 hm hv k hnn db
  refine wpAny_handleBy_cons (codeAny_handlers_test ?_) (by intro k; cases k)
  rcases hw with ⟨m1, hq⟩ | ⟨m1, m2, hq⟩
  · have M1 := PySem.W.exm_one (M := model X.prog X.w) J1.kIn ty m1
    refine nam hc1 (M1.here ?_)
    refine codeAny_handlers_suite ?_
    refine HandSPX.lands_againZ fl fun g2 fl2 ug2 => ?_
    have J2 : Inv X pins τ G { z with heap := g2 } := J.landed nb fl2.1 ((up.trans ug).trans ug2) os ag
    obtain ⟨oe2, vs2, hoe2, hzn2, hdt2⟩ := fl2.there
    refine wpAny_mono ((h1 a oe2 cls d (X.pn ++ pins) hzn2 ⟨_, hdt2⟩).run [] _ _ G _ (J2.suite hoe2 hdt2 na nL nF) (hq a na)) (fun f t ht => ?_) (fun _ _ k => k.elim)
    match f, ht with
    | .next, ⟨τ2, G2, S2, k⟩ => exact ⟨_, _, S2.unsuite ok, k⟩
    | .brk, ⟨τ2, G2, S2, k⟩ => exact ⟨_, _, S2.unsuite ok, k⟩
    | .cont, ⟨τ2, G2, S2, k⟩ => exact ⟨_, _, S2.unsuite ok, k⟩
    | .ret u, ⟨v2, τ2, G2, S2, r2, k⟩ => exact ⟨_, _, _, S2.unsuite ok, r2, k⟩
  · have M1 := PySem.W.exm_one (M := model X.prog X.w) J1.kIn ty m1
    have M2 := PySem.W.exm_one (M := model X.prog X.w) J1.kIn ty m2
    refine nam hc1 (M1.here ?_)
    show wpAny _ X.A (handleBy (.ref a) X.env [.ExceptHandler (some (.Name x2 p2)) (some n) (b2 :: s2) q2]) _ _ _
    refine wpAny_handleBy_cons (codeAny_handlers_test ?_) (by intro k; cases k)
    refine nam hc2 (M2.here ?_)
    refine codeAny_handlers_suite_as ?_
    refine HandSPX.lands_againZ fl fun g2 fl2 ug2 => ?_
    have J2 : Inv X pins τ G { z with heap := g2 } := J.landed nb fl2.1 ((up.trans ug).trans ug2) os ag
    obtain ⟨oe2, vs2, hoe2, hzn2, hdt2⟩ := fl2.there
    have S2 := J2.suite hoe2 hdt2 na nL nF
    refine store_ok (X := X.suite a ((a, oe2) :: (X.pn ++ pins))) (v := .ref a) S2 hN hi loc rfl (fun t T2 => ?_) (.inr hln)
    refine wpAny_mono ((h2 a oe2 cls d (X.pn ++ pins) hzn2 ⟨_, hdt2⟩).run [] t _ G _ T2 (hq a na)) (fun f t ht => ?_) (fun _ _ k => k.elim)
    have ends : ∀ {τ2 : L2.St} {G2 : Hp} {Q : Shared → Prop}, Inv (X.suite a ((a, oe2) :: (X.pn ++ pins))) [] τ2 G2 t → (∀ t3, Inv X pins (τ2.set i none) G2 t3 → Q t3) → wpAny (model X.prog X.w) X.A (do bindName X.env n .none; unbindBehindTheSuite X.env n q2) (fun _ t3 => Q t3) X.xe t :=
      fun T3 k => gone_ok (T3.unsuite ok) hN hi hln k
    match f, ht with
    | .next, ⟨τ2, G2, T3, k⟩ => exact ends T3 fun t3 J3 => ⟨_, _, J3, k⟩
    | .brk, ⟨τ2, G2, T3, k⟩ => exact ends T3 fun t3 J3 => ⟨_, _, J3, k⟩
    | .cont, ⟨τ2, G2, T3, k⟩ => exact ends T3 fun t3 J3 => ⟨_, _, J3, k⟩
    | .ret u, ⟨v2, τ2, G2, T3, r2, k⟩ => exact ends T3 fun t3 J3 => ⟨_, _, _, J3, r2, k⟩
end
end Bk

/-! try: .. / except A as n: .. / except B: .. , the errors' context told; each error is of A or of B -/
namespace Bk
open PySem PySem.Spec PyProof.Rows L2
/-- what such a try asks of an error that reaches it -/
def wOwn (K : PySem.W.Frag) (c1 c2 : Value) (i : Nat) (t1 t2 : Addr → Value → Option Addr → TS) (D : Ends) : WX := fun cls d σ H =>
  (PySem.W.exmOne K cls c1 = some true ∧ ∀ a, H a = none →
    t1 a cls d { nx := fun τ G => D.nx (τ.set i none) G, rt := D.rt, bk := fun τ G => D.bk (τ.set i none) G, ct := fun τ G => D.ct (τ.set i none) G } (σ.set i (some (.ref a))) H) ∨
  (PySem.W.exmOne K cls c1 = some false ∧ PySem.W.exmOne K cls c2 = some true ∧ ∀ a, H a = none → t2 a cls d D σ H)
section
variable {X : Cx} {body s1 s2 : List Stmt} {b1 b2 : Stmt} {x1 x2 n : Str} {c1 c2 : Value} {i : Nat} {p1 p2 q1 q2 pos : Pos} {tb : WX → TS} {t1 t2 : Addr → Value → Option Addr → TS}
theorem ps_try_own (hst : X.stack = X.env :: X.outer) (hfm : X.env.frame = some X.env.locals) (hN : X.N.Nodup) (hi : X.N[i]? = some n) (hln : X.env.kindOf n = some .local) (hc1 : Names X x1 c1) (hc2 : Names X x2 c2)
    (hb : ∀ (W : WX) (pn : List (Addr × Obj)) (xe : Value → Shared → Prop), L2N.Takes (X.tr pn xe) W → PassesOwn (model X.prog X.w) X.A X.env xe → PSs (X.tr pn xe) body (tb W))
    (h1 : ∀ (a : Addr) (oe : Obj) (cls : Value) (d : Option Addr) (pn : List (Addr × Obj)), L2N.Zn cls d oe → (∃ vs, oe.data = .fields vs) → PSs (X.suite a ((a, oe) :: pn)) (b1 :: s1) (t1 a cls d))
    (h2 : ∀ (a : Addr) (oe : Obj) (cls : Value) (d : Option Addr) (pn : List (Addr × Obj)), L2N.Zn cls d oe → (∃ vs, oe.data = .fields vs) → PSs (X.suite a ((a, oe) :: pn)) (b2 :: s2) (t2 a cls d)) :
    PS X (.Try body [.ExceptHandler (some (.Name x1 p1)) (some n) (b1 :: s1) q1, .ExceptHandler (some (.Name x2 p2)) none (b2 :: s2) q2] [] [] pos) (fun D σ H => tb (wOwn X.K c1 c2 i t1 t2 D) D σ H) := by
  constructor
  intro pins s σ H D I h
  have ok := I.ok
  have frm : X.A.frames = some (X.env :: X.outer) := by rw [ok.frames, hst]
  have loc : Loc X.env.scope n := .inl hln
  refine wpAny_Try_except ?_
  have run := (hb (wOwn X.K c1 c2 i t1 t2 D) (X.pn ++ pins) (fun e z => wpAny (model X.prog X.w) X.A (noteFrame e X.env) (fun _ z => wpAny (model X.prog X.w) X.A (setFlight e none)
    (fun _ z => wpAny (model X.prog X.w) X.A (handleBy e X.env [.ExceptHandler (some (.Name x1 p1)) (some n) (b1 :: s1) q1, .ExceptHandler (some (.Name x2 p2)) none (b2 :: s2) q2]) (SP X pins D) X.xe z) X.xe z) X.xe z) ?_ PassesOwn.looking).run [] s σ H D (I.toTry _) h
  · refine wpAny_mono run (fun f z hz => ?_) fun e z hz => hz
    match f, hz with
    | .next, ⟨τ, G, J, k⟩ => exact wpAny_execs_nil ⟨τ, G, J.ofTry ok, k⟩
    | .brk, ⟨τ, G, J, k⟩ => exact ⟨τ, G, J.ofTry ok, k⟩
    | .cont, ⟨τ, G, J, k⟩ => exact ⟨τ, G, J.ofTry ok, k⟩
    | .ret u, ⟨v, τ, G, J, r, k⟩ => exact ⟨v, τ, G, J.ofTry ok, r, k⟩
  rintro u z ⟨a, B, sI, pins', τ, G, cls, d, rfl, J0, nb, up, sky, na, os, ag, hw⟩
  have J := J0.ofTry ok
  show wpAny (model X.prog X.w) X.A (noteFrame (.ref a) X.env) _ _ _
  refine L2N.Sky.land L2N.Zn.steady frm hfm (hst ▸ sky) fun g fl ug => ?_
  have J1 : Inv X pins τ G { z with heap := g } := J.landed nb fl.1 (up.trans ug) os ag
  obtain ⟨oe, vs, hoe, hzn, hdt⟩ := fl.there
  have away : a ∉ frs (X.env :: X.outer) := fun hm => by
    obtain ⟨_, o', e', hnf⟩ := fl.2.2.1.mem hm
    rw [hoe] at e'
    cases e'
    exact hnf _ hdt
  have nL : a ≠ X.env.locals := fun k => away (List.mem_filterMap.mpr ⟨X.env, List.mem_cons_self, by rw [hfm, k]⟩)
  have nF : a ∉ X.fs := fun hm => by
    obtain ⟨w0, m0, k0⟩ := List.mem_filterMap.mp hm
    exact away (List.mem_filterMap.mpr ⟨w0, List.mem_cons_of_mem _ m0, k0⟩)
  have S1 := J1.suite hoe hdt na nL nF
  have ty : PySem.W.Looks (model X.prog X.w) g (typeOf (.ref a)) cls := fun A Q E s k q => wpAny_typeOf_ref (k _ _ hoe) (hzn.1.symm ▸ q)
  -- the name of a clause
  have nam : ∀ {x : Str} {c : Value} {p : Pos} (_ : Names X x c) {Q E : Value → Shared → Prop}, Q c { z with heap := g } → wpAny (model X.prog X.w) (X.A.mark (some (.ref a))) (eval (.Name x p) X.env) Q E { z with heap := g } := fun {x c p} hc {Q E} k => by
    obtain ⟨g0, db, hm | ⟨hm, hv, hnn⟩⟩ := hc
    · exact ld_glob (X := X.suite a ((a, oe) :: (X.pn ++ pins))) S1 g0 hm k db
    · exact ld_blt (X := X.suite a ((a, oe) :: (X.pn ++ pins))) S1 g0 hm hv k hnn db
  refine wpAny_handleBy_cons (codeAny_handlers_test ?_) (by intro k; cases k)
  rcases hw with ⟨m1, hq⟩ | ⟨m1, m2, hq⟩
  · have M1 := PySem.W.exm_one (M := model X.prog X.w) J1.kIn ty m1
    refine nam hc1 (M1.here ?_)
    refine codeAny_handlers_suite_as ?_
    refine HandSPX.lands_againZ fl fun g2 fl2 ug2 => ?_
    have J2 : Inv X pins τ G { z with heap := g2 } := J.landed nb fl2.1 ((up.trans ug).trans ug2) os ag
    obtain ⟨oe2, vs2, hoe2, hzn2, hdt2⟩ := fl2.there
    have S2 := J2.suite hoe2 hdt2 na nL nF
    refine store_ok (X := X.suite a ((a, oe2) :: (X.pn ++ pins))) (v := .ref a) S2 hN hi loc rfl (fun t T2 => ?_) (.inr hln)
    refine wpAny_mono ((h1 a oe2 cls d (X.pn ++ pins) hzn2 ⟨_, hdt2⟩).run [] t _ G _ T2 (hq a na)) (fun f t ht => ?_) (fun _ _ k => k.elim)
    have ends : ∀ {τ2 : L2.St} {G2 : Hp} {Q : Shared → Prop}, Inv (X.suite a ((a, oe2) :: (X.pn ++ pins))) [] τ2 G2 t → (∀ t3, Inv X pins (τ2.set i none) G2 t3 → Q t3) → wpAny (model X.prog X.w) X.A (do bindName X.env n .none; unbindBehindTheSuite X.env n q1) (fun _ t3 => Q t3) X.xe t :=
      fun T3 k => gone_ok (T3.unsuite ok) hN hi hln k
    match f, ht with
    | .next, ⟨τ2, G2, T3, k⟩ => exact ends T3 fun t3 J3 => ⟨_, _, J3, k⟩
    | .brk, ⟨τ2, G2, T3, k⟩ => exact ends T3 fun t3 J3 => ⟨_, _, J3, k⟩
    | .cont, ⟨τ2, G2, T3, k⟩ => exact ends T3 fun t3 J3 => ⟨_, _, J3, k⟩
    | .ret u, ⟨v2, τ2, G2, T3, r2, k⟩ => exact ends T3 fun t3 J3 => ⟨_, _, _, J3, r2, k⟩
  · have M1 := PySem.W.exm_one (M := model X.prog X.w) J1.kIn ty m1
    have M2 := PySem.W.exm_one (M := model X.prog X.w) J1.kIn ty m2
    refine nam hc1 (M1.here ?_)
    show wpAny _ X.A (handleBy (.ref a) X.env [.ExceptHandler (some (.Name x2 p2)) none (b2 :: s2) q2]) _ _ _
    refine wpAny_handleBy_cons (codeAny_handlers_test ?_) (by intro k; cases k)
    refine nam hc2 (M2.here ?_)
    refine codeAny_handlers_suite ?_
    refine HandSPX.lands_againZ fl fun g2 fl2 ug2 => ?_
    have J2 : Inv X pins τ G { z with heap := g2 } := J.landed nb fl2.1 ((up.trans ug).trans ug2) os ag
    obtain ⟨oe2, vs2, hoe2, hzn2, hdt2⟩ := fl2.there
    refine wpAny_mono ((h2 a oe2 cls d (X.pn ++ pins) hzn2 ⟨_, hdt2⟩).run [] _ _ G _ (J2.suite hoe2 hdt2 na nL nF) (hq a na)) (fun f t ht => ?_) (fun _ _ k => k.elim)
    match f, ht with
    | .next, ⟨τ2, G2, S2, k⟩ => exact ⟨_, _, S2.unsuite ok, k⟩
    | .brk, ⟨τ2, G2, S2, k⟩ => exact ⟨_, _, S2.unsuite ok, k⟩
    | .cont, ⟨τ2, G2, S2, k⟩ => exact ⟨_, _, S2.unsuite ok, k⟩
    | .ret u, ⟨v2, τ2, G2, S2, r2, k⟩ => exact ⟨_, _, _, S2.unsuite ok, r2, k⟩
end
end Bk

namespace Bk
open PySem PySem.Spec PyProof.Rows L2 L2H LamX
/-- what _law_k_refused makes of what it got -/
def TRef (CU CW : Addr) : (XK → Hp → VK → Prop) → Hp → VK → Prop := fun tl H Q => ∀ (E : XK) (Q' : VK) (H0 : Hp), Same H H0 →
  ((∀ p H2, Same H H2 → H p = none → H2 p = some (.tup [.str (Str.ofString "unlike")]) → Q (.ref p) H2) → ∀ H', Same H0 H' → E (.ref CU) none H') →
  (∀ v, (∀ p H2, Same H H2 → H p = none → H2 p = some (.tup [.str (Str.ofString "wrong"), v]) → Q (.ref p) H2) → ∀ d H', ExcAt H0 d "weights" v H' → E (.ref CW) (some d) H') →
  (∀ v H', (∀ p H2, Same H' H2 → H' p = none → H2 p = some (.tup [.str (Str.ofString "told"), v]) → Q (.ref p) H2) → Q' v H') →
  tl E H0 Q'
section
variable {P : Program} {w : World} {K : PySem.W.Frag} {mg : Str → Option Value} {base : Heap}
theorem scRefused : FnScope ["_law_ask", "_law_found", "e"] ["_law_ask"] (defScope (topS 76)) := ⟨rfl, rfl, rfl, by decide +kernel, rfl, by decide +kernel, by decide +kernel⟩
theorem refused_gives {X : Cx} (hw : X.w = w) (hP : X.prog = P) (hK : X.K = K) (hm : X.mg = mg) (hbs : X.base = base) {CU CW fW g : Addr} {q : Str} (TU : BareT K mg "UnlikeFolders" CU) (TW : ExT K mg "Wrong" CW fW "weights") (uu : PySem.W.exmOne K (.ref CU) (.ref CU) = some true) (uw : PySem.W.exmOne K (.ref CU) (.ref CW) = some false) (cdv : Value) :
    GivesN X ["_law_ask", "_law_found", "e"] "_law_k_refused" (defScope (topS 76)) g cdv (defBody (topS 76)) "_law_ask" q 9 (TRef CU CW) := by
  subst hw hP hK hm hbs
  intro f c' s H Q tl hr act hc h
  have nd := scRefused.nd
  refine ⟨_, pss_cons (ps_set (i := 1) nd rfl (Or.inl rfl) (pe_tup (pa_cons pe_str pa_nil)))
    (Evl.pss_cut (ps_try_own (i := 2) (c1 := .ref CW) (c2 := .ref CU) (tb := fun W => tAsg (tTup (tCons (tC (.str (Str.ofString "told"))) (tCons (fun σZ HZ Q => σZ[0]? = some (some (.ref f)) ∧ HZ c' = some (CodeO c' q) ∧ tl (WE W σZ) HZ Q) tNil))) (gName 1))
        (t1 := fun a cls d => tAsg (tTup (tCons (tC (.str (Str.ofString "wrong"))) (tCons (tXf a cls d CW "weights" (tVar 2)) tNil))) (gName 1))
        (t2 := fun a cls d => tAsg (tTup (tCons (tC (.str (Str.ofString "unlike"))) tNil)) (gName 1))
        rfl rfl nd rfl rfl ⟨rfl, by decide, Or.inl TW.g⟩ ⟨rfl, by decide, Or.inl TU.g⟩
        (fun W pn xe tk _ => pss_one (ps_set (i := 1) nd rfl (Or.inl rfl) (by exact (pe_tup (pa_cons pe_str (pa_cons (act W pn xe _ _ tk) pa_nil))))))
        (fun a oe cls d pn hz hf => pss_one (ps_set (i := 1) nd rfl (Or.inl rfl) (by exact (pe_tup (pa_cons pe_str (pa_cons (pe_xf TW.xf TW.noF hz.zc hf (pv 2)) pa_nil))))))
        (fun a oe cls d pn hz hf => pss_one (ps_set (i := 1) nd rfl (Or.inl rfl) (by exact (pe_tup (pa_cons pe_str pa_nil))))))
      (pss_one (ps_ret (pv 1)))), ?_⟩
  refine ⟨by show 1 ≤ sizeLine; rw [sizeLine_eq]; omega, fun p0 np0 => ?_⟩
  have e0 := same_upd (o := HO.tup [.str (Str.ofString "odd")]) np0
  generalize upd H p0 (HO.tup [.str (Str.ofString "odd")]) = H0 at e0 ⊢
  refine ⟨fun σ' H' => ∃ p, σ'[1]? = some (some (.ref p)) ∧ Q (.ref p) H', ?_, ?_⟩
  · refine ⟨rfl, e0 _ _ hc, h _ _ H0 e0 (fun qq H' e1 => .inr ⟨uw, uu, fun a na => ?_⟩) (fun v qq d H' hE => .inl ⟨TW.te, fun a na => ?_⟩) (fun v H' qq => ?_)⟩
    · refine ⟨by show 1 ≤ sizeLine; rw [sizeLine_eq]; omega, fun p np => ⟨p, rfl, ?_⟩⟩
      have e2 := Same.trans e0 e1
      exact qq p _ (Same.grow e2 (e2.free np)) (e2.free np) upd_same
    · obtain ⟨nd1, e1, hd⟩ := hE
      have e2 := Same.trans e0 e1
      refine ⟨_, rfl, rfl, rfl, d, _, _, rfl, hd, rfl, ?_⟩
      refine ⟨by show 2 ≤ sizeLine; rw [sizeLine_eq]; omega, fun p np => ⟨p, rfl, ?_⟩⟩
      exact qq p _ (Same.grow e2 (e2.free np)) (e2.free np) upd_same
    · refine ⟨by show 2 ≤ sizeLine; rw [sizeLine_eq]; omega, fun p np => ⟨p, rfl, ?_⟩⟩
      exact qq p _ (same_upd np) np upd_same
  · rintro σ' H' ⟨p, h1, hq⟩
    exact ⟨_, h1, hq⟩
end
end Bk

namespace Bk
open PySem PySem.Spec PyProof.Rows L2 LamX
section
variable {X : Cx} {CX : CXT} {n : Nat} {C f : Addr} {fd : FuncData} {ps : List Str} {sp : Sp} {E : XK}
theorem kLeOwn (K : PySem.W.Frag) (F : FnOk X.prog X.w X.K X.mg X.base CX n f fd ps sp) (hb : Binds X.K fd ps []) (hx : Passes CX X E) (hr : Room n X.A) (m : Own X.K C (cmpInfo CmpOp.LtE).2.1 f) (e : X.K = K := by rfl) : OpR X (compareOp .LtE) (rCmpOwn K C sp E) := e ▸ op_cmpOwn (op := .LtE) F hb hx hr m
end
/-! what stays where all but the tables of code stay -/
section
variable {C CQ : Addr} {H H' : Hp} {st c nl x D q : Addr} {zs : List Str} {ch : Bool} {ws : List V} {n : Nat} {f : List Str → Int}
theorem FoldersAt.extN (h : FoldersAt C H x zs ch) (e : ExtN H H') : FoldersAt C H' x zs ch := by
  obtain ⟨dx, t, pd, h1, h2, h3⟩ := h
  exact ⟨dx, t, pd, e _ _ h1 (fun _ z => nomatch z), e _ _ h2 (fun _ z => nomatch z), e _ _ h3 (fun _ z => nomatch z)⟩
theorem QuestAt.extN (h : QuestAt C CQ H q x zs ch f) (e : ExtN H H') : QuestAt C CQ H' q x zs ch f := by
  obtain ⟨dq, td, h1, h2, h3⟩ := h
  exact ⟨dq, td, e _ _ h1 (fun _ z => nomatch z), FoldersAt.extN h2 e, e _ _ h3 (fun _ z => nomatch z)⟩
theorem Strm.extN (h : Strm H st c n) (e : ExtN H H') : Strm H' st c n := by
  obtain ⟨ne, cells, a, k, m, h1, h2, h3⟩ := h
  exact ⟨ne, cells, a, k, m, e _ _ h1 (fun _ z => nomatch z), e _ _ h2 (fun _ z => nomatch z), h3⟩
theorem HouseAt.extN (h : HouseAt C H st c nl x D zs ch ws) (e : ExtN H H') : HouseAt C H' st c nl x D zs ch ws :=
  ⟨h.n1, h.n2, h.d1, h.d2, h.dn, e _ _ h.nm (fun _ z => nomatch z), FoldersAt.extN h.fo e, e _ _ h.ld (fun _ z => nomatch z), ⟨h.at_.1, fun i v l h1 h2 => by
    obtain ⟨b, e1, e2⟩ := h.at_.2 i v l h1 h2
    exact ⟨b, e1, e _ _ e2 (fun _ z => nomatch z)⟩⟩, h.pos, h.le, h.nd, h.ok⟩
theorem tabs_kept {T : List (Addr × Str)} (t : Tabs T H) (S : Strm H st c n) (k : Kept st c H H') : Tabs T H' := fun p hp => by
  obtain ⟨ps, h1, h2, h3⟩ := t p hp
  refine ⟨ps, S.hold k h1 (fun _ z => nomatch z), h2, fun pos cv hc => ?_⟩
  obtain ⟨a, e1, e2⟩ := h3 pos cv hc
  exact ⟨a, e1, S.hold k e2 (fun l z => by
    unfold CodeO at z
    cases z)⟩
end
/-- what a turn knows: the house, the stream, two questions, their rows, the tables -/
structure Tn (C CQ P0 : Addr) (q : Str) (H : Hp) (st c nl x x2 D q1 q2 r1 r2 : Addr) (zs : List Str) (ch : Bool) (ws : List V) (f g : List Str → Int) (n : Nat) : Prop where
  ho : HouseAt C H st c nl x D zs ch ws
  S : Strm H st c n
  A : QuestAt C CQ H q1 x zs ch f
  B : QuestAt C CQ H q2 x2 zs ch g
  h1 : H r1 = some (.lst ((lotsFor ch zs).map fun l => V.int (f l)))
  h2 : H r2 = some (.lst ((lotsFor ch zs).map fun l => V.int (g l)))
  a1 : r1 ≠ st
  a2 : r1 ≠ c
  b1 : r2 ≠ st
  b2 : r2 ≠ c
  bf : ∀ l, -3 ≤ f l ∧ f l ≤ 3
  tb : Tabs [(P0, q)] H
section
variable {C CQ P0 : Addr} {q : Str} {H H' : Hp} {st c nl x x2 D q1 q2 r1 r2 : Addr} {zs : List Str} {ch : Bool} {ws : List V} {f g : List Str → Int} {n n' : Nat}
theorem Tn.same (h : Tn C CQ P0 q H st c nl x x2 D q1 q2 r1 r2 zs ch ws f g n) (e : Same H H') : Tn C CQ P0 q H' st c nl x x2 D q1 q2 r1 r2 zs ch ws f g n := ⟨h.ho.same e, h.S.same e, h.A.same e, h.B.same e, e _ _ h.h1, e _ _ h.h2, h.a1, h.a2, h.b1, h.b2, h.bf, h.tb.ext e⟩
theorem Tn.kept (h : Tn C CQ P0 q H st c nl x x2 D q1 q2 r1 r2 zs ch ws f g n) (S : Strm H' st c n') (k : Kept st c H H') : Tn C CQ P0 q H' st c nl x x2 D q1 q2 r1 r2 zs ch ws f g n' := ⟨h.ho.kept h.S k, S, h.A.kept h.S k, h.B.kept h.S k, k _ _ h.a1 h.a2 h.h1, k _ _ h.b1 h.b2 h.h2, h.a1, h.a2, h.b1, h.b2, h.bf, tabs_kept h.tb h.S k⟩
theorem Tn.extN (h : Tn C CQ P0 q H st c nl x x2 D q1 q2 r1 r2 zs ch ws f g n) (e : ExtN H H') (t : Tabs [(P0, q)] H') : Tn C CQ P0 q H' st c nl x x2 D q1 q2 r1 r2 zs ch ws f g n := ⟨HouseAt.extN h.ho e, Strm.extN h.S e, QuestAt.extN h.A e, QuestAt.extN h.B e, e _ _ h.h1 (fun _ z => nomatch z), e _ _ h.h2 (fun _ z => nomatch z), h.a1, h.a2, h.b1, h.b2, h.bf, t⟩
end
theorem int_map_inj : ∀ {xs ys : List Int}, xs.map V.int = ys.map V.int → xs = ys
  | [], [], _ => rfl
  | [], y :: r, h => by cases h
  | x :: r, [], h => by cases h
  | x :: r, y :: t, h => by
    rw [List.map_cons, List.map_cons] at h
    injection h with h1 h2
    injection h1 with h1
    rw [h1, int_map_inj h2]
theorem row_ints (ls : List (List Str)) (f : List Str → Int) : (ls.map fun l => V.int (f l)) = (ls.map f).map V.int := by
  rw [List.map_map]
  rfl
theorem rowD {K : PySem.W.Frag} {H : Hp} {r : Addr} {ls : List (List Str)} {f : List Str → Int} (h : H r = some (.lst (ls.map fun l => V.int (f l)))) : Dp K H (.ref r) (.list ((ls.map f).map PyData.int)) := .lst (SqL.of (by rw [← row_ints]; exact h)) (dp_ints _)
theorem Unl.extN {C CQ : Addr} {H H' : Hp} {q q' : Addr} (u : Unl C CQ H q q') (e : ExtN H H') : Unl C CQ H' q q' := by
  obtain ⟨x, x', zs, zs', ch, ch', wt, wt', h1, h2, h3⟩ := u.ex
  exact ⟨x, x', zs, zs', ch, ch', wt, wt', QuestAt.extN h1 e, QuestAt.extN h2 e, h3⟩
theorem tor_cb {r : List V → Hp → VK → Prop} {ts : TA} {u : TT} {a b : TS} {Dd : Ends} {σ : L2.St} {H : Hp} (h : ts σ H fun vs H1 => r vs H1 fun y H2 => ∃ k : Bool, y = .bl k ∧ (if k = true then a Dd σ H2 else u σ H2 fun c H3 => if c = true then a Dd σ H3 else b Dd σ H3)) : tIfS (tOr (tB (tCB r ts)) u) a b Dd σ H := by
  refine (?_ : ts σ H _)
  exact h
/-- questions with the same numbers are not unequal -/
theorem ne_same {K : PySem.W.Frag} {C CQ y y' x x' : Addr} {zs : List Str} {ch : Bool} {wt wt' : List Str → Int} {G : Hp} {R : VK} (A : QuestAt C CQ G y x zs ch wt) (B : QuestAt C CQ G y' x' zs ch wt') (nm : ∀ z ∈ zs, isNameS z = true) (h : ∀ l ∈ lotsFor ch zs, wt l = wt' l) (r : ∀ H', Same G H' → R (.bl false) H') :
    rNeOwn CQ (spQEq K C CQ) E0 (.ref y) (.ref y') G R := by
  obtain ⟨dqa, tda, b1, _, _⟩ := id A
  obtain ⟨dqb, tdb, b2, _, _⟩ := id B
  refine ⟨y, dqa, y', dqb, _, _, rfl, rfl, b1, b2, y, x, y', x', zs, zs, ch, ch, _, _, rfl, A, B, nm, nm, fun H' e' => ⟨_, rfl, ?_⟩⟩
  rw [decide_eq_true rfl, decide_eq_true rfl, sameT_eq h]
  exact r H' e'
theorem QuestAt.upL {p : Addr} {l : List V} {o : HO} {C CQ q x : Addr} {H : Hp} {zs : List Str} {ch : Bool} {wt : List Str → Int} (h : QuestAt C CQ H q x zs ch wt) (hp : H p = some (.lst l)) : QuestAt C CQ (upd H p o) q x zs ch wt := by
  obtain ⟨dq, td, h1, h2, h3⟩ := h
  refine ⟨dq, td, ?_, h2.updL hp, ?_⟩
  · rw [upd_ne (ne_of h1 hp (fun z => nomatch z))]
    exact h1
  · rw [upd_ne (ne_of h3 hp (fun z => nomatch z))]
    exact h3
theorem Unl.upL {p : Addr} {l : List V} {o : HO} {C CQ : Addr} {H : Hp} {q q' : Addr} (u : Unl C CQ H q q') (hp : H p = some (.lst l)) : Unl C CQ (upd H p o) q q' := by
  obtain ⟨x, x', zs, zs', ch, ch', wt, wt', h1, h2, h3⟩ := u.ex
  exact ⟨x, x', zs, zs', ch, ch', wt, wt', QuestAt.upL h1 hp, QuestAt.upL h2 hp, h3⟩
/-- a list that is none of a turn's own -/
structure Fr (p st c nl D r1 r2 : Addr) : Prop where
  n1 : p ≠ st
  n2 : p ≠ c
  n3 : p ≠ nl
  n4 : p ≠ D
  n5 : p ≠ r1
  n6 : p ≠ r2
theorem Tn.fr {C CQ P0 : Addr} {q : Str} {H : Hp} {st c nl x x2 D q1 q2 r1 r2 p : Addr} {zs : List Str} {ch : Bool} {ws : List V} {f g : List Str → Int} {n : Nat} (h : Tn C CQ P0 q H st c nl x x2 D q1 q2 r1 r2 zs ch ws f g n) (np : H p = none) : Fr p st c nl D r1 r2 :=
  ⟨(h.S.notfree np).1, (h.S.notfree np).2, (ne_of_none h.ho.nm np).symm, (ne_of_none h.ho.ld np).symm, (ne_of_none h.h1 np).symm, (ne_of_none h.h2 np).symm⟩
theorem Tn.upL {C CQ P0 : Addr} {q : Str} {H : Hp} {st c nl x x2 D q1 q2 r1 r2 p : Addr} {l : List V} {o : HO} {zs : List Str} {ch : Bool} {ws : List V} {f g : List Str → Int} {n : Nat} (h : Tn C CQ P0 q H st c nl x x2 D q1 q2 r1 r2 zs ch ws f g n) (hp : H p = some (.lst l)) (r : Fr p st c nl D r1 r2) : Tn C CQ P0 q (upd H p o) st c nl x x2 D q1 q2 r1 r2 zs ch ws f g n :=
  ⟨⟨h.ho.n1, h.ho.n2, h.ho.d1, h.ho.d2, h.ho.dn, by rw [upd_ne r.n3.symm]; exact h.ho.nm, h.ho.fo.updL hp, by rw [upd_ne r.n4.symm]; exact h.ho.ld, h.ho.at_.updL hp, h.ho.pos, h.ho.le, h.ho.nd, h.ho.ok⟩, h.S.upd r.n1 r.n2, QuestAt.upL h.A hp, QuestAt.upL h.B hp, by rw [upd_ne r.n5.symm]; exact h.h1, by rw [upd_ne r.n6.symm]; exact h.h2, h.a1, h.a2, h.b1, h.b2, h.bf, Tabs.updL h.tb hp⟩
theorem kept_upd {H : Hp} {p : Addr} {o o' : HO} {l : List V} {q : Addr} (h : H q = some o') (hp : H p = some (.lst l)) (n : ∀ l, o' ≠ .lst l) : (upd H p o) q = some o' := by
  rw [upd_ne (fun z => by rw [z, hp] at h; exact n l (Option.some.inj h).symm)]
  exact h
theorem tasg_go {ta : TE} {g : TG} {Dd : Ends} {σ : L2.St} {H : Hp} (h : ta σ H fun x H1 => g x σ H1 Dd.nx) : tAsg ta g Dd σ H := h
theorem tlst_go {ts : TA} {σ : L2.St} {H : Hp} {R : VK} (h : ts σ H fun xs H1 => xs.length ≤ sizeLine ∧ ∀ p, H1 p = none → R (.ref p) (upd H1 p (.lst xs))) : tLst ts σ H R := h
theorem ttup_go {ts : TA} {σ : L2.St} {H : Hp} {R : VK} (h : ts σ H fun xs H1 => xs.length ≤ sizeLine ∧ ∀ p, H1 p = none → R (.ref p) (upd H1 p (.tup xs))) : tTup ts σ H R := h
theorem top_go {r : R2} {ta tb : TE} {σ : L2.St} {H : Hp} {R : VK} (h : ta σ H fun x H1 => tb σ H1 fun y H2 => r x y H2 R) : tOp r ta tb σ H R := h
theorem tifn_cb {r : List V → Hp → VK → Prop} {ts : TA} {a b : TS} {Dd : Ends} {σ : L2.St} {H : Hp} (h : ts σ H fun vs H1 => r vs H1 fun y H2 => ∃ k : Bool, y = .bl k ∧ (if (!k) = true then a Dd σ H2 else b Dd σ H2)) : tIfS (tNot (tB (tCB r ts))) a b Dd σ H := h
theorem tifn_call {sp : Sp} {ts : TA} {a b : TS} {Dd : Ends} {σ : L2.St} {H : Hp} (h : ts σ H fun vs H1 => sp (vs ++ []) H1 (fun y H2 => ∃ k : Bool, y = .bl k ∧ (if (!k) = true then a Dd σ H2 else b Dd σ H2)) E0) : tIfS (tNot (tB (tCall sp [] E0 ts))) a b Dd σ H := h
end Bk

/-! zip of three lists, walked -/
namespace Bk
open PySem PySem.Spec PyProof.Rows L2
def It3 (K : PySem.W.Frag) (a b c : Addr) : It :=
  ⟨fun i H => ∃ (xs ys zs : List V) (x y z : V), SqL K H a xs ∧ SqL K H b ys ∧ SqL K H c zs ∧ xs[i]? = some x ∧ ys[i]? = some y ∧ zs[i]? = some z,
    fun i H v H' => ∃ T x y z, v = .ref T ∧ H T = none ∧ H' = upd H T (.tup [x, y, z]) ∧ (∀ xs, SqL K H a xs → xs[i]? = some x) ∧ (∀ ys, SqL K H b ys → ys[i]? = some y) ∧ ∀ zs, SqL K H c zs → zs[i]? = some z,
    fun i H => ∃ xs ys zs : List V, SqL K H a xs ∧ SqL K H b ys ∧ SqL K H c zs ∧ xs.length = i ∧ ys.length = i ∧ zs.length = i⟩
theorem turn_three {P : Program} {w : World} {K : PySem.W.Frag} {elts : List Expr} {kk : Nat} {tpos : Pos} {a b c z TI TO i1 i2 i3 : Addr} (D : ZipSep3 z TI TO i1 i2 i3 [i1, a] [i2, b] [i3, c]) :
    Turn P w K (.Tuple elts kk tpos) (It3 K a b c) [z, TI, TO, i1, i2, i3] z (fun i h => IsZip h z TI TO .none ∧ IsTupOf3 h TI (.ref i1) (.ref i2) (.ref i3) ∧ (∃ x y u, IsTupOf3 h TO x y u) ∧ h.IsListIter i1 a i ∧ h.IsListIter i2 b i ∧ h.IsListIter i3 c i) where
  mem := by simp
  obj := fun i h st d hd => by
    obtain ⟨hz, hTI, ⟨x, y, u, hTO⟩, ⟨o1, e1, _, d1⟩, ⟨o2, e2, _, d2⟩, ⟨o3, e3, _, d3⟩⟩ := st
    have e' : d = z ∨ d = TI ∨ d = TO ∨ d = i1 ∨ d = i2 ∨ d = i3 := by simpa using hd
    rcases e' with q | q | q | q | q | q
    · rw [q]; exact ⟨_, hz, fun v q => nomatch q⟩
    · rw [q]; exact ⟨_, hTI, fun v q => nomatch q⟩
    · rw [q]; exact ⟨_, hTO, fun v q => nomatch q⟩
    · rw [q]; exact ⟨o1, e1, fun v q => by rw [d1] at q; cases q⟩
    · rw [q]; exact ⟨o2, e2, fun v q => by rw [d2] at q; cases q⟩
    · rw [q]; exact ⟨o3, e3, fun v q => by rw [d3] at q; cases q⟩
  keep := fun i h h' st k => by
    obtain ⟨hz, hTI, ⟨x, y, u, hTO⟩, h1, h2, h3⟩ := st
    exact ⟨k z (by simp) _ hz, k TI (by simp) _ hTI, ⟨x, y, u, k TO (by simp) _ hTO⟩, h1.at fun o q => k i1 (by simp) o q, h2.at fun o q => k i2 (by simp) o q, h3.at fun o q => k i3 (by simp) o q⟩
  item := by
    intro X hP hw hK hc i pins s σ H E I hf st hg
    subst hP hw hK
    obtain ⟨hz, hTI, ⟨x0, y0, u0, hTO⟩, h1, h2, h3⟩ := st
    obtain ⟨xs, ys, zs, x, y, u, hqx, hqy, hqz, hx, hy, hu⟩ := hg
    obtain ⟨its, rv, p, _⟩ := I.list hqx
    obtain ⟨its2, rv2, p2, _⟩ := I.list hqy
    obtain ⟨its3, rv3, p3, _⟩ := I.list hqz
    obtain ⟨w1, hw1, r1⟩ := rv.get hx
    obtain ⟨w2, hw2, r2⟩ := rv2.get hy
    obtain ⟨w3, hw3, r3⟩ := rv3.get hu
    have hzl : z < s.heap.objs.size := Heap.lt_size hz
    have hh : X.A.in1.handled = none := I.ok.hd hc
    have ne : ∀ {d : Addr} {d1 d2 : Addr}, d ∉ [d1, d2] → d2 ≠ d := fun h q => h (by simp [q])
    have lt : ∀ {α : Type} {l : List α} {v : α}, l[i]? = some v → i < l.toArray.size := fun h => by simpa using (List.getElem?_eq_some_iff.mp h).1
    have na : a ≠ i1 := fun q => by
      obtain ⟨o, e, _, dd⟩ := h1
      obtain ⟨o2, n, e2, _, _, dd2⟩ := p
      rw [q, e] at e2
      rw [Option.some.inj e2, dd2] at dd
      cases dd
    have nb : b ≠ i2 := fun q => by
      obtain ⟨o, e, _, dd⟩ := h2
      obtain ⟨o2, n, e2, _, _, dd2⟩ := p2
      rw [q, e] at e2
      rw [Option.some.inj e2, dd2] at dd
      cases dd
    have nc : c ≠ i3 := fun q => by
      obtain ⟨o, e, _, dd⟩ := h3
      obtain ⟨o2, n, e2, _, _, dd2⟩ := p3
      rw [q, e] at e2
      rw [Option.some.inj e2, dd2] at dd
      cases dd
    refine wpAny_pyNext_zipD3_item D (Draws.list hh i1 a na its.toArray) (Draws.list hh i2 b nb its2.toArray) (Draws.list hh i3 c nc its3.toArray) hz hTI hTO ⟨h1, p.isList⟩ ⟨h2, p2.isList⟩ ⟨h3, p3.isList⟩ (lt hw1) (lt hw2) (lt hw3) fun x1 x2 x3 h' tk g1 g2 g3 z' TO' d1 d2 d3 hT hsz hk => ?_
    have g1 : w1 = x1 := by
      have g1 : its[i]? = some x1 := by simpa using g1
      rw [hw1] at g1
      exact Option.some.inj g1
    have g2 : w2 = x2 := by
      have g2 : its2[i]? = some x2 := by simpa using g2
      rw [hw2] at g2
      exact Option.some.inj g2
    have g3 : w3 = x3 := by
      have g3 : its3[i]? = some x3 := by simpa using g3
      rw [hw3] at g3
      exact Option.some.inj g3
    subst g1 g2 g3
    refine ⟨_, rfl, wpAny_letOwnedTupleGo_zip (s := { s with heap := h', toks := tk }) z' fun h'' z'' sb => ?_⟩
    have hT2 : h''.get? s.heap.objs.size = some { cls := .type "tuple", data := .seq #[w1, w2, w3] } := (sb.2 _ (Nat.ne_of_gt hzl)).trans hT
    have new : ObjOk X.prog X.w (upd H s.heap.objs.size (.tup [x, y, u])) h'' s.heap.objs.size (.tup [x, y, u]) :=
      ⟨by show 3 ≤ sizeLine; decide, [w1, w2, w3], .cons r1 (.cons r2 (.cons r3 .nil)), ⟨_, hT2, rfl, _, rfl⟩⟩
    have I1 : Inv X pins σ (upd H s.heap.objs.size (.tup [x, y, u])) { s with heap := h'', toks := tk } :=
      I.turnedNew (t' := tk) (ch := [z, TI, TO, i1, i2, i3]) (fun d o hb q => (sb.2 d (fun q' => hb (by simp [q']))).trans (hk d o (fun q' => hb (by simp [q'])) (fun q' => hb (by simp [q'])) (fun q' => hb (by simp [q'])) (fun q' => hb (by simp [q'])) (fun q' => hb (by simp [q'])) q)) hf (Nat.le_refl _) new
    refine ⟨.ref s.heap.objs.size, _, I1, rfl, ⟨_, x, y, u, rfl, I.hok.fresh (Nat.le_refl _), rfl, fun l hl => by rw [I.list_inj hl hqx]; exact hx, fun l hl => by rw [I.list_inj hl hqy]; exact hy, fun l hl => by rw [I.list_inj hl hqz]; exact hu⟩, ⟨z'', ?_, ⟨w1, w2, w3, ?_⟩, ?_, ?_, ?_⟩, fun d hcm => ?_⟩
    · exact (sb.2 _ D.TIz).trans (hk _ _ D.TIz D.TITO D.TIi1 D.TIi2 D.TIi3 hTI)
    · exact (sb.2 _ D.TOz).trans TO'
    · exact d1.1.at fun o q => (sb.2 _ (fun e => D.zf1 (by rw [← e]; simp))).trans q
    · exact d2.1.at fun o q => (sb.2 _ (fun e => D.zf2 (by rw [← e]; simp))).trans q
    · exact d3.1.at fun o q => (sb.2 _ (fun e => D.zf3 (by rw [← e]; simp))).trans q
    · have hlt : d < s.heap.objs.size := by
        have e' : d = z ∨ d = TI ∨ d = TO ∨ d = i1 ∨ d = i2 ∨ d = i3 := by simpa using hcm
        rcases e' with q | q | q | q | q | q
        · rw [q]; exact hzl
        · rw [q]; exact Heap.lt_size hTI
        · rw [q]; exact Heap.lt_size hTO
        · rw [q]; obtain ⟨_, e1, _⟩ := h1; exact Heap.lt_size e1
        · rw [q]; obtain ⟨_, e2, _⟩ := h2; exact Heap.lt_size e2
        · rw [q]; obtain ⟨_, e3, _⟩ := h3; exact Heap.lt_size e3
      rw [upd_ne (Nat.ne_of_lt hlt)]
      exact (hf d hcm).1
  done := by
    intro X hP hw hK hc i pins s σ H E I hf st hg
    subst hP hw hK
    obtain ⟨hz, hTI, ⟨x0, y0, u0, hTO⟩, h1, h2, h3⟩ := st
    obtain ⟨xs, ys, zs, hqx, hqy, hqz, n1, n2, n3⟩ := hg
    obtain ⟨its, rv, p, _⟩ := I.list hqx
    obtain ⟨its2, rv2, p2, _⟩ := I.list hqy
    obtain ⟨its3, rv3, p3, _⟩ := I.list hqz
    have l1 := rv.length
    have l2 := rv2.length
    have l3 := rv3.length
    have hh : X.A.in1.handled = none := I.ok.hd hc
    have na : a ≠ i1 := fun q => by
      obtain ⟨o, e, _, dd⟩ := h1
      obtain ⟨o2, n, e2, _, _, dd2⟩ := p
      rw [q, e] at e2
      rw [Option.some.inj e2, dd2] at dd
      cases dd
    have nb : b ≠ i2 := fun q => by
      obtain ⟨o, e, _, dd⟩ := h2
      obtain ⟨o2, n, e2, _, _, dd2⟩ := p2
      rw [q, e] at e2
      rw [Option.some.inj e2, dd2] at dd
      cases dd
    have nc : c ≠ i3 := fun q => by
      obtain ⟨o, e, _, dd⟩ := h3
      obtain ⟨o2, n, e2, _, _, dd2⟩ := p3
      rw [q, e] at e2
      rw [Option.some.inj e2, dd2] at dd
      cases dd
    exact wpAny_pyNext_zipD3_end D (Draws.list hh i1 a na its.toArray) (Draws.list hh i2 b nb its2.toArray) (Draws.list hh i3 c nc its3.toArray) hz hTI hTO ⟨h1, p.isList⟩ ⟨h2, p2.isList⟩ ⟨h3, p3.isList⟩ (by simp; omega) (by simp; omega) (by simp; omega) (.inl (by simp; omega)) fun h' tk hk => ⟨rfl, I.turnedL (t' := tk) (ch := [z, TI, TO, i1, i2, i3]) (fun d o hb q =>
      hk d o (fun q' => hb (by simp [q'])) (fun q' => hb (by simp [q'])) (fun q' => hb (by simp [q'])) (fun q' => hb (by simp [q'])) (fun q' => hb (by simp [q'])) q) hf⟩
  self := fun A i s Q E st h => wpAny_pyIter_zip st.1 h
/-- zip(x, y, z), lists -/
def iZip3 (K : PySem.W.Frag) (ta : TA) : TI := fun σ H R => ta σ H fun vs H1 => ∃ a b c xs ys zs, vs = [.ref a, .ref b, .ref c] ∧ SqL K H1 a xs ∧ SqL K H1 b ys ∧ SqL K H1 c zs ∧ R (It3 K a b c) H1
theorem pi_zip3 {X : Cx} {e e2 e3 : Expr} {ta : TA} {p pos tpos : Pos} {elts : List Expr} {kk : Nat} (hg : Gl X "zip") (hm : X.mg "zip" = none) (ha : PA X [e, e2, e3] ta)
    (hs : starEach [e, e2, e3] X.env = (false, eval e X.env) :: starEach [e2, e3] X.env := by rfl) (hpl : (backTo pos (starEach [e2, e3] X.env)).any (·.1) = false := by rfl) :
    PI X (.Tuple elts kk tpos) (.Call (.Name "zip" p) [e, e2, e3] [] pos) (iZip3 X.K ta) := by
  refine ⟨fun pins s σ H R I h => ?_⟩
  refine Call_ (ld_blt I hg hm PyProof.Rows.boot_zip (PyProof.Rows.callWith_type1 (thn (ha.run pos pins s σ H _ I h) fun us s1 ⟨vs, H1, I1, r1, q1⟩ => ?_) hs hpl))
  obtain ⟨a, b, c, xs, ys, zs, ex, hqx, hqy, hqz, q⟩ := q1
  subst ex
  cases r1 with
  | cons r rr =>
    cases rr with
    | cons r' rr =>
      cases rr with
      | cons r'' rr =>
        cases rr
        cases r
        cases r'
        cases r''
        obtain ⟨its, rv, p1, _⟩ := I1.list hqx
        obtain ⟨its2, rv2, p2, _⟩ := I1.list hqy
        obtain ⟨its3, rv3, p3, _⟩ := I1.list hqz
        have la : a < s1.heap.objs.size := p1.lt
        have lb : b < s1.heap.objs.size := p2.lt
        have lc : c < s1.heap.objs.size := p3.lt
        refine zip_begins3 (begins_list a its.toArray) (begins_list b its2.toArray) (begins_list c its3.toArray) p1.isList p2.isList p3.isList fun h' hz hTI hTO g1 g2 g3 hsz hk => wpAny_pyIter_zip hz ?_
        have I2 : Inv X pins σ H1 { s1 with heap := h' } := I1.kept (t' := s1.toks) hk
        refine ⟨s1.heap.objs.size + 5, [s1.heap.objs.size + 5, s1.heap.objs.size + 3, s1.heap.objs.size + 4, s1.heap.objs.size, s1.heap.objs.size + 1, s1.heap.objs.size + 2], _, _, H1, rfl, I2,
          turn_three (zip_sep3 (N := s1.heap.objs.size) (fp1 := [a]) (fp2 := [b]) (fp3 := [c]) (fun d hd => by rw [List.mem_singleton.mp hd]; exact la) (fun d hd => by rw [List.mem_singleton.mp hd]; exact lb) (fun d hd => by rw [List.mem_singleton.mp hd]; exact lc)), ⟨hz, hTI, ⟨_, _, _, hTO⟩, ⟨_, g1, rfl, rfl⟩, ⟨_, g2, rfl, rfl⟩, ⟨_, g3, rfl, rfl⟩⟩, fun d hcm => ?_, q⟩
        have e' : d = s1.heap.objs.size + 5 ∨ d = s1.heap.objs.size + 3 ∨ d = s1.heap.objs.size + 4 ∨ d = s1.heap.objs.size ∨ d = s1.heap.objs.size + 1 ∨ d = s1.heap.objs.size + 2 := by simpa using hcm
        have hle : s1.heap.objs.size ≤ d := by
          rcases e' with z | z | z | z | z | z
          · rw [z]; exact Nat.le_add_right _ _
          · rw [z]; exact Nat.le_add_right _ _
          · rw [z]; exact Nat.le_add_right _ _
          · rw [z]; exact Nat.le_refl _
          · rw [z]; exact Nat.le_add_right _ _
          · rw [z]; exact Nat.le_add_right _ _
        exact I1.fpOk hle (I1.hok.fresh hle)
theorem kPiZ3 {X : Cx} (K : PySem.W.Frag) {e e2 e3 : Expr} {ta : TA} {p pos tpos : Pos} {elts : List Expr} {kk : Nat} (hg : Gl X "zip") (hm : X.mg "zip" = none) (ha : PA X [e, e2, e3] ta) (eK : X.K = K := by rfl)
    (hs : starEach [e, e2, e3] X.env = (false, eval e X.env) :: starEach [e2, e3] X.env := by rfl) (hpl : (backTo pos (starEach [e2, e3] X.env)).any (·.1) = false := by rfl) :
    PI X (.Tuple elts kk tpos) (.Call (.Name "zip" p) [e, e2, e3] [] pos) (iZip3 K ta) := eK ▸ pi_zip3 hg hm ha hs hpl
section
variable {K : PySem.W.Frag} {a b c : Addr} {xs ys zs : List V} {n : Nat}
theorem walk_zip3 (h1 : xs.length = n) (h2 : ys.length = n) (h3 : zs.length = n) : Walk (It3 K a b c) n (fun H => SqL K H a xs ∧ SqL K H b ys ∧ SqL K H c zs) (fun i H v H' => ∃ T x y z, v = .ref T ∧ H T = none ∧ H' = upd H T (.tup [x, y, z]) ∧ xs[i]? = some x ∧ ys[i]? = some y ∧ zs[i]? = some z) := by
  refine ⟨fun i _ hi q => ?_, fun _ q => ⟨xs, ys, zs, q.1, q.2.1, q.2.2, h1, h2, h3⟩, fun i H v H' _ q y => ?_⟩
  · have l1 : i < xs.length := by omega
    have l2 : i < ys.length := by omega
    have l3 : i < zs.length := by omega
    exact ⟨xs, ys, zs, xs[i], ys[i], zs[i], q.1, q.2.1, q.2.2, by simp [l1], by simp [l2], by simp [l3]⟩
  · obtain ⟨T, x, z, u, e1, e2, e3, e4, e5, e6⟩ := y
    exact ⟨T, x, z, u, e1, e2, e3, e4 xs q.1, e5 ys q.2.1, e6 zs q.2.2⟩
end
/-- a comprehension over zip of three lists with a test -/
theorem zip3_filt {α : Type} {K : PySem.W.Frag} {i j m : Nat} {a b c : Addr} {xs ys zs : List V} {ls : List α} {g : TG} {tt : TT} {te : TE} {vs : List Nat} {σ : L2.St} {H : Hp} {Q : VK} {Rel : Hp → V → α → Prop} (p : α → Bool) (st : Stays Rel) (hv1 : σ[i]? = some (some (.ref a))) (hv2 : σ[j]? = some (some (.ref b))) (hv3 : σ[m]? = some (some (.ref c)))
    (s1 : SqL K H a xs) (s2 : SqL K H b ys) (s3 : SqL K H c zs) (lx : xs.length = ls.length) (ly : ys.length = ls.length) (lz : zs.length = ls.length) (hl : ls.length ≤ 100000)
    (hs : ∀ (k : Nat) (l : α) (x y z : V) (T : Addr) (H2 : Hp) (R : VK) (N : Hp → Prop), ls[k]? = some l → xs[k]? = some x → ys[k]? = some y → zs[k]? = some z → Same H H2 → H2 T = some (.tup [x, y, z]) → (∀ u H3, p l = true → Same H2 H3 → Rel H3 u l → R u H3) → (∀ H3, p l = false → Same H2 H3 → N H3) → g (.ref T) (wipe σ vs) H2 fun σ2 H3 => wipe σ2 vs = wipe σ vs ∧ tt σ2 H3 fun b H4 => if b = true then te σ2 H4 R else N H4)
    (hd : ∀ D us H', H D = none → Same H H' → H' D = some (.lst us) → Told Rel H' us (ls.filter p) → Q (.ref D) H') : tLc (iZip3 K (tCons (tVar i) (tCons (tVar j) (tCons (tVar m) tNil)))) g tt te vs σ H Q := by
  refine ⟨_, hv1, _, hv2, _, hv3, a, b, c, xs, ys, zs, rfl, s1, s2, s3, fun D nD => lc_it (walk_zip3 lx ly lz) (fun k H' => ∃ us : List V, Same H H' ∧ H' D = some (.lst us) ∧ us.length ≤ k ∧ Told Rel H' us ((ls.take k).filter p)) ?_ (fun k H' _ ⟨_, e, _⟩ => ⟨e.seq s1, e.seq s2, e.seq s3⟩) ?_ ?_⟩
  · exact ⟨[], same_upd nD, upd_same, Nat.le_refl _, .nil⟩
  · rintro k v H' H2 hk ⟨us, e, hD, hu, t⟩ ⟨T, x, y, z, rfl, nT, rfl, hx, hy, hz⟩
    have hlk : ls[k]? = some ls[k] := List.getElem?_eq_getElem hk
    have e1 := same_upd (o := HO.tup [x, y, z]) nT
    refine hs k ls[k] x y z T _ (fun y H5 => ∃ acc, H5 D = some (.lst acc) ∧ acc.length < sizeLine ∧ ∃ us : List V, Same H (upd H5 D (.lst (acc ++ [y]))) ∧ upd H5 D (.lst (acc ++ [y])) D = some (.lst us) ∧ us.length ≤ k + 1 ∧ Told Rel (upd H5 D (.lst (acc ++ [y]))) us ((ls.take (k + 1)).filter p)) (fun H5 => ∃ us : List V, Same H H5 ∧ H5 D = some (.lst us) ∧ us.length ≤ k + 1 ∧ Told Rel H5 us ((ls.take (k + 1)).filter p)) hlk hx hy hz (Same.trans e e1) upd_same (fun u H3 c e3 r => ?_) fun H3 c e3 => ?_
    · have e13 := Same.trans e1 e3
      refine ⟨us, e13 _ _ hD, Evl.sz_lt (by omega), us ++ [u], Same.grow (Same.trans e e13) nD, upd_same, by rw [List.length_append]; exact Nat.succ_le_succ hu, ?_⟩
      rw [take_succ hlk, List.filter_append, List.filter_cons_of_pos c, List.filter_nil]
      exact ((t.same st e13).snoc r).up st (e13 _ _ hD)
    · have e13 := Same.trans e1 e3
      refine ⟨us, Same.trans e e13, e13 _ _ hD, by omega, ?_⟩
      rw [take_succ hlk, List.filter_append, List.filter_cons_of_neg (by rw [c]; exact Bool.false_ne_true), List.filter_nil, List.append_nil]
      exact t.same st e13
  · rintro H' ⟨us, e, hD, _, t⟩
    rw [List.take_length] at t
    exact hd D us H' nD e hD t
end Bk

namespace Bk
open PySem PySem.Spec PyProof.Rows L2
theorem ans_le {sz : List Str → Rat} {f g : List Str → Int} {ls : List (List Str)} (hs : ∀ l ∈ ls, 0 ≤ (sz l).num) (h : ∀ l ∈ ls, f l ≤ g l) : ansQ ls sz f ≤ ansQ ls sz g := by
  unfold ansQ sumQ
  have all : ∀ (ls : List (List Str)) (a b : Rat), (∀ l ∈ ls, 0 ≤ (sz l).num) → (∀ l ∈ ls, f l ≤ g l) → a ≤ b → (ls.map fun l => sz l * ((f l : Int) : Rat)).foldl (fun a b => a + b) a ≤ (ls.map fun l => sz l * ((g l : Int) : Rat)).foldl (fun a b => a + b) b := by
    intro ls
    induction ls with
    | nil => intro a b _ _ h; exact h
    | cons l r ih =>
      intro a b h1 h2 h3
      rw [List.map_cons, List.map_cons, List.foldl_cons, List.foldl_cons]
      refine ih _ _ (fun l m => h1 l (List.mem_cons_of_mem _ m)) (fun l m => h2 l (List.mem_cons_of_mem _ m)) ?_
      have m1 : sz l * ((f l : Int) : Rat) ≤ sz l * ((g l : Int) : Rat) := Rat.mul_le_mul_of_nonneg_left (Rat.intCast_le_intCast.mpr (h2 l List.mem_cons_self)) (Rat.num_nonneg.mp (h1 l List.mem_cons_self))
      exact Rat.le_trans (Rat.add_le_add_right.mpr h3) (Rat.add_le_add_left.mpr m1)
  exact all ls 0 0 hs h Rat.le_refl
theorem sameQ_refl {ls : List (List Str)} (sz : List Str → Rat) : sameQ (tabQ ls sz) (tabQ ls sz) = true := by
  unfold sameQ
  simp only [beq_self_eq_true, Bool.true_and]
  rw [List.all_eq_true]
  intro p hp
  unfold tabQ at hp
  obtain ⟨l, m, rfl⟩ := List.mem_map.mp hp
  obtain ⟨m1, m2⟩ := List.mem_filter.mp m
  refine decide_eq_true ?_
  show getQ (tabQ ls sz) (l.map Sum.inr) = some (sz l)
  rw [getQ_tab, if_pos ⟨m1, of_decide_eq_true m2⟩]
/-- the lots at which f is above g -/
def aboveL (ls : List (List Str)) (f g : List Str → Int) : List (List Str) := ls.filter fun l => decide (g l < f l)
theorem above_nil {ls : List (List Str)} {f g : List Str → Int} : (aboveL ls f g).isEmpty = ls.all fun l => decide (f l ≤ g l) := by
  unfold aboveL
  induction ls with
  | nil => rfl
  | cons l r ih =>
    rw [List.all_cons]
    by_cases c : g l < f l
    · rw [List.filter_cons_of_pos (p := fun l => decide (g l < f l)) (decide_eq_true c), decide_eq_false (by omega), Bool.false_and]
      rfl
    · rw [List.filter_cons_of_neg (by simpa using c), ih, decide_eq_true (show f l ≤ g l by omega), Bool.true_and]
theorem above_le {ls : List (List Str)} {f g : List Str → Int} (h : aboveL ls f g = []) : ∀ l ∈ ls, f l ≤ g l := by
  have e := above_nil (ls := ls) (f := f) (g := g)
  rw [h] at e
  have e : ls.all (fun l => decide (f l ≤ g l)) = true := e.symm
  intro l m
  exact of_decide_eq_true (List.all_eq_true.mp e l m)
theorem above_of {ls : List (List Str)} {f g : List Str → Int} (h : ∀ l ∈ ls, f l ≤ g l) : aboveL ls f g = [] := by
  unfold aboveL
  rw [List.filter_eq_nil_iff]
  intro l m z
  have := h l m
  have := of_decide_eq_true z
  omega
theorem above_head {ls : List (List Str)} {f g : List Str → Int} {l : List Str} (h : ls.find? (fun l => decide (g l < f l)) = some l) : (aboveL ls f g)[0]? = some l := by
  unfold aboveL
  rw [← List.head?_eq_getElem?, List.head?_filter]
  exact h
theorem lay_lotsL : ∀ {ls : List (List Str)}, (∀ l ∈ ls, ∀ z ∈ l, isNameS z = true) → PyData.canLayAll0 (ls.map fun l => PyData.tuple (l.map PyData.str)) = true
  | [], _ => by simp [PyData.canLayAll0]
  | l :: r, h => by
    have := lay_lotsL (ls := r) fun x m => h x (List.mem_cons_of_mem _ m)
    have h2 := lay_strs l (h l List.mem_cons_self)
    simp [PyData.canLayAll0, PyData.canLay0, this, h2]
theorem depth_lotsL : ∀ ls : List (List Str), PyData.depthAll (ls.map fun l => PyData.tuple (l.map PyData.str)) ≤ 1
  | [] => by simp [PyData.depthAll]
  | l :: r => by
    have := depth_lotsL r
    have h := depth_strs l
    simp [PyData.depthAll, PyData.depth, h]
    omega
theorem shaped_lots {ls : List (List Str)} (h : ∀ l ∈ ls, ∀ z ∈ l, isNameS z = true) : SeqAt.shaped (dLots ls) = true := by
  have h1 := lay_lotsL h
  have h2 := depth_lotsL ls
  have h3 : 1 + PyData.depthAll (ls.map fun l => PyData.tuple (l.map PyData.str)) ≤ 64 := by omega
  have h4 : PyData.depthAll (ls.map fun l => PyData.tuple (l.map PyData.str)) + 1 ≤ 64 := by omega
  simp [SeqAt.shaped, dLots, PyData.canLay0, PyData.depth, h1, h3, h4]
theorem eqv_nilL (ls : List (List Str)) : PyData.eqv (dLots ls) (.list []) = ls.isEmpty := by
  unfold dLots
  cases ls <;> simp [PyData.eqv, PyData.eqvAll]
theorem eqv_intsL : ∀ a b : List Int, PyData.eqvAll (a.map PyData.int) (b.map PyData.int) = decide (a = b)
  | [], [] => by simp [PyData.eqvAll]
  | [], _ :: _ => by simp [PyData.eqvAll]
  | _ :: _, [] => by simp [PyData.eqvAll]
  | x :: r, y :: t => by
    have ih := eqv_intsL r t
    simp only [List.map_cons, PyData.eqvAll, PyData.eqv, ih]
    by_cases h1 : x = y
    · subst h1
      by_cases h2 : r = t
      · subst h2
        simp
      · simp [h2]
    · simp [h1]
theorem eqv_rows (a b : List Int) : PyData.eqv (.list (a.map PyData.int)) (.list (b.map PyData.int)) = decide (a = b) := by
  simp [PyData.eqv, eqv_intsL]
/-- whether two questions count alike, by their rows -/
theorem same_rows {ch : Bool} {zs : List Str} (nz : zs.Nodup) (f g : List Str → Int) : sameT (tableOf ch zs f) (tableOf ch zs g) = decide ((lotsFor ch zs).map f = (lotsFor ch zs).map g) := by
  by_cases h : ∀ l ∈ lotsFor ch zs, f l = g l
  · rw [sameT_eq h, decide_eq_true (List.map_congr_left h)]
  · have h1 : sameT (tableOf ch zs f) (tableOf ch zs g) = false := by
      cases e : sameT (tableOf ch zs f) (tableOf ch zs g) with
      | false => rfl
      | true => exact absurd (sameT_ne nz e) h
    rw [h1, decide_eq_false]
    intro e
    exact h fun l m => List.map_inj_left.mp e l m
theorem merge_zipL {ls : List (List Str)} (f : List Str → Int) (nd : ls.Nodup) : mergeT [] ((ls.map fun l => (l.map Sum.inr : List Key)).zip (ls.map fun l => V.int (f l))) = tabV (tabL ls f) := by
  have e : (ls.map fun l => (l.map Sum.inr : List Key)).zip (ls.map fun l => V.int (f l)) = tabV (tabL ls f) := by
    rw [List.zip_map']
    unfold tabV tabL
    rw [List.map_map]
    rfl
  rw [e]
  exact merge_lots f ls [] nd
theorem ats_refs {H : Hp} : ∀ {ls : List (List Str)} {ws : List V}, Ats H (fun l : List Str => l.map V.str) ws ls → ∃ ps : List Addr, ws = ps.map V.ref ∧ Paired (fun p k => H p = some (.tup (k.map kV))) ps (ls.map fun l => (l.map Sum.inr : List Key))
  | [], [], _ => ⟨[], rfl, .nil⟩
  | [], _ :: _, t => by cases t.1
  | _ :: _, [], t => by cases t.1
  | l :: r, u :: us, t => by
    obtain ⟨b, rfl, h1⟩ := t.2 0 u l rfl rfl
    obtain ⟨ps, rfl, hp⟩ := ats_refs (ls := r) (ws := us) ⟨Nat.succ.inj t.1, fun k u l a b => t.2 (k + 1) u l a b⟩
    exact ⟨b :: ps, rfl, .cons (by rw [str_key]; exact h1) hp⟩
theorem LotAt.kept {H H' : Hp} {st c : Addr} {n : Nat} {u : V} {l : List Str} (h : LotAt H u l) (S : Strm H st c n) (k : Kept st c H H') : LotAt H' u l := by
  obtain ⟨b, rfl, h⟩ := h
  exact ⟨b, rfl, S.hold k h (fun _ z => nomatch z)⟩
/-- what a turn knows, with the lots above and below -/
structure Tw (C CQ P0 : Addr) (q : Str) (H : Hp) (st c nl x D q1 q2 r1 r2 ab bl : Addr) (ua ub : List V) (zs : List Str) (ch : Bool) (ws : List V) (f g : List Str → Int) (n : Nat) : Prop where
  t : Tn C CQ P0 q H st c nl x x D q1 q2 r1 r2 zs ch ws f g n
  ha : H ab = some (.lst ua)
  a1 : ab ≠ st
  a2 : ab ≠ c
  ta : Told LotAt H ua (aboveL (lotsFor ch zs) f g)
  hb : H bl = some (.lst ub)
  b1 : bl ≠ st
  b2 : bl ≠ c
  tb : Told LotAt H ub (aboveL (lotsFor ch zs) g f)
section
variable {C CQ P0 : Addr} {q : Str} {H H' : Hp} {st c nl x D q1 q2 r1 r2 ab bl : Addr} {ua ub : List V} {zs : List Str} {ch : Bool} {ws : List V} {f g : List Str → Int} {n n' : Nat}
theorem Tw.same (h : Tw C CQ P0 q H st c nl x D q1 q2 r1 r2 ab bl ua ub zs ch ws f g n) (e : Same H H') : Tw C CQ P0 q H' st c nl x D q1 q2 r1 r2 ab bl ua ub zs ch ws f g n :=
  ⟨h.t.same e, e _ _ h.ha, h.a1, h.a2, h.ta.same stays_lot e, e _ _ h.hb, h.b1, h.b2, h.tb.same stays_lot e⟩
theorem Tw.kept (h : Tw C CQ P0 q H st c nl x D q1 q2 r1 r2 ab bl ua ub zs ch ws f g n) (S : Strm H' st c n') (k : Kept st c H H') : Tw C CQ P0 q H' st c nl x D q1 q2 r1 r2 ab bl ua ub zs ch ws f g n' :=
  ⟨h.t.kept S k, k _ _ h.a1 h.a2 h.ha, h.a1, h.a2, h.ta.imp fun _ _ z => z.kept h.t.S k, k _ _ h.b1 h.b2 h.hb, h.b1, h.b2, h.tb.imp fun _ _ z => z.kept h.t.S k⟩
end
end Bk

namespace Bk
open PySem PySem.Spec PyProof.Rows L2 LamX StX
def qL : Str := (envOfC "law" (defScope (topS 77)) 0 0 .none).qual ++ "<lambda>"
def spLaw (K : PySem.W.Frag) (T : List (Addr × Str)) : Sp := fun vs H Q _ => ∃ (a : Addr) (ns : List Int), vs = [.ref a] ∧ SqL K H a (ns.map V.int) ∧ Tabs T H ∧ ∀ H', Q (.bl true) H'
section
variable {P : Program} {w : World} {K : PySem.W.Frag} {mg : Str → Option Value} {base : Heap}
theorem scLaw : FnScope ["_law_script", "_law_stream", "_law_turn", "_law_names_here", "_law_is_chain", "_law_house", "_law_lots", "_law_one", "_law_row", "_law_other", "_law_more", "_law_x", "_law_above", "_law_lot", "_law_y", "_law_below", "_law_found", "_law_k", "_law_sizes", "_law_store", "_law_values", "_law_first", "_law_second", "_law_lots_more", "_law_away", "_law_strange"] ["_law_script"] (defScope (topS 77)) := ⟨rfl, rfl, rfl, by decide +kernel, rfl, by decide +kernel, by decide +kernel⟩
theorem ok_law (B : Bi mg) {C CB CS CU CW CQ fF fQ fQE fS fSE fC fL fW g_t f c P0 f1 f2 f3 f4 f5 f6 f7 f8 f9 f10 f11 f12 f13 : Addr} {fdF fdQ fdQE fdS fdSE fdL fd_t fd fd1 fd2 fd3 fd4 fd5 fd6 fd7 fd8 fd9 fd10 fd11 fd12 fd13 : FuncData} {gk : List Value → List Value → List Value} (T : FolT K mg C fF) (TQ : QueT K mg CQ fQ) (TS : StoT K mg CS fS) (TU : BareT K mg "UnlikeFolders" CU) (TW : ExT K mg "Wrong" CW fW "weights")
    (uu : PySem.W.exmOne K (.ref CU) (.ref CU) = some true) (uw : PySem.W.exmOne K (.ref CU) (.ref CW) = some false)
    (GF : FnOk P w K mg base (L2.CX P w) 3 fF fdF ["self", "names", "chain"] (spFolders K C CB)) (bK : KBn K fdF ["self", "names", "chain"] 2 ["chain"] gk (fun vs zs => vs ++ zs))
    (GQ : FnOk P w K mg base CX0 4 fQ fdQ ["self", "folders", "weights"] (spQuest K C CQ)) (bQ : Binds K fdQ ["self", "folders", "weights"] [])
    (GQE : FnOk P w K mg base CX0 2 fQE fdQE ["self", "other"] (spQEq K C CQ)) (bQE : Binds K fdQE ["self", "other"] []) (mQE : Own K CQ "__eq__" fQE) (cQE : eqCls K CQ fQE = true) (nQ : PySem.W.notFirst K CQ (.ref CQ) = true) (tQ : ∀ (H : Hp) (x dx : Addr) (fs : List (Str × V)), H x = some (.ins CQ dx fs) → TyX K H (.ref x) (.ref CQ))
    (GLe : FnOk P w K mg base CX0 5 fL fdL ["self", "other"] (spLe C CQ)) (bL : Binds K fdL ["self", "other"] []) (mL : Own K CQ "__le__" fL)
    (GS : FnOk P w K mg base CX0 4 fS fdS ["self", "folders", "sizes"] (spStore K C CS)) (bS : Binds K fdS ["self", "folders", "sizes"] [])
    (GSE : FnOk P w K mg base CX0 2 fSE fdSE ["self", "other"] (spSEq K C CS)) (bSE : Binds K fdSE ["self", "other"] []) (mSE : Own K CS "__eq__" fSE) (cSE : eqCls K CS fSE = true)
    (GC : FnR P w K mg base CX0 5 fC (spCall K C CS CQ)) (cO : CallO K CS fC)
    (F_ref : Fun K "_law_k_refused" "_law_k_refused" (topS 76) g_t fd_t) (g_ref : mg "_law_k_refused" = some (.ref g_t)) (b_ref : Binds K fd_t ["_law_ask"] []) (TBp : TabB base mg c P0)
    (c__law_start : Cal P w K mg base CX0 1 "_law_start" f1 fd1 ["_law_script"] (spStart K)) (c__law_draw : Cal P w K mg base CX0 1 "_law_draw" f2 fd2 ["_law_stream", "_law_many"] spDraw) (c__law_pick : Cal P w K mg base CX0 2 "_law_pick" f3 fd3 ["_law_stream", "_law_some"] (spPick K)) (c__law_b_house : Cal P w K mg base CX0 9 "_law_b_house" f4 fd4 ["_law_stream", "_law_most"] (spHouse K C)) (c__law_q_drawn : Cal P w K mg base CX0 10 "_law_q_drawn" f5 fd5 ["_law_stream", "_law_house", "_law_names_here", "_law_lots"] (spAsked K C CQ))
    (c__law_same : Cal P w K mg base CX0 5 "_law_same" f8 fd8 ["_law_found", "_law_due"] (spSame K 4)) (c__law_spare : Cal P w K mg base CX0 1 "_law_spare" f10 fd10 ["_law_names_here"] (spSpare K))
    (c__law_b_sizes : Cal P w K mg base CX0 3 "_law_b_sizes" f6 fd6 ["_law_stream", "_law_lots", "_law_bottoms"] (spSizes K)) (c__law_b_store : Cal P w K mg base CX0 6 "_law_b_store" f7 fd7 ["_law_stream", "_law_house", "_law_lots", "_law_sizes"] (spBStore K C CS)) (c__law_b_answer : Cal P w K mg base CX0 3 "_law_b_answer" f9 fd9 ["_law_row", "_law_sizes"] (spAnswer K)) (c__law_f_below : Cal P w K mg base CX0 1 "_law_f_below" f12 fd12 ["_law_x", "_law_y"] (spBelow K))
    (c_more_at : Cal P w K mg base CX0 6 "more_at" f13 fd13 ["one", "other"] (spMoreAt K C CS CQ)) (u_more_at : Cal P w K mg base (L2N.CX P w) 6 "more_at" f13 fd13 ["one", "other"] (spTwoU C CQ CU))
    (c_whole : Cal P w K mg base CX0 7 "whole" f11 fd11 ["folders"] (spWhole C CQ))
    (F : Fun K "law" "law" (topS 77) f fd) (hcd : fd.code = .ref c) : FnOk P w K mg base CX0 12 f fd ["_law_script"] (spLaw K [(P0, qL)]) := by
  refine Fun.okC F hcd scLaw (fun vs H Q E h => ?_) (fun A outer s H vs Q E hr h => ?_)
  · obtain ⟨a, ns, rfl, _⟩ := h
    rfl
  · obtain ⟨a, ns, rfl, hS, hT, q⟩ := h
    have nd := scLaw.nd
    have hu := hu_of hr
    have hmT : (P0, qL) ∈ [(P0, qL)] := List.mem_singleton.mpr rfl
    have huT : ∀ p ∈ [(P0, qL)], p.1 = P0 → p.2 = qL := fun p hp _ => by rw [List.mem_singleton.mp hp]
    have hr__law_q_drawn : Room 10 _ := hr.mono (by decide)
    have hr__law_b_house : Room 9 _ := hr.mono (by decide)
    have hr_whole : Room 7 _ := hr.mono (by decide)
    have hr_more_at : Room 6 _ := hr.mono (by decide)
    have hr__law_b_store := hr_more_at
    have hr__law_same : Room 5 _ := hr.mono (by decide)
    have hrQ := hr__law_same
    have hrC := hr__law_same
    have hrLe := hr__law_same
    have hrF : Room 4 _ := hr.mono (by decide)
    have hrQN : Room 3 _ := hr.mono (by decide)
    have hrE2 : Room 2 _ := hr.mono (by decide)
    have hr__law_b_sizes := hrQN
    have hr__law_b_answer := hrQN
    have hr__law_pick := hrE2
    have hr__law_start : Room 1 _ := hr.mono (by decide)
    have hr__law_draw := hr__law_start
    have hr__law_spare := hr__law_start
    have hr__law_f_below := hr__law_start
    refine ⟨_, (Evl.pss_cut (ps_set (i := 1) nd rfl (Or.inr rfl) (pe_call c__law_start.ok hr__law_start (by rfl) c__law_start.g c__law_start.kp c__law_start.b .nil pass0 (pa_cons (pv 0) pa_nil)))
      (pss_cons (ps_for PassesOwn.never rfl (pi_range1 (by rfl) B.range (pa_cons pe_int pa_nil)) (pg_name (i := 2) nd rfl (Or.inl rfl)) (Evl.pss_cut (ps_asg (pe_call c__law_b_house.ok hr__law_b_house (by rfl) c__law_b_house.g c__law_b_house.kp c__law_b_house.b .nil pass0 (pa_cons (pv 1) (pa_cons pe_int pa_nil))) (kTg K 4 rfl (pgs_cons (pg_name (i := 3) nd rfl (Or.inl rfl)) (pgs_cons (pg_name (i := 4) nd rfl (Or.inl rfl)) (pgs_cons (pg_name (i := 5) nd rfl (Or.inl rfl)) (pgs_cons (pg_name (i := 6) nd rfl (Or.inl rfl)) pgs_nil))))))
      (Evl.pss_cut (ps_asg (pe_call c__law_q_drawn.ok hr__law_q_drawn (by rfl) c__law_q_drawn.g c__law_q_drawn.kp c__law_q_drawn.b .nil pass0 (pa_cons (pv 1) (pa_cons (pv 5) (pa_cons (pv 3) (pa_cons (pv 6) pa_nil))))) (kTg K 2 rfl (pgs_cons (pg_name (i := 7) nd rfl (Or.inr rfl)) (pgs_cons (pg_name (i := 8) nd rfl (Or.inl rfl)) pgs_nil))))
      (Evl.pss_cut (ps_asg (pe_call c__law_q_drawn.ok hr__law_q_drawn (by rfl) c__law_q_drawn.g c__law_q_drawn.kp c__law_q_drawn.b .nil pass0 (pa_cons (pv 1) (pa_cons (pv 5) (pa_cons (pv 3) (pa_cons (pv 6) pa_nil))))) (kTg K 2 rfl (pgs_cons (pg_name (i := 9) nd rfl (Or.inl rfl)) (pgs_cons (pg_name (i := 10) nd rfl (Or.inl rfl)) pgs_nil))))
      (Evl.pss_cut (ps_if (pt_cmpR op_eq (pe_call c__law_draw.ok hr__law_draw (by rfl) c__law_draw.g c__law_draw.kp c__law_draw.b .nil pass0 (pa_cons (pv 1) (pa_cons pe_int pa_nil))) pe_int (nomark _)) (pss_cons (ps_setLc (i := 10) (own := [("_law_x", 11)]) rfl nd rfl rfl (sw_true rfl rfl rfl (by decide +kernel)) (kPiL K (pv 8)) (blkOk_by (N := ["_law_script", "_law_stream", "_law_turn", "_law_names_here", "_law_is_chain", "_law_house", "_law_lots", "_law_one", "_law_row", "_law_other", "_law_more", "_law_x", "_law_above", "_law_lot", "_law_y", "_law_below", "_law_found", "_law_k", "_law_sizes", "_law_store", "_law_values", "_law_first", "_law_second", "_law_lots_more", "_law_away", "_law_strange"]) (sc := defScope (topS 77)) (by decide +kernel)) (fun _ _ _ _ _ => (pg_name (i := 11) nd rfl (Or.inl rfl))) (fun _ _ _ _ _ => pts_nil) (fun _ _ _ _ _ => (pe_op op_add (pv 11) (pe_call c__law_pick.ok hr__law_pick (by rfl) c__law_pick.g c__law_pick.kp c__law_pick.b .nil pass0 (pa_cons (pv 1) (pa_cons (pe_lst (pa_cons pe_int (pa_cons pe_int (pa_cons pe_int (pa_cons pe_int (pa_cons pe_int (pa_cons (pe_un un_neg pe_int) pa_nil))))))) pa_nil))))))
      (pss_one (ps_set (i := 9) nd rfl (Or.inl rfl) (pe_make TQ.make GQ hrQ (by rfl) TQ.g bQ .nil pass0 (pa_cons (pv 5) (pa_cons (pe_dictZip (by rfl) B.dict (by rfl) B.zip (pa_cons (pv 6) (pa_cons (pv 10) pa_nil)) rfl hr.units) pa_nil)))))) pss_nil)
      (Evl.pss_cut (ps_setLc (i := 12) (own := [("_law_lot", 13), ("_law_x", 11), ("_law_y", 14)]) rfl nd rfl rfl (sw_true rfl rfl rfl (by decide +kernel)) (kPiZ3 K (by rfl) B.zip (pa_cons (pv 6) (pa_cons (pv 8) (pa_cons (pv 10) pa_nil)))) (blkOk_by (N := ["_law_script", "_law_stream", "_law_turn", "_law_names_here", "_law_is_chain", "_law_house", "_law_lots", "_law_one", "_law_row", "_law_other", "_law_more", "_law_x", "_law_above", "_law_lot", "_law_y", "_law_below", "_law_found", "_law_k", "_law_sizes", "_law_store", "_law_values", "_law_first", "_law_second", "_law_lots_more", "_law_away", "_law_strange"]) (sc := defScope (topS 77)) (by decide +kernel)) (fun _ _ _ _ _ => (kTg K 3 rfl (pgs_cons (pg_name (i := 13) nd rfl (Or.inl rfl)) (pgs_cons (pg_name (i := 11) nd rfl (Or.inl rfl)) (pgs_cons (pg_name (i := 14) nd rfl (Or.inl rfl)) pgs_nil))))) (fun _ _ _ _ _ => (pts_one (pt_cmpR op_gt (pv 11) (pv 14) (nomark _)))) (fun _ _ _ _ _ => (pv 13)))
      (Evl.pss_cut (ps_setLc (i := 15) (own := [("_law_lot", 13), ("_law_x", 11), ("_law_y", 14)]) rfl nd rfl rfl (sw_true rfl rfl rfl (by decide +kernel)) (kPiZ3 K (by rfl) B.zip (pa_cons (pv 6) (pa_cons (pv 8) (pa_cons (pv 10) pa_nil)))) (blkOk_by (N := ["_law_script", "_law_stream", "_law_turn", "_law_names_here", "_law_is_chain", "_law_house", "_law_lots", "_law_one", "_law_row", "_law_other", "_law_more", "_law_x", "_law_above", "_law_lot", "_law_y", "_law_below", "_law_found", "_law_k", "_law_sizes", "_law_store", "_law_values", "_law_first", "_law_second", "_law_lots_more", "_law_away", "_law_strange"]) (sc := defScope (topS 77)) (by decide +kernel)) (fun _ _ _ _ _ => (kTg K 3 rfl (pgs_cons (pg_name (i := 13) nd rfl (Or.inl rfl)) (pgs_cons (pg_name (i := 11) nd rfl (Or.inl rfl)) (pgs_cons (pg_name (i := 14) nd rfl (Or.inl rfl)) pgs_nil))))) (fun _ _ _ _ _ => (pts_one (pt_cmpR op_lt (pv 11) (pv 14) (nomark _)))) (fun _ _ _ _ _ => (pv 13)))
      (Evl.pss_cut (ps_set (i := 16) nd rfl (Or.inl rfl) (pe_lst (pa_cons (pe_cmpR (kLeOwn K GLe bL pass0 hrLe mL) (pv 7) (pv 9) (nomark _)) (pa_cons (pe_cmpR (kLeOwn K GLe bL pass0 hrLe mL) (pv 9) (pv 7) (nomark _)) (pa_cons (pe_cmpR (kEqOwn K GQE bQE pass0 hrE2 mQE) (pv 7) (pv 9) (nomark _)) (pa_cons (pe_cmpR (op_neOwn GQE bQE pass0 hrQN cQE mQE.fn) (pv 7) (pv 9) (nomark _)) pa_nil))))))
      (Evl.pss_cut (ps_if (pt_not (pt_val (pe_call c__law_same.ok hr__law_same (by rfl) c__law_same.g c__law_same.kp c__law_same.b .nil pass0 (pa_cons (pv 16) (pa_cons (pe_lst (pa_cons (pe_cmpR (kEqD K hr.units) (pv 12) (pe_lst pa_nil) (nomark _)) (pa_cons (pe_cmpR (kEqD K hr.units) (pv 15) (pe_lst pa_nil) (nomark _)) (pa_cons (pe_cmpR (kEqD K hr.units) (pv 8) (pv 10) (nomark _)) (pa_cons (pe_cmpR (kNeD K hr.units) (pv 8) (pv 10) (nomark _)) pa_nil))))) pa_nil))))) (pss_one (ps_ret pe_bl)) pss_nil)
      (Evl.pss_cut (ps_for PassesOwn.never rfl (pi_range1 (by rfl) B.range (pa_cons pe_int pa_nil)) (pg_name (i := 17) nd rfl (Or.inl rfl)) (Evl.pss_cut (ps_set (i := 18) nd rfl (Or.inl rfl) (pe_call c__law_b_sizes.ok hr__law_b_sizes (by rfl) c__law_b_sizes.g c__law_b_sizes.kp c__law_b_sizes.b .nil pass0 (pa_cons (pv 1) (pa_cons (pv 6) (pa_cons (pe_lst (pa_cons pe_int (pa_cons pe_int (pa_cons pe_int (pa_cons pe_int pa_nil))))) pa_nil)))))
      (Evl.pss_cut (ps_set (i := 19) nd rfl (Or.inl rfl) (pe_call c__law_b_store.ok hr__law_b_store (by rfl) c__law_b_store.g c__law_b_store.kp c__law_b_store.b .nil pass0 (pa_cons (pv 1) (pa_cons (pv 5) (pa_cons (pv 6) (pa_cons (pv 18) pa_nil))))))
      (Evl.pss_cut (ps_set (i := 20) nd rfl (Or.inl rfl) (pe_lst (pa_cons (pe_call c__law_b_answer.ok hr__law_b_answer (by rfl) c__law_b_answer.g c__law_b_answer.kp c__law_b_answer.b .nil pass0 (pa_cons (pv 8) (pa_cons (pv 18) pa_nil))) (pa_cons (pe_call c__law_b_answer.ok hr__law_b_answer (by rfl) c__law_b_answer.g c__law_b_answer.kp c__law_b_answer.b .nil pass0 (pa_cons (pv 10) (pa_cons (pv 18) pa_nil))) pa_nil))))
      (Evl.pss_cut (ps_if (pt_not (pt_val (pe_call c__law_same.ok hr__law_same (by rfl) c__law_same.g c__law_same.kp c__law_same.b .nil pass0 (pa_cons (pe_lst (pa_cons (pe_callO (pv 19) cO GC hrC pass0 (pa_cons (pv 7) pa_nil)) (pa_cons (pe_callO (pv 19) cO GC hrC pass0 (pa_cons (pv 9) pa_nil)) pa_nil))) (pa_cons (pv 20) pa_nil))))) (pss_one (ps_ret pe_bl)) pss_nil)
      (pss_one (ps_if (PW.pt (pw_and (pt_cmpR (kEqD K hr.units) (pv 12) (pe_lst pa_nil) (nomark _)) (pw_and1 (pt_val (pe_call c__law_f_below.ok hr__law_f_below (by rfl) c__law_f_below.g c__law_f_below.kp c__law_f_below.b .nil pass0 (pa_cons (pe_ix (kIxL K) (pv 20) pe_int (fun _ _ => rfl)) (pa_cons (pe_ix (kIxL K) (pv 20) pe_int (fun _ _ => rfl)) pa_nil))))))) (pss_one (ps_ret pe_bl)) pss_nil)))))))
      (Evl.pss_cut (ps_for PassesOwn.never rfl (kPiL K (pe_lst (pa_cons (pe_tup (pa_cons (pv 7) (pa_cons (pv 9) (pa_cons (pv 12) pa_nil)))) (pa_cons (pe_tup (pa_cons (pv 9) (pa_cons (pv 7) (pa_cons (pv 15) pa_nil)))) pa_nil)))) (kTg K 3 rfl (pgs_cons (pg_name (i := 21) nd rfl (Or.inl rfl)) (pgs_cons (pg_name (i := 22) nd rfl (Or.inl rfl)) (pgs_cons (pg_name (i := 23) nd rfl (Or.inl rfl)) pgs_nil)))) (Evl.pss_cut (ps_set (i := 16) nd rfl (Or.inl rfl) (pe_call c_more_at.ok hr_more_at (by rfl) c_more_at.g c_more_at.kp c_more_at.b .nil pass0 (pa_cons (pv 21) (pa_cons (pv 22) pa_nil))))
      (Evl.pss_cut (ps_if (pt_cmpR op_ne (pe_cmpR op_isN (pv 16) pe_non (nomark _)) (pe_cmpR (kEqD K hr.units) (pv 23) (pe_lst pa_nil) (nomark _)) (nomark _)) (pss_one (ps_ret pe_bl)) pss_nil)
      (pss_one (ps_if (PW.pt (pw_and (pt_cmpR op_notN (pv 16) pe_non (nomark _)) (pw_and1 (pt_cmpR (op_neOwn GSE bSE pass0 hrQN cSE mSE.fn) (pv 16) (pe_make TS.make GS hrQ (by rfl) TS.g bS .nil pass0 (pa_cons (pv 5) (pa_cons (pe_dispT hu (pps_cons (pe_ix (kIxL K) (pv 23) pe_int (fun _ _ => rfl)) pe_int pps_nil) (by rfl) (by rfl) (fun z => by cases z) (by decide)) pa_nil))) (nomark _))))) (pss_one (ps_ret pe_bl)) pss_nil)))))
      (Evl.pss_cut (ps_set (i := 24) nd rfl (Or.inl rfl) (pe_lst (pa_cons (pe_makeK T.make GF hrF (by rfl) T.g bK passL (pa_cons (pe_op op_cat (pv 3) (pe_lst (pa_cons (pe_call c__law_spare.ok hr__law_spare (by rfl) c__law_spare.g c__law_spare.kp c__law_spare.b .nil pass0 (pa_cons (pv 3) pa_nil)) pa_nil))) pa_nil) (pk_cons (pv 4) pk_nil)) (pa_cons (pe_makeK T.make GF hrF (by rfl) T.g bK passL (pa_cons (pv 3) pa_nil) (pk_cons (pe_not (pv 4)) pk_nil)) pa_nil))))
      (Evl.pss_cut (ps_set (i := 25) nd rfl (Or.inr rfl) (pe_call c_whole.ok hr_whole (by rfl) c_whole.g c_whole.kp c_whole.b .nil pass0 (pa_cons (pe_call c__law_pick.ok hr__law_pick (by rfl) c__law_pick.g c__law_pick.kp c__law_pick.b .nil pass0 (pa_cons (pv 1) (pa_cons (pv 24) pa_nil))) pa_nil)))
      (pss_one (ps_if (pt_cmpR (kNeD K hr.units) (pe_giveN F_ref (by rfl) g_ref b_ref scRefused rfl (.inl rfl) (fun cdv => refused_gives rfl rfl rfl rfl rfl TU TW uu uw cdv) TBp rfl hmT huT hr (lamS_by (sc := defScope (topS 77)) (by decide +kernel)) rfl (fun _ _ _ _ _ => rfl) (fun A outer s H E f c1 hrL => (pe_call u_more_at.ok (hrL.mono (show 6 ≤ 9 by decide)) (by rfl) u_more_at.g u_more_at.kp u_more_at.b .nil (L2N.passes_call (L2N.takes_of rfl rfl rfl rfl) (fun _ _ _ _ h => h)) (pa_cons (pe_var (i := 7) rfl (.inr (.inr rfl)) (by decide) (by decide)) (pa_cons (pe_var (i := 25) rfl (.inr (.inr rfl)) (by decide) (by decide)) pa_nil))))) (pe_tup (pa_cons pe_str pa_nil)) (nomark _)) (pss_one (ps_ret pe_bl)) pss_nil)))))))))))))))
      (pss_one (ps_ret pe_bl)))), ?_⟩
    -- the stream
    refine ⟨fun σ H1 => ∃ st c, σ = [some (.ref a), some (.ref st), none, none, none, none, none, none, none, none, none, none, none, none, none, none, none, none, none, none, none, none, none, none, none, none] ∧ Strm H1 st c 0 ∧ Tabs [(P0, qL)] H1, ?_, ?_⟩
    · exact ⟨_, rfl, a, ns, rfl, hS, fun st c H1 e1 nst nc S1 => ⟨st, c, rfl, S1, hT.ext e1⟩⟩
    rintro σ H1 ⟨st, c, rfl, S1, T1⟩
    refine ⟨6, rfl, by decide, by decide, ?_⟩
    refine for_it walk_range (fun i σ H1 => ∃ v2 v3 v4 v5 v6 v7 v8 v9 v10 v11 v12 v13 v14 v15 v16 v17 v18 v19 v20 v21 v22 v23 v24 v25, σ = [some (.ref a), some (.ref st), v2, v3, v4, v5, v6, v7, v8, v9, v10, v11, v12, v13, v14, v15, v16, v17, v18, v19, v20, v21, v22, v23, v24, v25] ∧ Strm H1 st c (5000 * i) ∧ Tabs [(P0, qL)] H1) ?_ (fun _ _ _ _ _ => trivial) ?_ ?_
    · exact ⟨_, _, _, _, _, _, _, _, _, _, _, _, _, _, _, _, _, _, _, _, _, _, _, _, rfl, S1, T1⟩
    · rintro i y σ H0 H1 hi ⟨v2, v3, v4, v5, v6, v7, v8, v9, v10, v11, v12, v13, v14, v15, v16, v17, v18, v19, v20, v21, v22, v23, v24, v25, rfl, S, TT⟩ ⟨rfl, rfl⟩
      have hi : i < 6 := by simpa using hi
      -- the house
      refine ⟨fun σ H2 => ∃ (nl x D : Addr) (zs : List Str) (ch : Bool) (ws : List V), σ = [some (.ref a), some (.ref st), some (.int (0 + (i : Int))), some (.ref nl), some (.bl ch), some (.ref x), some (.ref D), v7, v8, v9, v10, v11, v12, v13, v14, v15, v16, v17, v18, v19, v20, v21, v22, v23, v24, v25] ∧ HouseAt C H2 st c nl x D zs ch ws ∧ zs.length ≤ 4 ∧ Strm H2 st c (5000 * i + 203) ∧ Tabs [(P0, qL)] H2, ?_, ?_⟩
      · refine ⟨_, rfl, st, c, 5000 * i, 4, rfl, S, by omega, by decide, by decide, fun p nl x D zs ch ws H2 np nnl nx nD hl hp HA S2 k2 => ?_⟩
        exact ⟨p, _, rfl, SqT.of hp, rfl, _, _, rfl, _, _, rfl, _, _, rfl, _, _, rfl, rfl, nl, x, D, zs, ch, ws, rfl, HA, hl, S2, tabs_kept TT S k2⟩
      rintro σ H2 ⟨nl, x, D, zs, ch, ws, rfl, HA2, z4, S2, TT2⟩
      have few : (lotsFor ch zs).length ≤ 16 := lots_16 z4
      -- a question
      refine ⟨fun σ H3 => ∃ (q1 r1 : Addr) (f : List Str → Int), σ = [some (.ref a), some (.ref st), some (.int (0 + (i : Int))), some (.ref nl), some (.bl ch), some (.ref x), some (.ref D), some (.ref q1), some (.ref r1), v9, v10, v11, v12, v13, v14, v15, v16, v17, v18, v19, v20, v21, v22, v23, v24, v25] ∧ HouseAt C H3 st c nl x D zs ch ws ∧ Strm H3 st c (5000 * i + 2303) ∧ Tabs [(P0, qL)] H3 ∧ QuestAt C CQ H3 q1 x zs ch f ∧ H3 r1 = some (.lst ((lotsFor ch zs).map fun l => V.int (f l))) ∧ r1 ≠ st ∧ r1 ≠ c ∧ (∀ l, -3 ≤ f l ∧ f l ≤ 3), ?_, ?_⟩
      · refine ⟨_, rfl, _, rfl, _, rfl, _, rfl, st, c, x, nl, D, 5000 * i + 203, zs, ch, ws, rfl, HA2, S2, by omega, fun p q1 r1 f H3 np nq nr hp QA hr3 bd S3 k3 => ?_⟩
        obtain ⟨n1, n2⟩ := S2.notfree nr
        exact ⟨p, _, rfl, SqT.of hp, rfl, _, _, rfl, _, _, rfl, rfl, q1, r1, f, rfl, HA2.kept S2 k3, S3, tabs_kept TT2 S2 k3, QA, hr3, n1, n2, bd⟩
      rintro σ H3 ⟨q1, r1, f, rfl, HA3, S3, TT3, QA3, hr3, n1, n2, bf⟩
      -- another one
      refine ⟨fun σ H4 => ∃ (q2 r2 : Addr) (g : List Str → Int), σ = [some (.ref a), some (.ref st), some (.int (0 + (i : Int))), some (.ref nl), some (.bl ch), some (.ref x), some (.ref D), some (.ref q1), some (.ref r1), some (.ref q2), some (.ref r2), v11, v12, v13, v14, v15, v16, v17, v18, v19, v20, v21, v22, v23, v24, v25] ∧ Tn C CQ P0 qL H4 st c nl x x D q1 q2 r1 r2 zs ch ws f g (5000 * i + 4403) ∧ ∀ l, -4 ≤ g l ∧ g l ≤ 4, ?_, ?_⟩
      · refine ⟨_, rfl, _, rfl, _, rfl, _, rfl, st, c, x, nl, D, 5000 * i + 2303, zs, ch, ws, rfl, HA3, S3, by omega, fun p q2 r2 g H5 np nq nr hp QB hr5 bg S5 k5 => ?_⟩
        obtain ⟨m1, m2⟩ := S3.notfree nr
        exact ⟨p, _, rfl, SqT.of hp, rfl, _, _, rfl, _, _, rfl, rfl, q2, r2, g, rfl, ⟨HA3.kept S3 k5, S5, QA3.kept S3 k5, QB, k5 _ _ n1 n2 hr3, hr5, n1, n2, m1, m2, bf, tabs_kept TT3 S3 k5⟩, fun l => by have := bg l; omega⟩
      rintro σ H4 ⟨q2', r2', g', rfl, t4, bg'⟩
      have nz := t4.ho.nd
      have lz := t4.ho.le
      have nm := t4.ho.ok
      have wsl : ws.length = (lotsFor ch zs).length := t4.ho.at_.1
      have lm : ∀ h : List Str → Int, ((lotsFor ch zs).map fun l => V.int (h l)).length = (lotsFor ch zs).length := fun h => List.length_map ..
      -- often a like one instead
      refine ⟨fun σ H5 => ∃ (q2 r2 : Addr) (g : List Str → Int) (v11 : Option V), σ = [some (.ref a), some (.ref st), some (.int (0 + (i : Int))), some (.ref nl), some (.bl ch), some (.ref x), some (.ref D), some (.ref q1), some (.ref r1), some (.ref q2), some (.ref r2), v11, v12, v13, v14, v15, v16, v17, v18, v19, v20, v21, v22, v23, v24, v25] ∧ Tn C CQ P0 qL H5 st c nl x x D q1 q2 r1 r2 zs ch ws f g (5000 * i + 4420) ∧ ∀ l, -4 ≤ g l ∧ g l ≤ 4, ?_, ?_⟩
      · refine ⟨_, rfl, st, c, 5000 * i + 4403, 2, rfl, t4.S, by omega, by decide, by decide, fun d H5 d0 d2 S5 k5 => ?_⟩
        have t5 := t4.kept S5 k5
        refine ⟨rfl, _, rfl, ?_⟩
        refine ite2 (fun _ => ?_) (fun _ => ⟨q2', r2', g', v11, rfl, t5.kept (S5.more (by omega)) (Kept.refl _ _ _), bg'⟩)
        refine tasg_go ?_
        refine ⟨_, rfl, r1, rfl, ⟨_, SqL.of t5.h1⟩, fun D0 nD0 => ?_⟩
        obtain ⟨e1, e2⟩ := S5.notfree nD0
        refine lc_it walk_list (fun k H6 => ∃ ns : List Int, ns.length = k ∧ (∀ m ∈ ns, -4 ≤ m ∧ m ≤ 4) ∧ H6 D0 = some (.lst (ns.map V.int)) ∧ Strm H6 st c (5000 * i + 4404 + k) ∧ Kept st c H5 H6) ⟨[], rfl, (fun m h => nomatch h), upd_same, S5.same (same_upd nD0), Same.kept (same_upd nD0)⟩ (fun k H6 _ ⟨_, _, _, _, _, k6⟩ => SqL.of (k6 _ _ t5.a1 t5.a2 t5.h1)) ?_ ?_
        · rintro k y H6 H7 hk ⟨ns, hn2, bd, hD0, S6, k6⟩ ⟨rfl, hy⟩
          rw [lm f] at hk
          obtain ⟨l, hl⟩ : ∃ l, (lotsFor ch zs)[k]? = some l := ⟨_, List.getElem?_eq_getElem hk⟩
          rw [List.getElem?_map, hl] at hy
          cases hy
          have b1 := bf l
          refine ⟨rfl, yes2 ?_⟩
          refine ⟨_, rfl, _, rfl, 1, rfl, by show 6 ≤ sizeLine; rw [sizeLine_eq]; omega, fun pl npl => ?_⟩
          have ep := same_upd (o := HO.lst [V.int 0, .int 0, .int 0, .int 1, .int 1, .int (-1)]) npl
          have hpl : upd H7 pl (HO.lst [V.int 0, .int 0, .int 0, .int 1, .int 1, .int (-1)]) pl = some (.lst [V.int 0, .int 0, .int 0, .int 1, .int 1, .int (-1)]) := upd_same
          obtain ⟨p1, p2⟩ := S6.notfree npl
          refine ⟨st, c, 5000 * i + 4404 + k, _, .ref pl, _, rfl, S6.same ep, by omega, by show 0 < 6; decide, by show 6 < 1000000; decide, pk_lst (SqL.of hpl) p1 p2, fun j H8 hj S8 k8 => ?_⟩
          obtain ⟨m, em, m0, m1⟩ : ∃ m : Int, [V.int 0, .int 0, .int 0, .int 1, .int 1, .int (-1)].getD j .non = .int m ∧ -1 ≤ m ∧ m ≤ 1 := by
            have hj : j < 6 := hj
            match j, hj with
            | 0, _ => exact ⟨0, rfl, by decide, by decide⟩
            | 1, _ => exact ⟨0, rfl, by decide, by decide⟩
            | 2, _ => exact ⟨0, rfl, by decide, by decide⟩
            | 3, _ => exact ⟨1, rfl, by decide, by decide⟩
            | 4, _ => exact ⟨1, rfl, by decide, by decide⟩
            | 5, _ => exact ⟨-1, rfl, by decide, by decide⟩
            | j + 6, h => omega
          have k68 : Kept st c H7 H8 := (Same.kept ep).trans k8
          refine ⟨f l, m, rfl, em, _, k68 _ _ e1 e2 hD0, Evl.sz_lt (by rw [List.length_map]; omega), ns ++ [f l + m], by rw [List.length_append, hn2]; rfl, fun u hu => ?_, ?_, S8.upd e1 e2, (k6.trans k68).grow nD0⟩
          · rcases List.mem_append.mp hu with hu | hu
            · exact bd u hu
            · rw [List.mem_singleton.mp hu]
              omega
          · rw [upd_same, List.map_append]
            rfl
        · rintro H6 ⟨ns, hn2, bd, hD0, S6, k6⟩
          rw [lm f] at hn2 S6
          obtain ⟨g2, hg2, hb2⟩ := fun_ex (lots_nodup (ch := ch) nz) hn2
          have hr6 : H6 D0 = some (.lst ((lotsFor ch zs).map fun l => V.int (g2 l))) := by
            rw [hD0, ← hg2, List.map_map]
            rfl
          have t6 := t5.kept S6 k6
          obtain ⟨ps, ews, hps⟩ := ats_refs t6.ho.at_
          refine ⟨_, rfl, _, rfl, _, rfl, D, D0, ps, _, _, rfl, SqL.of (by rw [← ews]; exact t6.ho.ld), SqL.of hr6, hps, by rw [List.length_map, List.length_map], fun b nb => ?_⟩
          rw [merge_zipL g2 (lots_nodup nz)]
          have e7 := same_upd (o := HO.dT (tabV (tabL (lotsFor ch zs) g2))) nb
          have hb : upd H6 b (.dT (tabV (tabL (lotsFor ch zs) g2))) b = some (.dT (tabV (tabL (lotsFor ch zs) g2))) := upd_same
          generalize upd H6 b (.dT (tabV (tabL (lotsFor ch zs) g2))) = H7 at e7 hb ⊢
          refine make_quest (wt := g2) (t6.ho.fo.same e7) nz lz hb (far_new t6.ho.fo nb e7) (fun l m => m) (lots_nodup nz) (fun l m => by rw [if_pos m]) fun y H8 ny e8 QY => ?_
          have e78 := Same.trans e7 e8
          have t8 := t6.same e78
          refine ⟨y, D0, g2, v11, rfl, ⟨t8.ho, t8.S.more (by omega), t8.A, QY, t8.h1, e78 _ _ hr6, t8.a1, t8.a2, e1, e2, bf, t8.tb⟩, fun l => ?_⟩
          rcases hb2 l with h | h
          · omega
          · exact bd _ h
      rintro σ H5 ⟨q2, r2, g, v11, rfl, t5, bg⟩
      -- the lots at which the one counts more
      refine ⟨fun σ H6 => ∃ (ab : Addr) (ua : List V), σ = [some (.ref a), some (.ref st), some (.int (0 + (i : Int))), some (.ref nl), some (.bl ch), some (.ref x), some (.ref D), some (.ref q1), some (.ref r1), some (.ref q2), some (.ref r2), v11, some (.ref ab), v13, v14, v15, v16, v17, v18, v19, v20, v21, v22, v23, v24, v25]  ∧ Same H5 H6 ∧ H6 ab = some (.lst ua) ∧ ab ≠ st ∧ ab ≠ c ∧ Told LotAt H6 ua (aboveL (lotsFor ch zs) f g), ?_, ?_⟩
      · refine tasg_go ?_
        refine zip3_filt (ls := lotsFor ch zs) (fun l => decide (g l < f l)) stays_lot rfl rfl rfl (SqL.of t5.ho.ld) (SqL.of t5.h1) (SqL.of t5.h2) wsl (lm f) (lm g) (by omega) (fun k l u v w T H2 R N h1 h2 h3 h4 e hT hR hN => ?_) fun ab ua H6 nab e hab tab => ?_
        · obtain ⟨b, rfl, hb⟩ := t5.ho.at_.2 k u l h2 h1
          rw [List.getElem?_map, h1] at h3 h4
          cases h3
          cases h4
          refine ⟨_, _, rfl, SqT.of hT, rfl, _, _, rfl, _, _, rfl, _, _, rfl, rfl, rfl, _, rfl, _, rfl, _, _, rfl, rfl, _, rfl, ?_⟩
          by_cases cc : g l < f l
          · rw [decide_eq_true cc]
            exact iteT ⟨_, rfl, hR _ H2 (decide_eq_true cc) (Same.refl _) ⟨b, rfl, e _ _ hb⟩⟩
          · rw [decide_eq_false cc]
            exact iteF (hN H2 (decide_eq_false cc) (Same.refl _))
        · obtain ⟨n1, n2⟩ := t5.S.notfree nab
          exact ⟨ab, ua, rfl, e, hab, n1, n2, tab⟩
      rintro σ H6 ⟨ab, ua, rfl, e56, hab, na1, na2, ta⟩
      have t6 := t5.same e56
      -- the lots at which the other counts more
      refine ⟨fun σ H7 => ∃ (bl : Addr) (ub : List V), σ = [some (.ref a), some (.ref st), some (.int (0 + (i : Int))), some (.ref nl), some (.bl ch), some (.ref x), some (.ref D), some (.ref q1), some (.ref r1), some (.ref q2), some (.ref r2), v11, some (.ref ab), v13, v14, some (.ref bl), v16, v17, v18, v19, v20, v21, v22, v23, v24, v25]  ∧ Tw C CQ P0 qL H7 st c nl x D q1 q2 r1 r2 ab bl ua ub zs ch ws f g (5000 * i + 4420), ?_, ?_⟩
      · refine tasg_go ?_
        refine zip3_filt (ls := lotsFor ch zs) (fun l => decide (f l < g l)) stays_lot rfl rfl rfl (SqL.of t6.ho.ld) (SqL.of t6.h1) (SqL.of t6.h2) wsl (lm f) (lm g) (by omega) (fun k l u v w T H2 R N h1 h2 h3 h4 e hT hR hN => ?_) fun bl ub H7 nbl e hbl tbl => ?_
        · obtain ⟨b, rfl, hb⟩ := t6.ho.at_.2 k u l h2 h1
          rw [List.getElem?_map, h1] at h3 h4
          cases h3
          cases h4
          refine ⟨_, _, rfl, SqT.of hT, rfl, _, _, rfl, _, _, rfl, _, _, rfl, rfl, rfl, _, rfl, _, rfl, _, _, rfl, rfl, _, rfl, ?_⟩
          by_cases cc : f l < g l
          · rw [decide_eq_true cc]
            exact iteT ⟨_, rfl, hR _ H2 (decide_eq_true cc) (Same.refl _) ⟨b, rfl, e _ _ hb⟩⟩
          · rw [decide_eq_false cc]
            exact iteF (hN H2 (decide_eq_false cc) (Same.refl _))
        · obtain ⟨n1, n2⟩ := t6.S.notfree nbl
          exact ⟨bl, ub, rfl, t6.same e, e _ _ hab, na1, na2, ta.same stays_lot e, hbl, n1, n2, tbl⟩
      rintro σ H7 ⟨bl, ub, rfl, t7⟩
      have nmL : ∀ (fa ga : List Str → Int), ∀ l ∈ aboveL (lotsFor ch zs) fa ga, ∀ z ∈ l, isNameS z = true := fun fa ga l m z mz => nm z ((lots_sub lz (List.mem_filter.mp m).1).subset mz)
      -- four answers
      refine ⟨fun σ H8 => ∃ (fo : Addr), σ = [some (.ref a), some (.ref st), some (.int (0 + (i : Int))), some (.ref nl), some (.bl ch), some (.ref x), some (.ref D), some (.ref q1), some (.ref r1), some (.ref q2), some (.ref r2), v11, some (.ref ab), v13, v14, some (.ref bl), some (.ref fo), v17, v18, v19, v20, v21, v22, v23, v24, v25]  ∧ Same H7 H8 ∧ H8 fo = some (.lst [V.bl ((lotsFor ch zs).all fun l => decide (f l ≤ g l)), .bl ((lotsFor ch zs).all fun l => decide (g l ≤ f l)), .bl (sameT (tableOf ch zs f) (tableOf ch zs g)), .bl (!sameT (tableOf ch zs f) (tableOf ch zs g))]), ?_, ?_⟩
      · refine tasg_go (tlst_go (tcons_go (top_go ?_)))
        obtain ⟨dq1, td1, a1, _, _⟩ := id t7.t.A
        obtain ⟨dq2, td2, a2, _, _⟩ := id t7.t.B
        refine ⟨_, rfl, _, rfl, q1, dq1, _, .ref CQ, rfl, a1, tQ _ _ _ _ a2, nQ, q1, x, q2, x, zs, ch, f, g, rfl, t7.t.A, t7.t.B, nm, nz, lz, fun G1 e1 => ⟨_, rfl, ?_⟩⟩
        have u1 := t7.same e1
        refine tcons_go (top_go ⟨_, rfl, _, rfl, q2, dq2, _, .ref CQ, rfl, e1 _ _ a2, tQ _ _ _ _ (e1 _ _ a1), nQ, q2, x, q1, x, zs, ch, g, f, rfl, u1.t.B, u1.t.A, nm, nz, lz, fun G2 e2 => ⟨_, rfl, ?_⟩⟩)
        have u2 := u1.same e2
        have e12 := Same.trans e1 e2
        refine tcons_go (top_go ⟨_, rfl, _, rfl, q1, dq1, _, .ref CQ, rfl, e12 _ _ a1, tQ _ _ _ _ (e12 _ _ a2), nQ, q1, x, q2, x, zs, zs, ch, ch, f, g, rfl, u2.t.A, u2.t.B, nm, nm, fun G3 e3 => ⟨_, rfl, ?_⟩⟩)
        have u3 := u2.same e3
        have e13 := Same.trans e12 e3
        refine tcons_go (top_go ⟨_, rfl, _, rfl, q1, dq1, q2, dq2, _, _, rfl, rfl, e13 _ _ a1, e13 _ _ a2, q1, x, q2, x, zs, zs, ch, ch, f, g, rfl, u3.t.A, u3.t.B, nm, nm, fun G4 e4 => ⟨_, rfl, ?_⟩⟩)
        have e14 := Same.trans e13 e4
        refine ⟨by show 4 ≤ sizeLine; rw [sizeLine_eq]; omega, fun fo nfo => ⟨fo, rfl, Same.trans e14 (same_upd nfo), ?_⟩⟩
        rw [upd_same, decide_eq_true rfl, decide_eq_true rfl, Bool.true_and, Bool.true_and]
      rintro σ H8 ⟨fo, rfl, e78, hfo⟩
      have t8 := t7.same e78
      have dab : ∀ {G : Hp} {d : Addr} {u : List V} {fa ga : List Str → Int}, G d = some (.lst u) → Told LotAt G u (aboveL (lotsFor ch zs) fa ga) → Dp K G (.ref d) (dLots (aboveL (lotsFor ch zs) fa ga)) := fun h t => .lst (SqL.of h) (dp_lots (told_lots t))
      have mtL : ∀ {G : Hp} {d : Addr}, G d = some (.lst []) → Dp K G (.ref d) (.list []) := fun h => .lst (SqL.of h) .nil
      -- they are the same
      refine ⟨fun σ H9 => σ = [some (.ref a), some (.ref st), some (.int (0 + (i : Int))), some (.ref nl), some (.bl ch), some (.ref x), some (.ref D), some (.ref q1), some (.ref r1), some (.ref q2), some (.ref r2), v11, some (.ref ab), v13, v14, some (.ref bl), some (.ref fo), v17, v18, v19, v20, v21, v22, v23, v24, v25] ∧ Same H8 H9, ?_, ?_⟩
      · refine tifn_call (tcons_go ⟨_, rfl, tcons_go (tlst_go (tcons_go (top_go ?_)))⟩)
        refine ⟨_, rfl, Nat.zero_le _, fun p1 np1 => ?_⟩
        have e1 := same_upd (o := HO.lst []) np1
        have hp1 : upd H8 p1 (.lst []) p1 = some (.lst []) := upd_same
        generalize upd H8 p1 (.lst []) = G1 at e1 hp1 ⊢
        have u1 := t8.same e1
        refine ⟨_, _, dab u1.ha u1.ta, mtL hp1, shaped_lots (nmL f g), rfl, ?_⟩
        rw [eqv_nilL, above_nil]
        refine tcons_go (top_go ⟨_, rfl, Nat.zero_le _, fun p2 np2 => ?_⟩)
        have e2 := same_upd (o := HO.lst []) np2
        have hp2 : upd G1 p2 (.lst []) p2 = some (.lst []) := upd_same
        generalize upd G1 p2 (.lst []) = G2 at e2 hp2 ⊢
        have u2 := u1.same e2
        refine ⟨_, _, dab u2.hb u2.tb, mtL hp2, shaped_lots (nmL g f), rfl, ?_⟩
        rw [eqv_nilL, above_nil]
        refine tcons_go (top_go ⟨_, rfl, _, rfl, _, _, rowD u2.t.h1, rowD u2.t.h2, shaped_ints _, shaped_ints _, ?_⟩)
        rw [eqv_rows, ← same_rows nz]
        refine tcons_go (top_go ⟨_, rfl, _, rfl, _, _, rowD u2.t.h1, rowD u2.t.h2, shaped_ints _, shaped_ints _, ?_⟩)
        rw [eqv_rows, ← same_rows nz]
        refine ⟨by show 4 ≤ sizeLine; rw [sizeLine_eq]; omega, fun p3 np3 => ?_⟩
        have e3 := same_upd (o := HO.lst [V.bl ((lotsFor ch zs).all fun l => decide (f l ≤ g l)), .bl ((lotsFor ch zs).all fun l => decide (g l ≤ f l)), .bl (sameT (tableOf ch zs f) (tableOf ch zs g)), .bl (!sameT (tableOf ch zs f) (tableOf ch zs g))]) np3
        have hp3 : upd G2 p3 (HO.lst [V.bl ((lotsFor ch zs).all fun l => decide (f l ≤ g l)), .bl ((lotsFor ch zs).all fun l => decide (g l ≤ f l)), .bl (sameT (tableOf ch zs f) (tableOf ch zs g)), .bl (!sameT (tableOf ch zs f) (tableOf ch zs g))]) p3 = some (.lst [V.bl ((lotsFor ch zs).all fun l => decide (f l ≤ g l)), .bl ((lotsFor ch zs).all fun l => decide (g l ≤ f l)), .bl (sameT (tableOf ch zs f) (tableOf ch zs g)), .bl (!sameT (tableOf ch zs f) (tableOf ch zs g))]) := upd_same
        have e03 := Same.trans e1 (Same.trans e2 e3)
        have dp4 : ∀ {G : Hp} {d : Addr} {b1 b2 b3 b4 : Bool}, G d = some (.lst [V.bl b1, .bl b2, .bl b3, .bl b4]) → Dp K G (.ref d) (.list [.bool b1, .bool b2, .bool b3, .bool b4]) := fun h => .lst (SqL.of h) (.cons (.bl _) (.cons (.bl _) (.cons (.bl _) (.cons (.bl _) .nil))))
        refine ⟨_, _, _, rfl, dp4 (e03 _ _ hfo), dp4 hp3, by simp [PyData.depth, PyData.depthAll], by simp [wide, wideAll], fun H9 e9 => ⟨true, rfl, ?_⟩⟩
        refine iteF ?_
        exact ⟨rfl, Same.trans e03 e9⟩
      rintro σ H9 ⟨rfl, e89⟩
      have t9 := t8.same e89
      clear hfo
      -- three stores
      refine ⟨fun σ H10 => ∃ v17 v18 v19 v20, σ = [some (.ref a), some (.ref st), some (.int (0 + (i : Int))), some (.ref nl), some (.bl ch), some (.ref x), some (.ref D), some (.ref q1), some (.ref r1), some (.ref q2), some (.ref r2), v11, some (.ref ab), v13, v14, some (.ref bl), some (.ref fo), v17, v18, v19, v20, v21, v22, v23, v24, v25] ∧ Tw C CQ P0 qL H10 st c nl x D q1 q2 r1 r2 ab bl ua ub zs ch ws f g (5000 * i + 4660), ?_, ?_⟩
      · refine ⟨3, rfl, by decide, by decide, ?_⟩
        refine for_it walk_range (fun k σ H10 => ∃ v17 v18 v19 v20, σ = [some (.ref a), some (.ref st), some (.int (0 + (i : Int))), some (.ref nl), some (.bl ch), some (.ref x), some (.ref D), some (.ref q1), some (.ref r1), some (.ref q2), some (.ref r2), v11, some (.ref ab), v13, v14, some (.ref bl), some (.ref fo), v17, v18, v19, v20, v21, v22, v23, v24, v25] ∧ Tw C CQ P0 qL H10 st c nl x D q1 q2 r1 r2 ab bl ua ub zs ch ws f g (5000 * i + 4420 + 80 * k)) ?_ (fun _ _ _ _ _ => trivial) ?_ ?_
        · exact ⟨_, _, _, _, rfl, t9⟩
        · rintro k y σ H10' H10 hk ⟨v17, v18, v19, v20, rfl, t10⟩ ⟨rfl, rfl⟩
          have hk : k < 3 := by simpa using hk
          -- sizes
          refine ⟨fun σ H11 => ∃ (R : Addr) (us : List V) (sz : List Str → Rat), σ = [some (.ref a), some (.ref st), some (.int (0 + (i : Int))), some (.ref nl), some (.bl ch), some (.ref x), some (.ref D), some (.ref q1), some (.ref r1), some (.ref q2), some (.ref r2), v11, some (.ref ab), v13, v14, some (.ref bl), some (.ref fo), some (.int (0 + (k : Int))), some (.ref R), v19, v20, v21, v22, v23, v24, v25] ∧ Tw C CQ P0 qL H11 st c nl x D q1 q2 r1 r2 ab bl ua ub zs ch ws f g (5000 * i + 4420 + 80 * k + 48) ∧ H11 R = some (.lst us) ∧ R ≠ st ∧ R ≠ c ∧ Told (FrV K) H11 us ((lotsFor ch zs).map sz) ∧ ∀ l ∈ lotsFor ch zs, Sz10 (sz l), ?_, ?_⟩
          · refine ⟨_, rfl, _, rfl, by show 4 ≤ sizeLine; rw [sizeLine_eq]; omega, fun pl npl => ?_⟩
            have e1 := same_upd (o := HO.lst (([1, 2, 3, 7] : List Nat).map fun (b : Nat) => V.int (b : Int))) npl
            have hpl : upd H10 pl (HO.lst (([1, 2, 3, 7] : List Nat).map fun (b : Nat) => V.int (b : Int))) pl = some (.lst (([1, 2, 3, 7] : List Nat).map fun (b : Nat) => V.int (b : Int))) := upd_same
            obtain ⟨p1, p2⟩ := t10.t.S.notfree npl
            have u1 := t10.same e1
            refine ⟨st, c, D, pl, _, ws, [1, 2, 3, 7], rfl, u1.t.S, by omega, u1.t.ho.ld, u1.t.ho.d1, u1.t.ho.d2, by omega, hpl, p1, p2, by decide, by decide, by decide, fun R us qs H11 nR hR tu lq hs S11 k11 => ?_⟩
            obtain ⟨R1, R2⟩ := u1.t.S.notfree nR
            obtain ⟨sz, hsz, _⟩ := ex_fun (0 : Rat) (lots_nodup (ch := ch) nz) (show qs.length = (lotsFor ch zs).length by omega)
            refine ⟨R, us, sz, rfl, u1.kept (S11.more (by omega)) k11, hR, R1, R2, by rw [hsz]; exact tu, fun l m => hs _ (by rw [← hsz]; exact List.mem_map.mpr ⟨l, m, rfl⟩)⟩
          rintro σ H11 ⟨R, us, sz, rfl, t11, hR, R1, R2, tu, hsz⟩
          -- a store
          refine ⟨fun σ H12 => ∃ (so : Addr), σ = [some (.ref a), some (.ref st), some (.int (0 + (i : Int))), some (.ref nl), some (.bl ch), some (.ref x), some (.ref D), some (.ref q1), some (.ref r1), some (.ref q2), some (.ref r2), v11, some (.ref ab), v13, v14, some (.ref bl), some (.ref fo), some (.int (0 + (k : Int))), some (.ref R), some (.ref so), v20, v21, v22, v23, v24, v25] ∧ Tw C CQ P0 qL H12 st c nl x D q1 q2 r1 r2 ab bl ua ub zs ch ws f g (5000 * i + 4420 + 80 * (k + 1)) ∧ StoreAt K C CS H12 so x zs ch sz ∧ H12 R = some (.lst us) ∧ Told (FrV K) H12 us ((lotsFor ch zs).map sz), ?_, ?_⟩
          · refine ⟨_, rfl, _, rfl, _, rfl, _, rfl, st, c, nl, x, D, R, _, zs, ch, ws, us, sz, rfl, t11.t.ho, t11.t.S, by omega, hR, R1, R2, tu, hsz, fun so H12 ns SA S12 k12 => ?_⟩
            exact ⟨so, rfl, t11.kept (S12.more (by omega)) k12, SA, k12 _ _ R1 R2 hR, told_fr tu t11.t.S k12⟩
          rintro σ H12 ⟨so, rfl, t12, SA, hR, tu⟩
          have bf8 : ∀ l ∈ lotsFor ch zs, (f l).natAbs < 2 ^ 3 := fun l _ => by have := bf l; omega
          have bg8 : ∀ l ∈ lotsFor ch zs, (g l).natAbs < 2 ^ 3 := fun l _ => by have := bg l; omega
          have bz : ∀ l ∈ lotsFor ch zs, FrB 10 (sz l) := fun l m => (hsz l m).2
          have bn : ((lotsFor ch zs).length + 1) * (10 + 3 + 1) ≤ 300 := by omega
          -- its answers
          refine ⟨fun σ H13 => ∃ (vl : Addr) (w1 w2 : V), σ = [some (.ref a), some (.ref st), some (.int (0 + (i : Int))), some (.ref nl), some (.bl ch), some (.ref x), some (.ref D), some (.ref q1), some (.ref r1), some (.ref q2), some (.ref r2), v11, some (.ref ab), v13, v14, some (.ref bl), some (.ref fo), some (.int (0 + (k : Int))), some (.ref R), some (.ref so), some (.ref vl), v21, v22, v23, v24, v25] ∧ Same H12 H13 ∧ H13 vl = some (.lst [w1, w2]) ∧ FrV K H13 w1 (ansQ (lotsFor ch zs) sz f) ∧ FrV K H13 w2 (ansQ (lotsFor ch zs) sz g) ∧ FrB 300 (ansQ (lotsFor ch zs) sz f) ∧ FrB 300 (ansQ (lotsFor ch zs) sz g), ?_, ?_⟩
          · refine tasg_go (tlst_go (tcons_go ?_))
            refine ⟨_, rfl, _, rfl, r1, R, us, lotsFor ch zs, sz, f, 10, 3, rfl, t12.t.h1, hR, tu, bz, bf8, by decide, by omega, fun w1 G1 e1 fv1 fb1 => ?_⟩
            refine tcons_go ⟨_, rfl, _, rfl, r2, R, us, lotsFor ch zs, sz, g, 10, 3, rfl, e1 _ _ t12.t.h2, e1 _ _ hR, tu.same stays_fr e1, bz, bg8, by decide, by omega, fun w2 G2 e2 fv2 fb2 => ?_⟩
            refine ⟨by show 2 ≤ sizeLine; rw [sizeLine_eq]; omega, fun vl nvl => ?_⟩
            have e3 := same_upd (o := HO.lst [w1, w2]) nvl
            exact ⟨vl, w1, w2, rfl, Same.trans e1 (Same.trans e2 e3), upd_same, (fv1.same e2).same e3, fv2.same e3, fb1.more bn, fb2.more bn⟩
          rintro σ H13 ⟨vl, w1, w2, rfl, e1213, hvl, fv1, fv2, fb1, fb2⟩
          have t13 := t12.same e1213
          have SA13 := SA.same e1213
          have dq2 : ∀ {G : Hp} {d : Addr} {u1 u2 : V} {p q : Rat}, G d = some (.lst [u1, u2]) → FrV K G u1 p → FrV K G u2 q → Dp K G (.ref d) (.list [dQ p, dQ q]) := fun h h1 h2 => .lst (SqL.of h) (.cons (dp_q h1) (.cons (dp_q h2) .nil))
          -- the store answers so
          refine ⟨fun σ H14 => σ = [some (.ref a), some (.ref st), some (.int (0 + (i : Int))), some (.ref nl), some (.bl ch), some (.ref x), some (.ref D), some (.ref q1), some (.ref r1), some (.ref q2), some (.ref r2), v11, some (.ref ab), v13, v14, some (.ref bl), some (.ref fo), some (.int (0 + (k : Int))), some (.ref R), some (.ref so), some (.ref vl), v21, v22, v23, v24, v25] ∧ Same H13 H14, ?_, ?_⟩
          · refine tifn_call (tcons_go (tlst_go (tcons_go ?_)))
            obtain ⟨ds, td, tb, hs, _, _, _⟩ := id SA13
            refine ⟨_, rfl, so, rfl, _, rfl, .inr ⟨ds, _, hs⟩, so, x, q1, x, zs, ch, sz, f, 10, 3, rfl, SA13, t13.t.A, nm, nz, lz, bz, bf8, by decide, by omega, fun u1 G1 e1 gv1 _ => ?_⟩
            refine tcons_go ⟨_, rfl, so, rfl, _, rfl, .inr ⟨ds, _, e1 _ _ hs⟩, so, x, q2, x, zs, ch, sz, g, 10, 3, rfl, SA13.same e1, (t13.same e1).t.B, nm, nz, lz, bz, bg8, by decide, by omega, fun u2 G2 e2 gv2 _ => ?_⟩
            refine ⟨by show 2 ≤ sizeLine; rw [sizeLine_eq]; omega, fun p3 np3 => ?_⟩
            have e3 := same_upd (o := HO.lst [u1, u2]) np3
            have hp3 : upd G2 p3 (HO.lst [u1, u2]) p3 = some (.lst [u1, u2]) := upd_same
            have e03 := Same.trans e1 (Same.trans e2 e3)
            refine tcons_go ⟨_, rfl, ?_⟩
            refine ⟨_, _, _, rfl, dq2 hp3 ((gv1.same e2).same e3) (gv2.same e3), dq2 (e03 _ _ hvl) (fv1.same e03) (fv2.same e03), ?_, ?_, fun H14 e14 => ⟨true, rfl, ?_⟩⟩
            · simp [PyData.depth, PyData.depthAll, depth_q]
            · simp [wide, wideAll, dQ]
            refine iteF ?_
            exact ⟨rfl, Same.trans e03 e14⟩
          rintro σ H14 ⟨rfl, e1314⟩
          have t14 := t13.same e1314
          -- and never less
          refine ⟨_, rfl, Nat.zero_le _, fun p1 np1 => ?_⟩
          have e1 := same_upd (o := HO.lst []) np1
          have hp1 : upd H14 p1 (.lst []) p1 = some (.lst []) := upd_same
          generalize upd H14 p1 (.lst []) = G1 at e1 hp1 ⊢
          have u1 := t14.same e1
          refine ⟨_, _, dab u1.ha u1.ta, mtL hp1, shaped_lots (nmL f g), rfl, _, rfl, ?_⟩
          rw [eqv_nilL]
          have e13G := Same.trans e1314 e1
          cases hab : (aboveL (lotsFor ch zs) f g).isEmpty with
          | false =>
            refine iteF ?_
            refine iteF ?_
            exact ⟨_, _, _, _, rfl, u1.kept (u1.t.S.more (by omega)) (Kept.refl _ _ _)⟩
          | true =>
            refine iteT ?_
            have fle := above_le (List.isEmpty_iff.mp hab)
            have ale := ans_le (sz := sz) (fun l m => (hsz l m).1) fle
            refine ⟨_, rfl, vl, _, 1, w2, rfl, rfl, SqL.of (e13G _ _ hvl), rfl, _, rfl, vl, _, 0, w1, rfl, rfl, SqL.of (e13G _ _ hvl), rfl, w2, w1, _, _, 300, 300, rfl, fv2.same e13G, fv1.same e13G, fb2, fb1, by decide, ?_⟩
            rw [decide_eq_false (Rat.not_lt.mpr ale)]
            refine ⟨_, rfl, ?_⟩
            refine iteF ?_
            exact ⟨_, _, _, _, rfl, u1.kept (u1.t.S.more (by omega)) (Kept.refl _ _ _)⟩
        · rintro σ H10 ⟨v17, v18, v19, v20, rfl, t10⟩
          exact ⟨_, _, _, _, rfl, t10⟩
      rintro σ H10 ⟨v17, v18, v19, v20, rfl, t10⟩
      -- where the one counts more, both ways round
      refine ⟨fun σ H11 => ∃ v16 v21 v22 v23, σ = [some (.ref a), some (.ref st), some (.int (0 + (i : Int))), some (.ref nl), some (.bl ch), some (.ref x), some (.ref D), some (.ref q1), some (.ref r1), some (.ref q2), some (.ref r2), v11, some (.ref ab), v13, v14, some (.ref bl), v16, v17, v18, v19, v20, v21, v22, v23, v24, v25] ∧ Same H10 H11, ?_, ?_⟩
      · refine ⟨_, rfl, _, rfl, _, rfl, by show 3 ≤ sizeLine; rw [sizeLine_eq]; omega, fun k1 nk1 => ?_⟩
        have e1 := same_upd (o := HO.tup [V.ref q1, .ref q2, .ref ab]) nk1
        have hk1 : upd H10 k1 (HO.tup [V.ref q1, .ref q2, .ref ab]) k1 = some (.tup [.ref q1, .ref q2, .ref ab]) := upd_same
        generalize upd H10 k1 (HO.tup [V.ref q1, .ref q2, .ref ab]) = G1 at e1 hk1 ⊢
        refine ⟨_, rfl, _, rfl, _, rfl, by show 3 ≤ sizeLine; rw [sizeLine_eq]; omega, fun k2 nk2 => ?_⟩
        have e2 := same_upd (o := HO.tup [V.ref q2, .ref q1, .ref bl]) nk2
        have hk2 : upd G1 k2 (HO.tup [V.ref q2, .ref q1, .ref bl]) k2 = some (.tup [.ref q2, .ref q1, .ref bl]) := upd_same
        generalize upd G1 k2 (HO.tup [V.ref q2, .ref q1, .ref bl]) = G2 at e2 hk2 ⊢
        refine ⟨by show 2 ≤ sizeLine; rw [sizeLine_eq]; omega, fun li nli => ?_⟩
        have e3 := same_upd (o := HO.lst [V.ref k1, .ref k2]) nli
        have hli : upd G2 li (HO.lst [V.ref k1, .ref k2]) li = some (.lst [.ref k1, .ref k2]) := upd_same
        generalize upd G2 li (HO.lst [V.ref k1, .ref k2]) = G3 at e3 hli ⊢
        have e03 := Same.trans e1 (Same.trans e2 e3)
        have k1_3 := e3 _ _ (e2 _ _ hk1)
        have k2_3 := e3 _ _ hk2
        refine ⟨li, rfl, ⟨_, SqL.of hli⟩, ?_⟩
        refine for_it (walk_list (xs := [V.ref k1, .ref k2])) (fun j σ H11 => ∃ v16 v21 v22 v23, σ = [some (.ref a), some (.ref st), some (.int (0 + (i : Int))), some (.ref nl), some (.bl ch), some (.ref x), some (.ref D), some (.ref q1), some (.ref r1), some (.ref q2), some (.ref r2), v11, some (.ref ab), v13, v14, some (.ref bl), v16, v17, v18, v19, v20, v21, v22, v23, v24, v25] ∧ Same G3 H11) ?_ (fun j σ H11 _ ⟨_, _, _, _, _, e⟩ => e.seq (SqL.of hli)) ?_ ?_
        · exact ⟨_, _, _, _, rfl, Same.refl _⟩
        · rintro j y σ H11' H11 hj ⟨v16, v21, v22, v23, rfl, e311⟩ ⟨rfl, hy⟩
          have t11 := t10.same (Same.trans e03 e311)
          obtain ⟨k0, qa, qb, la, fa, ga, ul, rfl, hk0, QA, QB, hla, tla⟩ : ∃ (k0 qa qb la : Addr) (fa ga : List Str → Int) (ul : List V), y = .ref k0 ∧ H11 k0 = some (.tup [.ref qa, .ref qb, .ref la]) ∧ QuestAt C CQ H11 qa x zs ch fa ∧ QuestAt C CQ H11 qb x zs ch ga ∧ H11 la = some (.lst ul) ∧ Told LotAt H11 ul (aboveL (lotsFor ch zs) fa ga) := by
            have hj : j < 2 := hj
            have jc : j = 0 ∨ j = 1 := by omega
            rcases jc with rfl | rfl
            · cases hy
              exact ⟨k1, q1, q2, ab, f, g, ua, rfl, e311 _ _ k1_3, t11.t.A, t11.t.B, t11.ha, t11.ta⟩
            · cases hy
              exact ⟨k2, q2, q1, bl, g, f, ub, rfl, e311 _ _ k2_3, t11.t.B, t11.t.A, t11.hb, t11.tb⟩
          refine ⟨_, _, rfl, SqT.of hk0, rfl, _, _, rfl, _, _, rfl, _, _, rfl, rfl, ?_⟩
          -- found
          refine ⟨fun σ H12 => ∃ v : V, σ = [some (.ref a), some (.ref st), some (.int (0 + (i : Int))), some (.ref nl), some (.bl ch), some (.ref x), some (.ref D), some (.ref q1), some (.ref r1), some (.ref q2), some (.ref r2), v11, some (.ref ab), v13, v14, some (.ref bl), some v, v17, v18, v19, v20, some (.ref qa), some (.ref qb), some (.ref la), v24, v25] ∧ Same H11 H12 ∧ ((v = .non ∧ ∀ l ∈ lotsFor ch zs, fa l ≤ ga l) ∨ ∃ (s : Addr) (l : List Str), v = .ref s ∧ (lotsFor ch zs).find? (fun l => decide (ga l < fa l)) = some l ∧ StoreAt K C CS H12 s x zs ch (oneQ l)), ?_, ?_⟩
          · refine ⟨_, rfl, _, rfl, qa, x, qb, x, zs, ch, fa, ga, rfl, QA, QB, nm, nz, lz, fun H12 e hle => ?_, fun l s H12 e hf ns SA => ?_⟩
            · exact ⟨.non, rfl, e, .inl ⟨rfl, hle⟩⟩
            · exact ⟨.ref s, rfl, e, .inr ⟨s, l, rfl, hf, SA⟩⟩
          rintro σ H12 ⟨v, rfl, e1112, hv⟩
          have hla12 := e1112 _ _ hla
          have tla12 := tla.same stays_lot e1112
          -- none just if no lot counts more
          refine ⟨fun σ H13 => σ = [some (.ref a), some (.ref st), some (.int (0 + (i : Int))), some (.ref nl), some (.bl ch), some (.ref x), some (.ref D), some (.ref q1), some (.ref r1), some (.ref q2), some (.ref r2), v11, some (.ref ab), v13, v14, some (.ref bl), some v, v17, v18, v19, v20, some (.ref qa), some (.ref qb), some (.ref la), v24, v25] ∧ Same H12 H13, ?_, ?_⟩
          · refine ⟨_, rfl, rfl, _, rfl, Nat.zero_le _, fun p1 np1 => ?_⟩
            have e4 := same_upd (o := HO.lst []) np1
            have hp1 : upd H12 p1 (.lst []) p1 = some (.lst []) := upd_same
            generalize upd H12 p1 (.lst []) = G4 at e4 hp1 ⊢
            refine ⟨_, _, dab (e4 _ _ hla12) (tla12.same stays_lot e4), mtL hp1, shaped_lots (nmL fa ga), rfl, ?_⟩
            rw [eqv_nilL]
            have same : decide (v = V.non) = (aboveL (lotsFor ch zs) fa ga).isEmpty := by
              rcases hv with ⟨rfl, hle⟩ | ⟨s, l, rfl, hf, _⟩
              · rw [above_of hle]
                rfl
              · have h0 := above_head hf
                cases hL : aboveL (lotsFor ch zs) fa ga with
                | nil =>
                  rw [hL] at h0
                  cases h0
                | cons u r =>
                  exact decide_eq_false (fun z => by cases z)
            rw [same]
            refine ⟨rfl, _, rfl, ?_⟩
            rw [decide_eq_true rfl]
            refine iteF ?_
            exact ⟨rfl, e4⟩
          rintro σ H13 ⟨rfl, e1213⟩
          have hla13 := e1213 _ _ hla12
          have tla13 := tla12.same stays_lot e1213
          have e013 := Same.trans e311 (Same.trans e1112 e1213)
          have t13 := t11.same (Same.trans e1112 e1213)
          -- the store of that lot
          refine ⟨_, rfl, rfl, _, rfl, ?_⟩
          rcases hv with ⟨rfl, hle⟩ | ⟨s, l, rfl, hf, SA⟩
          · refine iteF ?_
            refine iteF ?_
            exact ⟨_, _, _, _, rfl, e013⟩
          · rw [show decide (V.ref s = V.non) = false from decide_eq_false (fun z => by cases z)]
            refine iteT ?_
            have h0 := above_head hf
            have ml := List.mem_of_find?_eq_some hf
            obtain ⟨u0, hu0⟩ : ∃ u, ul[0]? = some u := by
              have hl := (List.getElem?_eq_some_iff.mp h0).1
              exact ⟨_, List.getElem?_eq_getElem (by rw [tla.1]; exact hl)⟩
            obtain ⟨b, rfl, hb⟩ := tla13.2 0 u0 l hu0 h0
            refine ⟨_, rfl, _, rfl, fun p np => ?_⟩
            have e4 := same_upd (o := HO.dT []) np
            have hp4 : upd H13 p (.dT []) p = some (.dT []) := upd_same
            refine ⟨_, rfl, la, ul, 0, .ref b, rfl, rfl, SqL.of (e4 _ _ hla13), atI_nat hu0, ?_⟩
            refine ⟨hp4, [(l.map Sum.inr, .int 1)], .cons ⟨b, rfl, ?_⟩ .nil, Nat.le_add_left 1 14, ?_⟩
            · rw [str_key]
              exact e4 _ _ hb
            have e5 := Same.grow (o := HO.dT (mergeT [] [((l.map Sum.inr : List Key), V.int 1)])) e4 np
            have hp5 : upd (upd H13 p (.dT [])) p (.dT (mergeT [] [((l.map Sum.inr : List Key), V.int 1)])) p = some (.dT (entW [(l, V.int 1)])) := upd_same
            generalize upd (upd H13 p (.dT [])) p (.dT (mergeT [] [((l.map Sum.inr : List Key), V.int 1)])) = G5 at e5 hp5 ⊢
            refine make_store (es := [(l, V.int 1)]) (sz := oneQ l) (t13.t.ho.fo.same e5) nz lz hp5 (far_new t13.t.ho.fo np e5) ?_ ?_ ?_ ?_ fun s2 H14 ns2 e6 SB => ?_
            · intro e m
              rw [List.mem_singleton.mp m]
              exact ml
            · exact List.nodup_cons.mpr ⟨(fun z => nomatch z), List.nodup_nil⟩
            · intro e m
              rw [List.mem_singleton.mp m]
              refine .inl ⟨1, rfl, ?_⟩
              unfold oneQ
              rw [if_pos rfl]
              rfl
            · intro k _ nk
              unfold oneQ
              rw [if_neg (fun z => nk (by rw [z]; exact List.mem_cons_self))]
            have e56 := Same.trans e5 e6
            have SA14 := (SA.same e1213).same e56
            obtain ⟨ds1, td1, tb1, hs1, _, _, _⟩ := id SA14
            obtain ⟨ds2, td2, tb2, hs2, _, _, _⟩ := id SB
            refine ⟨s, ds1, s2, ds2, _, _, rfl, rfl, hs1, hs2, s, x, s2, x, zs, zs, ch, ch, oneQ l, oneQ l, rfl, SA14, SB, nm, nm, fun H15 e7 => ⟨_, rfl, _, rfl, ?_⟩⟩
            rw [decide_eq_true rfl, decide_eq_true rfl, sameQ_refl]
            refine iteF ?_
            exact ⟨_, _, _, _, rfl, Same.trans e013 (Same.trans e56 e7)⟩
        · rintro σ H11 ⟨v16, v21, v22, v23, rfl, e311⟩
          exact ⟨_, _, _, _, rfl, Same.trans e03 e311⟩
      rintro σ H11 ⟨v16, v21, v22, v23, rfl, e1011⟩
      have t12 := (t10.same e1011).t
      -- folders that are unlike these
      refine ⟨fun σ H13 => ∃ (aw xa xb : Addr) (z : Str), σ = [some (.ref a), some (.ref st), some (.int (0 + (i : Int))), some (.ref nl), some (.bl ch), some (.ref x), some (.ref D), some (.ref q1), some (.ref r1), some (.ref q2), some (.ref r2), v11, some (.ref ab), v13, v14, some (.ref bl), v16, v17, v18, v19, v20, v21, v22, v23, some (.ref aw), v25] ∧ Same H11 H13 ∧ H13 aw = some (.lst [.ref xa, .ref xb]) ∧ aw ≠ st ∧ aw ≠ c ∧ FoldersAt C H13 xa (zs ++ [z]) ch ∧ FoldersAt C H13 xb zs (!ch) ∧ isNameS z = true ∧ z ∉ zs, ?_, ?_⟩
      · refine tasg_go (tlst_go (tcons_go ?_))
        refine ⟨_, rfl, ?_⟩
        refine tlst_go (tcons_go ?_)
        refine ⟨_, rfl, nl, zs, rfl, .inl (SqL.of t12.ho.nm), by omega, fun z G1 e1 oz nz1 => ?_⟩
        have u1 := t12.same e1
        refine ⟨by show 1 ≤ sizeLine; rw [sizeLine_eq]; omega, fun pz npz => ?_⟩
        have e2 := same_upd (o := HO.lst [V.str z]) npz
        have hpz : upd G1 pz (.lst [V.str z]) pz = some (.lst [V.str z]) := upd_same
        generalize upd G1 pz (.lst [V.str z]) = G2 at e2 hpz ⊢
        have u2 := u1.same e2
        refine ⟨nl, pz, _, _, rfl, rfl, u2.ho.nm, hpz, by rw [List.length_map, sizeLine_eq]; show zs.length + 1 ≤ _; omega, fun pn npn => ?_⟩
        obtain ⟨pn1, pn2⟩ := u2.S.notfree npn
        have e3 := same_upd (o := HO.lst (zs.map V.str ++ [V.str z])) npn
        have hpn : upd G2 pn (.lst (zs.map V.str ++ [V.str z])) pn = some (.lst ((zs ++ [z]).map V.str)) := by
          rw [upd_same, List.map_append]
          rfl
        generalize upd G2 pn (.lst (zs.map V.str ++ [V.str z])) = G3 at e3 hpn ⊢
        have u3 := u2.same e3
        have lz1 : (zs ++ [z]).length ≤ mostFor ch := by
          rw [List.length_append]
          show zs.length + 1 ≤ _
          cases ch <;> show zs.length + 1 ≤ _ <;> first | (show zs.length + 1 ≤ 5; omega) | (show zs.length + 1 ≤ 12; omega)
        have nm1 : ∀ y ∈ zs ++ [z], isNameS y = true := fun y my => by
          rcases List.mem_append.mp my with my | my
          · exact nm y my
          · rw [List.mem_singleton.mp my]
            exact oz
        have nd1 : (zs ++ [z]).Nodup := List.nodup_append.mpr ⟨nz, List.nodup_cons.mpr ⟨fun w => (nomatch w), List.nodup_nil⟩, fun y my w mw => by
          rw [List.mem_singleton.mp mw]
          exact fun q => nz1 (q ▸ my)⟩
        have Th1 : Thing K G3 (.ref pn) (some ((zs ++ [z]).map V.str)) := (thf_lst hpn pn1 pn2 (names_small lz1) (far_names nm1)).1
        have hw1 := wrong_ok (most := mostFor ch) (zs := zs ++ [z]) (fun q => by have := congrArg List.length q; rw [List.length_append] at this; cases this) lz1 nm1 nd1
        refine ⟨_, rfl, rfl, rfl, make_fold Th1 hw1 fun xa G4 nxa e4 FA1 => ?_⟩
        have u4 := u3.same e4
        have lz2 : zs.length ≤ mostFor (!ch) := by
          cases ch <;> first | (show zs.length ≤ 12; omega) | (show zs.length ≤ 5; omega)
        have Th2 : Thing K G4 (.ref nl) (some (zs.map V.str)) := (thf_lst u4.ho.nm u4.ho.n1 u4.ho.n2 (names_small lz) (far_names nm)).1
        have hw2 := wrong_ok (most := mostFor (!ch)) (zs := zs) (fun q => by have := u4.ho.pos; rw [q] at this; cases this) lz2 nm nz
        refine tcons_go ⟨_, rfl, _, rfl, _, rfl, rfl, rfl, make_fold Th2 hw2 fun xb G5 nxb e5 FA2 => ?_⟩
        refine ⟨by show 2 ≤ sizeLine; rw [sizeLine_eq]; omega, fun aw naw => ?_⟩
        obtain ⟨aw1, aw2⟩ := (u4.same e5).S.notfree naw
        have e6 := same_upd (o := HO.lst [V.ref xa, .ref xb]) naw
        exact ⟨aw, xa, xb, z, rfl, Same.trans e1 (Same.trans e2 (Same.trans e3 (Same.trans e4 (Same.trans e5 e6)))), upd_same, aw1, aw2, (FA1.same e5).same e6, FA2.same e6, oz, nz1⟩
      rintro σ H13 ⟨aw, xa, xb, z, rfl, e1113, haw, aw1, aw2, FAa, FAb, oz, nzz⟩
      have t13 := t12.same e1113
      -- a question about unlike folders
      refine ⟨fun σ H14 => ∃ qs : Addr, σ = [some (.ref a), some (.ref st), some (.int (0 + (i : Int))), some (.ref nl), some (.bl ch), some (.ref x), some (.ref D), some (.ref q1), some (.ref r1), some (.ref q2), some (.ref r2), v11, some (.ref ab), v13, v14, some (.ref bl), v16, v17, v18, v19, v20, v21, v22, v23, some (.ref aw), some (.ref qs)] ∧ Tn C CQ P0 qL H14 st c nl x x D q1 q2 r1 r2 zs ch ws f g (5000 * i + 4661) ∧ Unl C CQ H14 q1 qs ∧ Unl C CQ H14 qs q1, ?_, ?_⟩
      · refine ⟨_, rfl, _, rfl, st, c, _, _, .ref aw, _, rfl, t13.S, by omega, by show 0 < 2; decide, by show 2 < 1000000; decide, pk_lst (SqL.of haw) aw1 aw2, fun j G1 hj S1 k1 => ?_⟩
        have u1 := t13.kept (S1.more (show _ ≤ 5000 * i + 4661 by omega)) k1
        have fin : ∀ (y : Addr) (ys : List Str) (cy : Bool), FoldersAt C G1 y ys cy → ys.Nodup → ys.length ≤ mostFor cy → (∀ w ∈ ys, isNameS w = true) → (decide (zs = ys) && decide (ch = cy)) = false → spWhole C CQ [.ref y] G1 (fun v H14 => ∃ qs : Addr, v = .ref qs ∧ Tn C CQ P0 qL H14 st c nl x x D q1 q2 r1 r2 zs ch ws f g (5000 * i + 4661) ∧ Unl C CQ H14 q1 qs ∧ Unl C CQ H14 qs q1) E0 := fun y ys cy FY ny ly my ne => by
          refine ⟨y, ys, cy, rfl, FY, ny, ly, fun qs G2 nq e2 QS => ⟨qs, rfl, u1.same e2, ⟨_, _, _, _, _, _, _, _, (u1.same e2).A, QS, nm, my, ne⟩, ⟨_, _, _, _, _, _, _, _, QS, (u1.same e2).A, my, nm, ?_⟩⟩⟩
          rw [← ne]
          congr 1
          · exact decide_eq_decide.mpr ⟨Eq.symm, Eq.symm⟩
          · exact decide_eq_decide.mpr ⟨Eq.symm, Eq.symm⟩
        have hj : j < 2 := hj
        have ka := FAa.kept t13.S k1
        have kb := FAb.kept t13.S k1
        have jc : j = 0 ∨ j = 1 := by omega
        have up : ∀ y : Addr, spWhole C CQ [.ref y] G1 (fun v H14 => ∃ qs : Addr, v = .ref qs ∧ Tn C CQ P0 qL H14 st c nl x x D q1 q2 r1 r2 zs ch ws f g (5000 * i + 4661) ∧ Unl C CQ H14 q1 qs ∧ Unl C CQ H14 qs q1) E0 → spWhole C CQ [.ref y] G1 (fun v H14 => ∃ qs : Addr, [some (.ref a), some (.ref st), some (.int (0 + (i : Int))), some (.ref nl), some (.bl ch), some (.ref x), some (.ref D), some (.ref q1), some (.ref r1), some (.ref q2), some (.ref r2), v11, some (.ref ab), v13, v14, some (.ref bl), v16, v17, v18, v19, v20, v21, v22, v23, some (.ref aw), some v] = [some (.ref a), some (.ref st), some (.int (0 + (i : Int))), some (.ref nl), some (.bl ch), some (.ref x), some (.ref D), some (.ref q1), some (.ref r1), some (.ref q2), some (.ref r2), v11, some (.ref ab), v13, v14, some (.ref bl), v16, v17, v18, v19, v20, v21, v22, v23, some (.ref aw), some (.ref qs)] ∧ Tn C CQ P0 qL H14 st c nl x x D q1 q2 r1 r2 zs ch ws f g (5000 * i + 4661) ∧ Unl C CQ H14 q1 qs ∧ Unl C CQ H14 qs q1) E0 := fun y hy => by
          obtain ⟨y1, ys, cy, e, FY, ny, ly, r⟩ := hy
          exact ⟨y1, ys, cy, e, FY, ny, ly, fun q G2 nq e2 QS => by
            obtain ⟨q', e3, e4⟩ := r q G2 nq e2 QS
            cases e3
            exact ⟨q, rfl, e4⟩⟩
        rcases jc with rfl | rfl
        · exact up xa (fin xa (zs ++ [z]) ch ka (List.nodup_append.mpr ⟨nz, List.nodup_cons.mpr ⟨fun w => (nomatch w), List.nodup_nil⟩, fun y my w mw => by
            rw [List.mem_singleton.mp mw]
            exact fun q => nzz (q ▸ my)⟩) (by
              rw [List.length_append]
              show zs.length + 1 ≤ _
              cases ch <;> first | (show zs.length + 1 ≤ 5; omega) | (show zs.length + 1 ≤ 12; omega)) (fun y my => by
              rcases List.mem_append.mp my with my | my
              · exact nm y my
              · rw [List.mem_singleton.mp my]
                exact oz) (by
              have : ¬ zs = zs ++ [z] := fun q => by
                have := congrArg List.length q
                rw [List.length_append] at this
                have h1 : [z].length = 1 := rfl
                omega
              rw [decide_eq_false this]
              rfl))
        · exact up xb (fin xb zs (!ch) kb nz (by
            cases ch <;> first | (show zs.length ≤ 12; omega) | (show zs.length ≤ 5; omega)) nm (by
            cases ch <;> simp))
      rintro σ H14 ⟨qs, rfl, t14, U1, U2⟩
      have dUn : ∀ (H : Hp) (p : Addr), H p = some (.tup [.str (Str.ofString "unlike")]) → Dp K H (.ref p) (.tuple [.str (Str.ofString "unlike")]) := fun H p h => .tup (SqT.of h) (.cons (.str _) .nil)
      -- it is refused
      refine ⟨t14.tb, fun H1 eN T1 => ?_⟩
      intro E Q' H0 e0 hU hW hT
      have u1 := t14.extN eN T1
      have V1 := Unl.extN U1 eN
      refine ⟨_, rfl, _, rfl, q1, qs, rfl, V1.same e0, hU fun p1 H2 e2 np1 hp1 => ?_⟩
      refine ⟨by show 1 ≤ sizeLine; rw [sizeLine_eq]; omega, fun pu npu => ?_⟩
      have e3 := same_upd (o := HO.tup [V.str (Str.ofString "unlike")]) npu
      have hpu : upd H2 pu (HO.tup [V.str (Str.ofString "unlike")]) pu = some (.tup [.str (Str.ofString "unlike")]) := upd_same
      generalize upd H2 pu (HO.tup [V.str (Str.ofString "unlike")]) = G3 at e3 hpu ⊢
      refine ⟨_, _, dUn _ _ (e3 _ _ hp1), dUn _ _ hpu, by decide +kernel, by decide +kernel, _, rfl, ?_⟩
      rw [show PyData.eqv (.tuple [.str (Str.ofString "unlike")]) (.tuple [.str (Str.ofString "unlike")]) = true from by decide +kernel]
      refine iteF ?_
      have u3 := (u1.same e2).same e3
      exact ⟨_, _, _, _, _, _, _, _, _, _, _, _, _, _, _, _, _, _, _, _, _, _, _, _, rfl, u3.S.more (by omega), u3.tb⟩
    · rintro σ H2 ⟨_, _, _, _, _, _, _, _, _, _, _, _, _, _, _, _, _, _, _, _, _, _, _, _, rfl, _⟩
      exact q _
end
end Bk

namespace Bk
open PySem PySem.Spec PyProof.Rows L2 LamX NdefX
theorem factsL {P : Program} {w w' : World} {K : PySem.W.Frag} {h h' : Heap} {mg : Str → Option Value} {f : Addr} (X : K.In h) (G : h.Ns mainGlobals mg) (hfa : mg ("law" : Str) = some (.ref f)) (cx : He.SaysX faL fnL [] tfL exL w' h' K) :
    ∃ fd : FuncData, (∀ (s : Shared) (v : Value), BindsTo s fd ⟨[v], []⟩ [("_law_script", v)]) ∧ ∀ base : Heap, K.In base → base.Ns mainGlobals mg → TabB base mg (He.cT K ("law", none)).1 (He.cT K ("law", none)).2 → FnOk P w K mg base CX0 12 f fd ["_law_script"] (spLaw K [((He.cT K ("law", none)).2, qL)]) := by
  have c := He.SaysT.d cx.t
  have mm := cx.more
  unfold exL at mm
  obtain ⟨xe_BadFolders, mm⟩ := Bool.and_eq_true_iff.mp mm
  obtain ⟨xe_BadLot, mm⟩ := Bool.and_eq_true_iff.mp mm
  obtain ⟨xe_BadSize, mm⟩ := Bool.and_eq_true_iff.mp mm
  obtain ⟨xe_BadNumber, mm⟩ := Bool.and_eq_true_iff.mp mm
  obtain ⟨xe_NoFolder, mm⟩ := Bool.and_eq_true_iff.mp mm
  obtain ⟨xe_Taken, mm⟩ := Bool.and_eq_true_iff.mp mm
  obtain ⟨xe_Wrong, mm⟩ := Bool.and_eq_true_iff.mp mm
  obtain ⟨xi_Folders, mm⟩ := Bool.and_eq_true_iff.mp mm
  obtain ⟨xi_Store, mm⟩ := Bool.and_eq_true_iff.mp mm
  obtain ⟨xi_Question, mm⟩ := Bool.and_eq_true_iff.mp mm
  obtain ⟨m3, mm⟩ := Bool.and_eq_true_iff.mp mm
  obtain ⟨m4, mm⟩ := Bool.and_eq_true_iff.mp mm
  obtain ⟨m5, mm⟩ := Bool.and_eq_true_iff.mp mm
  obtain ⟨m6, mm⟩ := Bool.and_eq_true_iff.mp mm
  obtain ⟨m8, mm⟩ := Bool.and_eq_true_iff.mp mm
  obtain ⟨q3, mm⟩ := Bool.and_eq_true_iff.mp mm
  obtain ⟨q4, mm⟩ := Bool.and_eq_true_iff.mp mm
  obtain ⟨q8, mm⟩ := Bool.and_eq_true_iff.mp mm
  obtain ⟨s3, mm⟩ := Bool.and_eq_true_iff.mp mm
  obtain ⟨s4, mm⟩ := Bool.and_eq_true_iff.mp mm
  obtain ⟨s5, mm⟩ := Bool.and_eq_true_iff.mp mm
  obtain ⟨n1, mm⟩ := Bool.and_eq_true_iff.mp mm
  have u1 := mm
  have glo : ∀ (i : Nat) (x : Str), faL[i]? = some (.glo x) → mg x = some (.ref (He.ga K x)) := fun i x e => He.glo_ok X G (c.fact i e)
  have fr : ∀ (i : Nat) (x : Str), faL[i]? = some (.free x) → mg x = none := fun i x e => He.free_ok X G (c.fact i e)
  have B : Bi mg := ⟨fr 142 _ rfl, fr 143 _ rfl, fr 144 _ rfl, fr 145 _ rfl, fr 146 _ rfl, fr 147 _ rfl, fr 148 _ rfl, fr 149 _ rfl, fr 150 _ rfl, fr 151 _ rfl, fr 152 _ rfl, fr 153 _ rfl, fr 154 _ rfl, fr 155 _ rfl⟩
  obtain ⟨fd__wall, D__wall⟩ := c.def_ 0 (d := gd "_wall" (topS 0)) rfl
  have E__wall : Fun K "_wall" "_wall" (topS 0) _ fd__wall := fun_of D__wall
  obtain ⟨fd_is_integer, D_is_integer⟩ := c.def_ 1 (d := gd "is_integer" (topS 15)) rfl
  have E_is_integer : Fun K "is_integer" "is_integer" (topS 15) _ fd_is_integer := fun_of D_is_integer
  obtain ⟨fd_is_list, D_is_list⟩ := c.def_ 2 (d := gd "is_list" (topS 16)) rfl
  have E_is_list : Fun K "is_list" "is_list" (topS 16) _ fd_is_list := fun_of D_is_list
  obtain ⟨fd_is_name, D_is_name⟩ := c.def_ 3 (d := gd "is_name" (topS 17)) rfl
  have E_is_name : Fun K "is_name" "is_name" (topS 17) _ fd_is_name := fun_of D_is_name
  obtain ⟨fd_greatest_divisor, D_greatest_divisor⟩ := c.def_ 4 (d := gd "greatest_divisor" (topS 18)) rfl
  have E_greatest_divisor : Fun K "greatest_divisor" "greatest_divisor" (topS 18) _ fd_greatest_divisor := fun_of D_greatest_divisor
  obtain ⟨fd_fraction, D_fraction⟩ := c.def_ 5 (d := gd "fraction" (topS 19)) rfl
  have E_fraction : Fun K "fraction" "fraction" (topS 19) _ fd_fraction := fun_of D_fraction
  obtain ⟨fd_size_of, D_size_of⟩ := c.def_ 6 (d := gd "size_of" (topS 20)) rfl
  have E_size_of : Fun K "size_of" "size_of" (topS 20) _ fd_size_of := fun_of D_size_of
  obtain ⟨fd_plus, D_plus⟩ := c.def_ 7 (d := gd "plus" (topS 21)) rfl
  have E_plus : Fun K "plus" "plus" (topS 21) _ fd_plus := fun_of D_plus
  obtain ⟨fd_times, D_times⟩ := c.def_ 8 (d := gd "times" (topS 22)) rfl
  have E_times : Fun K "times" "times" (topS 22) _ fd_times := fun_of D_times
  obtain ⟨fd_is_less, D_is_less⟩ := c.def_ 9 (d := gd "is_less" (topS 23)) rfl
  have E_is_less : Fun K "is_less" "is_less" (topS 23) _ fd_is_less := fun_of D_is_less
  obtain ⟨fd_sum_of, D_sum_of⟩ := c.def_ 10 (d := gd "sum_of" (topS 24)) rfl
  have E_sum_of : Fun K "sum_of" "sum_of" (topS 24) _ fd_sum_of := fun_of D_sum_of
  obtain ⟨fd_first_wrong, D_first_wrong⟩ := c.def_ 11 (d := gd "first_wrong" (topS 29)) rfl
  have E_first_wrong : Fun K "first_wrong" "first_wrong" (topS 29) _ fd_first_wrong := fun_of D_first_wrong
  obtain ⟨fd_choices, D_choices⟩ := c.def_ 12 (d := gd "choices" (topS 30)) rfl
  have E_choices : Fun K "choices" "choices" (topS 30) _ fd_choices := fun_of D_choices
  obtain ⟨fd_choices_of, D_choices_of⟩ := c.def_ 13 (d := gd "choices_of" (topS 31)) rfl
  have E_choices_of : Fun K "choices_of" "choices_of" (topS 31) _ fd_choices_of := fun_of D_choices_of
  obtain ⟨fd_rows_of_neighbours, D_rows_of_neighbours⟩ := c.def_ 14 (d := gd "rows_of_neighbours" (topS 32)) rfl
  have E_rows_of_neighbours : Fun K "rows_of_neighbours" "rows_of_neighbours" (topS 32) _ fd_rows_of_neighbours := fun_of D_rows_of_neighbours
  obtain ⟨fd_lot_of, D_lot_of⟩ := c.def_ 15 (d := gd "lot_of" (topS 33)) rfl
  have E_lot_of : Fun K "lot_of" "lot_of" (topS 33) _ fd_lot_of := fun_of D_lot_of
  obtain ⟨fd_check_named, D_check_named⟩ := c.def_ 16 (d := gd "check_named" (topS 34)) rfl
  have E_check_named : Fun K "check_named" "check_named" (topS 34) _ fd_check_named := fun_of D_check_named
  obtain ⟨fd_by_lots, D_by_lots⟩ := c.def_ 17 (d := gd "by_lots" (topS 37)) rfl
  have E_by_lots : Fun K "by_lots" "by_lots" (topS 37) _ fd_by_lots := fun_of D_by_lots
  obtain ⟨fd_sizes_seen, D_sizes_seen⟩ := c.def_ 18 (d := gd "sizes_seen" (topS 38)) rfl
  have E_sizes_seen : Fun K "sizes_seen" "sizes_seen" (topS 38) _ fd_sizes_seen := fun_of D_sizes_seen
  obtain ⟨fd_check_names, D_check_names⟩ := c.def_ 19 (d := gd "check_names" (topS 39)) rfl
  have E_check_names : Fun K "check_names" "check_names" (topS 39) _ fd_check_names := fun_of D_check_names
  obtain ⟨fd_numbers_by_lots, D_numbers_by_lots⟩ := c.def_ 20 (d := gd "numbers_by_lots" (topS 42)) rfl
  have E_numbers_by_lots : Fun K "numbers_by_lots" "numbers_by_lots" (topS 42) _ fd_numbers_by_lots := fun_of D_numbers_by_lots
  obtain ⟨fd_added, D_added⟩ := c.def_ 21 (d := gd "added" (topS 43)) rfl
  have E_added : Fun K "added" "added" (topS 43) _ fd_added := fun_of D_added
  obtain ⟨fd_first_more, D_first_more⟩ := c.def_ 22 (d := gd "first_more" (topS 44)) rfl
  have E_first_more : Fun K "first_more" "first_more" (topS 44) _ fd_first_more := fun_of D_first_more
  obtain ⟨fd_more_at, D_more_at⟩ := c.def_ 23 (d := gd "more_at" (topS 45)) rfl
  have E_more_at : Fun K "more_at" "more_at" (topS 45) _ fd_more_at := fun_of D_more_at
  obtain ⟨fd_counting, D_counting⟩ := c.def_ 24 (d := gd "counting" (topS 46)) rfl
  have E_counting : Fun K "counting" "counting" (topS 46) _ fd_counting := fun_of D_counting
  obtain ⟨fd_refers, D_refers⟩ := c.def_ 25 (d := gd "refers" (topS 47)) rfl
  have E_refers : Fun K "refers" "refers" (topS 47) _ fd_refers := fun_of D_refers
  obtain ⟨fd_freed, D_freed⟩ := c.def_ 26 (d := gd "freed" (topS 48)) rfl
  have E_freed : Fun K "freed" "freed" (topS 48) _ fd_freed := fun_of D_freed
  obtain ⟨fd_shared, D_shared⟩ := c.def_ 27 (d := gd "shared" (topS 49)) rfl
  have E_shared : Fun K "shared" "shared" (topS 49) _ fd_shared := fun_of D_shared
  obtain ⟨fd_just, D_just⟩ := c.def_ 28 (d := gd "just" (topS 50)) rfl
  have E_just : Fun K "just" "just" (topS 50) _ fd_just := fun_of D_just
  obtain ⟨fd_sent, D_sent⟩ := c.def_ 29 (d := gd "sent" (topS 51)) rfl
  have E_sent : Fun K "sent" "sent" (topS 51) _ fd_sent := fun_of D_sent
  obtain ⟨fd_whole, D_whole⟩ := c.def_ 30 (d := gd "whole" (topS 52)) rfl
  have E_whole : Fun K "whole" "whole" (topS 52) _ fd_whole := fun_of D_whole
  obtain ⟨fd__law_start, D__law_start⟩ := c.def_ 31 (d := gd "_law_start" (topS 54)) rfl
  have E__law_start : Fun K "_law_start" "_law_start" (topS 54) _ fd__law_start := fun_of D__law_start
  obtain ⟨fd__law_draw, D__law_draw⟩ := c.def_ 32 (d := gd "_law_draw" (topS 55)) rfl
  have E__law_draw : Fun K "_law_draw" "_law_draw" (topS 55) _ fd__law_draw := fun_of D__law_draw
  obtain ⟨fd__law_pick, D__law_pick⟩ := c.def_ 33 (d := gd "_law_pick" (topS 56)) rfl
  have E__law_pick : Fun K "_law_pick" "_law_pick" (topS 56) _ fd__law_pick := fun_of D__law_pick
  obtain ⟨fd__law_mixed, D__law_mixed⟩ := c.def_ 34 (d := gd "_law_mixed" (topS 57)) rfl
  have E__law_mixed : Fun K "_law_mixed" "_law_mixed" (topS 57) _ fd__law_mixed := fun_of D__law_mixed
  obtain ⟨fd__law_same, D__law_same⟩ := c.def_ 35 (d := gd "_law_same" (topS 58)) rfl
  have E__law_same : Fun K "_law_same" "_law_same" (topS 58) _ fd__law_same := fun_of D__law_same
  obtain ⟨fd__law_name, D__law_name⟩ := c.def_ 36 (d := gd "_law_name" (topS 59)) rfl
  have E__law_name : Fun K "_law_name" "_law_name" (topS 59) _ fd__law_name := fun_of D__law_name
  obtain ⟨fd__law_names, D__law_names⟩ := c.def_ 37 (d := gd "_law_names" (topS 60)) rfl
  have E__law_names : Fun K "_law_names" "_law_names" (topS 60) _ fd__law_names := fun_of D__law_names
  obtain ⟨fd__law_spare, D__law_spare⟩ := c.def_ 38 (d := gd "_law_spare" (topS 61)) rfl
  have E__law_spare : Fun K "_law_spare" "_law_spare" (topS 61) _ fd__law_spare := fun_of D__law_spare
  obtain ⟨fd__law_f_lowest, D__law_f_lowest⟩ := c.def_ 39 (d := gd "_law_f_lowest" (topS 62)) rfl
  have E__law_f_lowest : Fun K "_law_f_lowest" "_law_f_lowest" (topS 62) _ fd__law_f_lowest := fun_of D__law_f_lowest
  obtain ⟨fd__law_f_plus, D__law_f_plus⟩ := c.def_ 40 (d := gd "_law_f_plus" (topS 63)) rfl
  have E__law_f_plus : Fun K "_law_f_plus" "_law_f_plus" (topS 63) _ fd__law_f_plus := fun_of D__law_f_plus
  obtain ⟨fd__law_f_times, D__law_f_times⟩ := c.def_ 41 (d := gd "_law_f_times" (topS 64)) rfl
  have E__law_f_times : Fun K "_law_f_times" "_law_f_times" (topS 64) _ fd__law_f_times := fun_of D__law_f_times
  obtain ⟨fd__law_f_below, D__law_f_below⟩ := c.def_ 42 (d := gd "_law_f_below" (topS 65)) rfl
  have E__law_f_below : Fun K "_law_f_below" "_law_f_below" (topS 65) _ fd__law_f_below := fun_of D__law_f_below
  obtain ⟨fd__law_b_rows, D__law_b_rows⟩ := c.def_ 43 (d := gd "_law_b_rows" (topS 66)) rfl
  have E__law_b_rows : Fun K "_law_b_rows" "_law_b_rows" (topS 66) _ fd__law_b_rows := fun_of D__law_b_rows
  obtain ⟨fd__law_b_lots, D__law_b_lots⟩ := c.def_ 44 (d := gd "_law_b_lots" (topS 67)) rfl
  have E__law_b_lots : Fun K "_law_b_lots" "_law_b_lots" (topS 67) _ fd__law_b_lots := fun_of D__law_b_lots
  obtain ⟨fd__law_b_house, D__law_b_house⟩ := c.def_ 45 (d := gd "_law_b_house" (topS 68)) rfl
  have E__law_b_house : Fun K "_law_b_house" "_law_b_house" (topS 68) _ fd__law_b_house := fun_of D__law_b_house
  obtain ⟨fd__law_b_sizes, D__law_b_sizes⟩ := c.def_ 46 (d := gd "_law_b_sizes" (topS 69)) rfl
  have E__law_b_sizes : Fun K "_law_b_sizes" "_law_b_sizes" (topS 69) _ fd__law_b_sizes := fun_of D__law_b_sizes
  obtain ⟨fd__law_b_store, D__law_b_store⟩ := c.def_ 47 (d := gd "_law_b_store" (topS 70)) rfl
  have E__law_b_store : Fun K "_law_b_store" "_law_b_store" (topS 70) _ fd__law_b_store := fun_of D__law_b_store
  obtain ⟨fd__law_b_answer, D__law_b_answer⟩ := c.def_ 48 (d := gd "_law_b_answer" (topS 71)) rfl
  have E__law_b_answer : Fun K "_law_b_answer" "_law_b_answer" (topS 71) _ fd__law_b_answer := fun_of D__law_b_answer
  obtain ⟨fd__law_q_counted, D__law_q_counted⟩ := c.def_ 49 (d := gd "_law_q_counted" (topS 72)) rfl
  have E__law_q_counted : Fun K "_law_q_counted" "_law_q_counted" (topS 72) _ fd__law_q_counted := fun_of D__law_q_counted
  obtain ⟨fd__law_q_made, D__law_q_made⟩ := c.def_ 50 (d := gd "_law_q_made" (topS 73)) rfl
  have E__law_q_made : Fun K "_law_q_made" "_law_q_made" (topS 73) _ fd__law_q_made := fun_of D__law_q_made
  obtain ⟨fd__law_q_named, D__law_q_named⟩ := c.def_ 51 (d := gd "_law_q_named" (topS 74)) rfl
  have E__law_q_named : Fun K "_law_q_named" "_law_q_named" (topS 74) _ fd__law_q_named := fun_of D__law_q_named
  obtain ⟨fd__law_q_drawn, D__law_q_drawn⟩ := c.def_ 52 (d := gd "_law_q_drawn" (topS 75)) rfl
  have E__law_q_drawn : Fun K "_law_q_drawn" "_law_q_drawn" (topS 75) _ fd__law_q_drawn := fun_of D__law_q_drawn
  obtain ⟨fd__law_k_refused, D__law_k_refused⟩ := c.def_ 53 (d := gd "_law_k_refused" (topS 76)) rfl
  have E__law_k_refused : Fun K "_law_k_refused" "_law_k_refused" (topS 76) _ fd__law_k_refused := fun_of D__law_k_refused
  obtain ⟨fd_law, D_law⟩ := c.def_ 54 (d := gd "law" (topS 77)) rfl
  have E_law : Fun K "law" "law" (topS 77) _ fd_law := fun_of D_law
  obtain ⟨fd_BadFolders_init, D_BadFolders_init⟩ := c.def_ 55 (d := md "BadFolders" "__init__" "BadFolders.__init__" (inClass (topS 3) 0) []) rfl
  have E_BadFolders_init : Fun K "__init__" "BadFolders.__init__" (inClass (topS 3) 0) _ fd_BadFolders_init := fun_of D_BadFolders_init
  obtain ⟨fd_BadLot_init, D_BadLot_init⟩ := c.def_ 56 (d := md "BadLot" "__init__" "BadLot.__init__" (inClass (topS 4) 0) []) rfl
  have E_BadLot_init : Fun K "__init__" "BadLot.__init__" (inClass (topS 4) 0) _ fd_BadLot_init := fun_of D_BadLot_init
  obtain ⟨fd_BadSize_init, D_BadSize_init⟩ := c.def_ 57 (d := md "BadSize" "__init__" "BadSize.__init__" (inClass (topS 5) 0) []) rfl
  have E_BadSize_init : Fun K "__init__" "BadSize.__init__" (inClass (topS 5) 0) _ fd_BadSize_init := fun_of D_BadSize_init
  obtain ⟨fd_BadNumber_init, D_BadNumber_init⟩ := c.def_ 58 (d := md "BadNumber" "__init__" "BadNumber.__init__" (inClass (topS 6) 0) []) rfl
  have E_BadNumber_init : Fun K "__init__" "BadNumber.__init__" (inClass (topS 6) 0) _ fd_BadNumber_init := fun_of D_BadNumber_init
  obtain ⟨fd_NoFolder_init, D_NoFolder_init⟩ := c.def_ 59 (d := md "NoFolder" "__init__" "NoFolder.__init__" (inClass (topS 7) 0) []) rfl
  have E_NoFolder_init : Fun K "__init__" "NoFolder.__init__" (inClass (topS 7) 0) _ fd_NoFolder_init := fun_of D_NoFolder_init
  obtain ⟨fd_Taken_init, D_Taken_init⟩ := c.def_ 60 (d := md "Taken" "__init__" "Taken.__init__" (inClass (topS 8) 0) []) rfl
  have E_Taken_init : Fun K "__init__" "Taken.__init__" (inClass (topS 8) 0) _ fd_Taken_init := fun_of D_Taken_init
  obtain ⟨fd_Wrong_init, D_Wrong_init⟩ := c.def_ 61 (d := md "Wrong" "__init__" "Wrong.__init__" (inClass (topS 10) 0) []) rfl
  have E_Wrong_init : Fun K "__init__" "Wrong.__init__" (inClass (topS 10) 0) _ fd_Wrong_init := fun_of D_Wrong_init
  obtain ⟨fd_Folders_init, D_Folders_init⟩ := c.def_ 62 (d := md "Folders" "__init__" "Folders.__init__" (inClass (topS 28) 0) [("chain", .bl false)]) rfl
  have F_Folders_init : FunD K "__init__" "Folders.__init__" (defArgs (inClass (topS 28) 0)) (defBody (inClass (topS 28) 0)) (defScope (inClass (topS 28) 0)) [] [("chain", .bl false)] _ fd_Folders_init := D_Folders_init
  obtain ⟨fd_Folders_len, D_Folders_len⟩ := c.def_ 63 (d := md "Folders" "__len__" "Folders.__len__" (inClass (topS 28) 1) []) rfl
  have E_Folders_len : Fun K "__len__" "Folders.__len__" (inClass (topS 28) 1) _ fd_Folders_len := fun_of D_Folders_len
  obtain ⟨fd_Folders_contains, D_Folders_contains⟩ := c.def_ 64 (d := md "Folders" "__contains__" "Folders.__contains__" (inClass (topS 28) 2) []) rfl
  have E_Folders_contains : Fun K "__contains__" "Folders.__contains__" (inClass (topS 28) 2) _ fd_Folders_contains := fun_of D_Folders_contains
  obtain ⟨fd_Folders_eq, D_Folders_eq⟩ := c.def_ 65 (d := md "Folders" "__eq__" "Folders.__eq__" (inClass (topS 28) 3) []) rfl
  have E_Folders_eq : Fun K "__eq__" "Folders.__eq__" (inClass (topS 28) 3) _ fd_Folders_eq := fun_of D_Folders_eq
  obtain ⟨fd_Folders_lots, D_Folders_lots⟩ := c.def_ 66 (d := md "Folders" "lots" "Folders.lots" (inClass (topS 28) 4) []) rfl
  have E_Folders_lots : Fun K "lots" "Folders.lots" (inClass (topS 28) 4) _ fd_Folders_lots := fun_of D_Folders_lots
  obtain ⟨fd_Store_init, D_Store_init⟩ := c.def_ 67 (d := mdd "Store" "__init__" "Store.__init__" (inClass (topS 36) 0) [.non]) rfl
  have F_Store_init : FunD K "__init__" "Store.__init__" (defArgs (inClass (topS 36) 0)) (defBody (inClass (topS 36) 0)) (defScope (inClass (topS 36) 0)) [.non] [] _ fd_Store_init := D_Store_init
  obtain ⟨fd_Store_call, D_Store_call⟩ := c.def_ 68 (d := md "Store" "__call__" "Store.__call__" (inClass (topS 36) 2) []) rfl
  have E_Store_call : Fun K "__call__" "Store.__call__" (inClass (topS 36) 2) _ fd_Store_call := fun_of D_Store_call
  obtain ⟨fd_Store_getitem, D_Store_getitem⟩ := c.def_ 69 (d := md "Store" "__getitem__" "Store.__getitem__" (inClass (topS 36) 3) []) rfl
  have E_Store_getitem : Fun K "__getitem__" "Store.__getitem__" (inClass (topS 36) 3) _ fd_Store_getitem := fun_of D_Store_getitem
  obtain ⟨fd_Store_iter, D_Store_iter⟩ := c.def_ 70 (d := md "Store" "__iter__" "Store.__iter__" (inClass (topS 36) 4) []) rfl
  have E_Store_iter : Fun K "__iter__" "Store.__iter__" (inClass (topS 36) 4) _ fd_Store_iter := fun_of D_Store_iter
  obtain ⟨fd_Store_contains, D_Store_contains⟩ := c.def_ 71 (d := md "Store" "__contains__" "Store.__contains__" (inClass (topS 36) 5) []) rfl
  have E_Store_contains : Fun K "__contains__" "Store.__contains__" (inClass (topS 36) 5) _ fd_Store_contains := fun_of D_Store_contains
  obtain ⟨fd_Store_len, D_Store_len⟩ := c.def_ 72 (d := md "Store" "__len__" "Store.__len__" (inClass (topS 36) 6) []) rfl
  have E_Store_len : Fun K "__len__" "Store.__len__" (inClass (topS 36) 6) _ fd_Store_len := fun_of D_Store_len
  obtain ⟨fd_Store_eq, D_Store_eq⟩ := c.def_ 73 (d := md "Store" "__eq__" "Store.__eq__" (inClass (topS 36) 7) []) rfl
  have E_Store_eq : Fun K "__eq__" "Store.__eq__" (inClass (topS 36) 7) _ fd_Store_eq := fun_of D_Store_eq
  obtain ⟨fd_Store_le, D_Store_le⟩ := c.def_ 74 (d := md "Store" "__le__" "Store.__le__" (inClass (topS 36) 8) []) rfl
  have E_Store_le : Fun K "__le__" "Store.__le__" (inClass (topS 36) 8) _ fd_Store_le := fun_of D_Store_le
  obtain ⟨fd_Store_add, D_Store_add⟩ := c.def_ 75 (d := md "Store" "__add__" "Store.__add__" (inClass (topS 36) 9) []) rfl
  have E_Store_add : Fun K "__add__" "Store.__add__" (inClass (topS 36) 9) _ fd_Store_add := fun_of D_Store_add
  obtain ⟨fd_Store_mul, D_Store_mul⟩ := c.def_ 76 (d := md "Store" "__mul__" "Store.__mul__" (inClass (topS 36) 10) []) rfl
  have E_Store_mul : Fun K "__mul__" "Store.__mul__" (inClass (topS 36) 10) _ fd_Store_mul := fun_of D_Store_mul
  obtain ⟨fd_Store_rmul, D_Store_rmul⟩ := c.def_ 77 (d := md "Store" "__rmul__" "Store.__rmul__" (inClass (topS 36) 11) []) rfl
  have E_Store_rmul : Fun K "__rmul__" "Store.__rmul__" (inClass (topS 36) 11) _ fd_Store_rmul := fun_of D_Store_rmul
  obtain ⟨fd_Store_or, D_Store_or⟩ := c.def_ 78 (d := md "Store" "__or__" "Store.__or__" (inClass (topS 36) 12) []) rfl
  have E_Store_or : Fun K "__or__" "Store.__or__" (inClass (topS 36) 12) _ fd_Store_or := fun_of D_Store_or
  obtain ⟨fd_Store_and, D_Store_and⟩ := c.def_ 79 (d := md "Store" "__and__" "Store.__and__" (inClass (topS 36) 13) []) rfl
  have E_Store_and : Fun K "__and__" "Store.__and__" (inClass (topS 36) 13) _ fd_Store_and := fun_of D_Store_and
  obtain ⟨fd_Store_sizes, D_Store_sizes⟩ := c.def_ 80 (d := md "Store" "sizes" "Store.sizes" (inClass (topS 36) 14) []) rfl
  have E_Store_sizes : Fun K "sizes" "Store.sizes" (inClass (topS 36) 14) _ fd_Store_sizes := fun_of D_Store_sizes
  obtain ⟨fd_Store_total, D_Store_total⟩ := c.def_ 81 (d := md "Store" "total" "Store.total" (inClass (topS 36) 15) []) rfl
  have E_Store_total : Fun K "total" "Store.total" (inClass (topS 36) 15) _ fd_Store_total := fun_of D_Store_total
  obtain ⟨fd_Store_strike, D_Store_strike⟩ := c.def_ 82 (d := md "Store" "strike" "Store.strike" (inClass (topS 36) 16) []) rfl
  have E_Store_strike : Fun K "strike" "Store.strike" (inClass (topS 36) 16) _ fd_Store_strike := fun_of D_Store_strike
  obtain ⟨fd_Store_copy, D_Store_copy⟩ := c.def_ 83 (d := md "Store" "copy" "Store.copy" (inClass (topS 36) 17) []) rfl
  have E_Store_copy : Fun K "copy" "Store.copy" (inClass (topS 36) 17) _ fd_Store_copy := fun_of D_Store_copy
  obtain ⟨fd_Store_write, D_Store_write⟩ := c.def_ 84 (d := md "Store" "write" "Store.write" (inClass (topS 36) 18) []) rfl
  have E_Store_write : Fun K "write" "Store.write" (inClass (topS 36) 18) _ fd_Store_write := fun_of D_Store_write
  obtain ⟨fd_Store_share, D_Store_share⟩ := c.def_ 85 (d := md "Store" "share" "Store.share" (inClass (topS 36) 19) []) rfl
  have E_Store_share : Fun K "share" "Store.share" (inClass (topS 36) 19) _ fd_Store_share := fun_of D_Store_share
  obtain ⟨fd_Store_leave, D_Store_leave⟩ := c.def_ 86 (d := md "Store" "leave" "Store.leave" (inClass (topS 36) 20) []) rfl
  have E_Store_leave : Fun K "leave" "Store.leave" (inClass (topS 36) 20) _ fd_Store_leave := fun_of D_Store_leave
  obtain ⟨fd_Store_rename, D_Store_rename⟩ := c.def_ 87 (d := md "Store" "rename" "Store.rename" (inClass (topS 36) 21) []) rfl
  have E_Store_rename : Fun K "rename" "Store.rename" (inClass (topS 36) 21) _ fd_Store_rename := fun_of D_Store_rename
  obtain ⟨fd_Question_init, D_Question_init⟩ := c.def_ 88 (d := mdd "Question" "__init__" "Question.__init__" (inClass (topS 41) 0) [.non]) rfl
  have F_Question_init : FunD K "__init__" "Question.__init__" (defArgs (inClass (topS 41) 0)) (defBody (inClass (topS 41) 0)) (defScope (inClass (topS 41) 0)) [.non] [] _ fd_Question_init := D_Question_init
  obtain ⟨fd_Question_eq, D_Question_eq⟩ := c.def_ 89 (d := md "Question" "__eq__" "Question.__eq__" (inClass (topS 41) 1) []) rfl
  have E_Question_eq : Fun K "__eq__" "Question.__eq__" (inClass (topS 41) 1) _ fd_Question_eq := fun_of D_Question_eq
  obtain ⟨fd_Question_le, D_Question_le⟩ := c.def_ 90 (d := md "Question" "__le__" "Question.__le__" (inClass (topS 41) 2) []) rfl
  have E_Question_le : Fun K "__le__" "Question.__le__" (inClass (topS 41) 2) _ fd_Question_le := fun_of D_Question_le
  obtain ⟨fd_Question_add, D_Question_add⟩ := c.def_ 91 (d := md "Question" "__add__" "Question.__add__" (inClass (topS 41) 3) []) rfl
  have E_Question_add : Fun K "__add__" "Question.__add__" (inClass (topS 41) 3) _ fd_Question_add := fun_of D_Question_add
  obtain ⟨fd_Question_sub, D_Question_sub⟩ := c.def_ 92 (d := md "Question" "__sub__" "Question.__sub__" (inClass (topS 41) 4) []) rfl
  have E_Question_sub : Fun K "__sub__" "Question.__sub__" (inClass (topS 41) 4) _ fd_Question_sub := fun_of D_Question_sub
  obtain ⟨fd_Question_neg, D_Question_neg⟩ := c.def_ 93 (d := md "Question" "__neg__" "Question.__neg__" (inClass (topS 41) 5) []) rfl
  have E_Question_neg : Fun K "__neg__" "Question.__neg__" (inClass (topS 41) 5) _ fd_Question_neg := fun_of D_Question_neg
  obtain ⟨fd_Question_mul, D_Question_mul⟩ := c.def_ 94 (d := md "Question" "__mul__" "Question.__mul__" (inClass (topS 41) 6) []) rfl
  have E_Question_mul : Fun K "__mul__" "Question.__mul__" (inClass (topS 41) 6) _ fd_Question_mul := fun_of D_Question_mul
  obtain ⟨fd_Question_rmul, D_Question_rmul⟩ := c.def_ 95 (d := md "Question" "__rmul__" "Question.__rmul__" (inClass (topS 41) 7) []) rfl
  have E_Question_rmul : Fun K "__rmul__" "Question.__rmul__" (inClass (topS 41) 7) _ fd_Question_rmul := fun_of D_Question_rmul
  obtain ⟨fd_Question_weight, D_Question_weight⟩ := c.def_ 96 (d := md "Question" "weight" "Question.weight" (inClass (topS 41) 8) []) rfl
  have E_Question_weight : Fun K "weight" "Question.weight" (inClass (topS 41) 8) _ fd_Question_weight := fun_of D_Question_weight
  obtain ⟨fd_Question_counts, D_Question_counts⟩ := c.def_ 97 (d := md "Question" "counts" "Question.counts" (inClass (topS 41) 9) []) rfl
  have E_Question_counts : Fun K "counts" "Question.counts" (inClass (topS 41) 9) _ fd_Question_counts := fun_of D_Question_counts
  obtain ⟨fd_Question_in_freed, D_Question_in_freed⟩ := c.def_ 98 (d := md "Question" "in_freed" "Question.in_freed" (inClass (topS 41) 10) []) rfl
  have E_Question_in_freed : Fun K "in_freed" "Question.in_freed" (inClass (topS 41) 10) _ fd_Question_in_freed := fun_of D_Question_in_freed
  have g__wall := glo 0 "_wall" rfl
  have g_is_integer := glo 1 "is_integer" rfl
  have g_is_list := glo 2 "is_list" rfl
  have g_is_name := glo 3 "is_name" rfl
  have g_greatest_divisor := glo 4 "greatest_divisor" rfl
  have g_fraction := glo 5 "fraction" rfl
  have g_size_of := glo 6 "size_of" rfl
  have g_plus := glo 7 "plus" rfl
  have g_times := glo 8 "times" rfl
  have g_is_less := glo 9 "is_less" rfl
  have g_sum_of := glo 10 "sum_of" rfl
  have g_first_wrong := glo 11 "first_wrong" rfl
  have g_choices := glo 12 "choices" rfl
  have g_choices_of := glo 13 "choices_of" rfl
  have g_rows_of_neighbours := glo 14 "rows_of_neighbours" rfl
  have g_lot_of := glo 15 "lot_of" rfl
  have g_check_named := glo 16 "check_named" rfl
  have g_by_lots := glo 17 "by_lots" rfl
  have g_sizes_seen := glo 18 "sizes_seen" rfl
  have g_check_names := glo 19 "check_names" rfl
  have g_numbers_by_lots := glo 20 "numbers_by_lots" rfl
  have g_added := glo 21 "added" rfl
  have g_first_more := glo 22 "first_more" rfl
  have g_more_at := glo 23 "more_at" rfl
  have g_counting := glo 24 "counting" rfl
  have g_refers := glo 25 "refers" rfl
  have g_freed := glo 26 "freed" rfl
  have g_shared := glo 27 "shared" rfl
  have g_just := glo 28 "just" rfl
  have g_sent := glo 29 "sent" rfl
  have g_whole := glo 30 "whole" rfl
  have g__law_start := glo 31 "_law_start" rfl
  have g__law_draw := glo 32 "_law_draw" rfl
  have g__law_pick := glo 33 "_law_pick" rfl
  have g__law_mixed := glo 34 "_law_mixed" rfl
  have g__law_same := glo 35 "_law_same" rfl
  have g__law_name := glo 36 "_law_name" rfl
  have g__law_names := glo 37 "_law_names" rfl
  have g__law_spare := glo 38 "_law_spare" rfl
  have g__law_f_lowest := glo 39 "_law_f_lowest" rfl
  have g__law_f_plus := glo 40 "_law_f_plus" rfl
  have g__law_f_times := glo 41 "_law_f_times" rfl
  have g__law_f_below := glo 42 "_law_f_below" rfl
  have g__law_b_rows := glo 43 "_law_b_rows" rfl
  have g__law_b_lots := glo 44 "_law_b_lots" rfl
  have g__law_b_house := glo 45 "_law_b_house" rfl
  have g__law_b_sizes := glo 46 "_law_b_sizes" rfl
  have g__law_b_store := glo 47 "_law_b_store" rfl
  have g__law_b_answer := glo 48 "_law_b_answer" rfl
  have g__law_q_counted := glo 49 "_law_q_counted" rfl
  have g__law_q_made := glo 50 "_law_q_made" rfl
  have g__law_q_named := glo 51 "_law_q_named" rfl
  have g__law_q_drawn := glo 52 "_law_q_drawn" rfl
  have g__law_k_refused := glo 53 "_law_k_refused" rfl
  have g_law := glo 54 "law" rfl
  have g_BadFolders := glo 55 "BadFolders" rfl
  have g_BadLot := glo 56 "BadLot" rfl
  have g_BadSize := glo 57 "BadSize" rfl
  have g_BadNumber := glo 58 "BadNumber" rfl
  have g_NoFolder := glo 59 "NoFolder" rfl
  have g_Taken := glo 60 "Taken" rfl
  have g_Wrong := glo 61 "Wrong" rfl
  have g_UnlikeFolders := glo 62 "UnlikeFolders" rfl
  have g_Folders := glo 63 "Folders" rfl
  have g_Store := glo 64 "Store" rfl
  have g_Question := glo 65 "Question" rfl
  have g_NOTHING := glo 66 "NOTHING" rfl
  have e := hfa.symm.trans g_law
  cases e
  obtain ⟨t_LETTERS, k_LETTERS⟩ := He.str_ok X G (c.fact 67 (f := .str "LETTERS" "abcdefghijklmnopqrstuvwxyz") rfl)
  obtain ⟨t_LONGEST_NAME, k_LONGEST_NAME⟩ := He.int_ok X G (c.fact 68 (f := .int "LONGEST_NAME" 8) rfl)
  obtain ⟨t_MOST_FOLDERS, k_MOST_FOLDERS⟩ := He.int_ok X G (c.fact 69 (f := .int "MOST_FOLDERS" 5) rfl)
  obtain ⟨t_MOST_IN_CHAIN, k_MOST_IN_CHAIN⟩ := He.int_ok X G (c.fact 70 (f := .int "MOST_IN_CHAIN" 12) rfl)
  have M_BadFolders := He.meth_ok (c.fact 71 (f := .meth "BadFolders" "__init__") rfl)
  have T_BadFolders : ExT K mg "BadFolders" _ _ "index" := errB_ok xe_BadFolders g_BadFolders (He.noat_ok (c.fact 72 (f := .noat "BadFolders" "index") rfl)) M_BadFolders.at_ (He.exm_ok (c.fact 73 (f := .exm "BadFolders" "BadFolders" true) rfl))
  have M_BadLot := He.meth_ok (c.fact 74 (f := .meth "BadLot" "__init__") rfl)
  have T_BadLot : ExT K mg "BadLot" _ _ "lot" := errB_ok xe_BadLot g_BadLot (He.noat_ok (c.fact 75 (f := .noat "BadLot" "lot") rfl)) M_BadLot.at_ (He.exm_ok (c.fact 76 (f := .exm "BadLot" "BadLot" true) rfl))
  have M_BadSize := He.meth_ok (c.fact 77 (f := .meth "BadSize" "__init__") rfl)
  have T_BadSize : ExT K mg "BadSize" _ _ "size" := errB_ok xe_BadSize g_BadSize (He.noat_ok (c.fact 78 (f := .noat "BadSize" "size") rfl)) M_BadSize.at_ (He.exm_ok (c.fact 79 (f := .exm "BadSize" "BadSize" true) rfl))
  have M_BadNumber := He.meth_ok (c.fact 80 (f := .meth "BadNumber" "__init__") rfl)
  have T_BadNumber : ExT K mg "BadNumber" _ _ "number" := errB_ok xe_BadNumber g_BadNumber (He.noat_ok (c.fact 81 (f := .noat "BadNumber" "number") rfl)) M_BadNumber.at_ (He.exm_ok (c.fact 82 (f := .exm "BadNumber" "BadNumber" true) rfl))
  have M_NoFolder := He.meth_ok (c.fact 83 (f := .meth "NoFolder" "__init__") rfl)
  have T_NoFolder : ExT K mg "NoFolder" _ _ "name" := errB_ok xe_NoFolder g_NoFolder (He.noat_ok (c.fact 84 (f := .noat "NoFolder" "name") rfl)) M_NoFolder.at_ (He.exm_ok (c.fact 85 (f := .exm "NoFolder" "NoFolder" true) rfl))
  have M_Taken := He.meth_ok (c.fact 86 (f := .meth "Taken" "__init__") rfl)
  have T_Taken : ExT K mg "Taken" _ _ "name" := errB_ok xe_Taken g_Taken (He.noat_ok (c.fact 87 (f := .noat "Taken" "name") rfl)) M_Taken.at_ (He.exm_ok (c.fact 88 (f := .exm "Taken" "Taken" true) rfl))
  have M_Wrong := He.meth_ok (c.fact 89 (f := .meth "Wrong" "__init__") rfl)
  have T_Wrong : ExT K mg "Wrong" _ _ "weights" := errB_ok xe_Wrong g_Wrong (He.noat_ok (c.fact 90 (f := .noat "Wrong" "weights") rfl)) M_Wrong.at_ (He.exm_ok (c.fact 91 (f := .exm "Wrong" "Wrong" true) rfl))
  have cl_Folders := He.cls_ok (c.fact 94 (f := .cls "Folders") rfl)
  have a_Folders_names := He.noat_ok (c.fact 95 (f := .noat "Folders" "names") rfl)
  have a_Folders_chain := He.noat_ok (c.fact 96 (f := .noat "Folders" "chain") rfl)
  have a_Folders_places := He.noat_ok (c.fact 97 (f := .noat "Folders" "places") rfl)
  have r_Folders := He.mkr_ok (c.fact 98 (f := .mkr "Folders") rfl)
  have m_Folders_len := He.meth_ok (c.fact 99 (f := .meth "Folders" "__len__") rfl)
  have m_Folders_contains := He.meth_ok (c.fact 100 (f := .meth "Folders" "__contains__") rfl)
  have m_Folders_eq := He.meth_ok (c.fact 101 (f := .meth "Folders" "__eq__") rfl)
  have m_Folders_lots := He.meth_ok (c.fact 102 (f := .meth "Folders" "lots") rfl)
  have cl_Store := He.cls_ok (c.fact 103 (f := .cls "Store") rfl)
  have a_Store_folders := He.noat_ok (c.fact 104 (f := .noat "Store" "folders") rfl)
  have a_Store_table := He.noat_ok (c.fact 105 (f := .noat "Store" "table") rfl)
  have r_Store := He.mkr_ok (c.fact 106 (f := .mkr "Store") rfl)
  have m_Store_call := He.meth_ok (c.fact 107 (f := .meth "Store" "__call__") rfl)
  have m_Store_getitem := He.meth_ok (c.fact 108 (f := .meth "Store" "__getitem__") rfl)
  have m_Store_iter := He.meth_ok (c.fact 109 (f := .meth "Store" "__iter__") rfl)
  have m_Store_contains := He.meth_ok (c.fact 110 (f := .meth "Store" "__contains__") rfl)
  have m_Store_len := He.meth_ok (c.fact 111 (f := .meth "Store" "__len__") rfl)
  have m_Store_eq := He.meth_ok (c.fact 112 (f := .meth "Store" "__eq__") rfl)
  have m_Store_le := He.meth_ok (c.fact 113 (f := .meth "Store" "__le__") rfl)
  have m_Store_add := He.meth_ok (c.fact 114 (f := .meth "Store" "__add__") rfl)
  have m_Store_mul := He.meth_ok (c.fact 115 (f := .meth "Store" "__mul__") rfl)
  have m_Store_rmul := He.meth_ok (c.fact 116 (f := .meth "Store" "__rmul__") rfl)
  have m_Store_or := He.meth_ok (c.fact 117 (f := .meth "Store" "__or__") rfl)
  have m_Store_and := He.meth_ok (c.fact 118 (f := .meth "Store" "__and__") rfl)
  have m_Store_sizes := He.meth_ok (c.fact 119 (f := .meth "Store" "sizes") rfl)
  have m_Store_total := He.meth_ok (c.fact 120 (f := .meth "Store" "total") rfl)
  have m_Store_strike := He.meth_ok (c.fact 121 (f := .meth "Store" "strike") rfl)
  have m_Store_copy := He.meth_ok (c.fact 122 (f := .meth "Store" "copy") rfl)
  have m_Store_write := He.meth_ok (c.fact 123 (f := .meth "Store" "write") rfl)
  have m_Store_share := He.meth_ok (c.fact 124 (f := .meth "Store" "share") rfl)
  have m_Store_leave := He.meth_ok (c.fact 125 (f := .meth "Store" "leave") rfl)
  have m_Store_rename := He.meth_ok (c.fact 126 (f := .meth "Store" "rename") rfl)
  have cl_Question := He.cls_ok (c.fact 127 (f := .cls "Question") rfl)
  have a_Question_folders := He.noat_ok (c.fact 128 (f := .noat "Question" "folders") rfl)
  have a_Question_table := He.noat_ok (c.fact 129 (f := .noat "Question" "table") rfl)
  have r_Question := He.mkr_ok (c.fact 130 (f := .mkr "Question") rfl)
  have m_Question_eq := He.meth_ok (c.fact 131 (f := .meth "Question" "__eq__") rfl)
  have m_Question_le := He.meth_ok (c.fact 132 (f := .meth "Question" "__le__") rfl)
  have m_Question_add := He.meth_ok (c.fact 133 (f := .meth "Question" "__add__") rfl)
  have m_Question_sub := He.meth_ok (c.fact 134 (f := .meth "Question" "__sub__") rfl)
  have m_Question_neg := He.meth_ok (c.fact 135 (f := .meth "Question" "__neg__") rfl)
  have m_Question_mul := He.meth_ok (c.fact 136 (f := .meth "Question" "__mul__") rfl)
  have m_Question_rmul := He.meth_ok (c.fact 137 (f := .meth "Question" "__rmul__") rfl)
  have m_Question_weight := He.meth_ok (c.fact 138 (f := .meth "Question" "weight") rfl)
  have m_Question_counts := He.meth_ok (c.fact 139 (f := .meth "Question" "counts") rfl)
  have m_Question_in_freed := He.meth_ok (c.fact 140 (f := .meth "Question" "in_freed") rfl)
  have hcd : fd_law.code = .ref (He.cT K ("law", none)).1 := by
    obtain ⟨oc, od, kV, doc, pm, an, cdv, ct, osl, rfl, lk, hc⟩ := E_law.ex
    obtain ⟨c, rfl⟩ := He.codeIn_ref hc
    have e := He.codeOf_eq (p := ("law", none)) lk rfl
    show Value.ref c = .ref (He.codeOf K ("law", none))
    rw [e]
  have T : FolT K mg _ _ := ⟨g_Folders, cl_Folders, a_Folders_names, a_Folders_chain, a_Folders_places, r_Folders⟩
  obtain ⟨ds, dF, bF⟩ := FunD.binds0 (ps := ["self", "names", "chain"]) F_Folders_init 2 (fun z => by cases z) rfl fun D doc pm an cdv ct us ks hl hk => match us, hl, ks, hk with
    | [_, _], _, [_], _ => ⟨_, _, _, _, _, _, rfl, rfl, rfl⟩
  obtain ⟨mv, bK⟩ := FunD.kbinds0 (ps := ["self", "names", "chain"]) F_Folders_init 2 ["chain"] [] (fun us mz ws => us ++ ws) (fun z => by cases z) (fun _ m => nomatch m) (fun r1 _ r3 => r1.append r3) fun D doc pm an cdv ct us mv ws l1 l2 l3 => match us, l1, mv, l2, ws, l3 with
    | [_, _], _, [], _, [_], _ => rfl
  have bl : ∀ (s : Shared) (v : Value), BindsTo s fd_law ⟨[v], []⟩ [("_law_script", v)] := fun s v => FunD.bindsA (ps := ["_law_script"]) D_law (fun _ _ _ _ _ _ us hl => match us, hl with | [_], _ => rfl) s [v] rfl
  refine ⟨fd_law, bl, fun base _ _ TBp => ?_⟩
  have c_is_list : Cal P w K mg base CX0 1 "is_list" _ fd_is_list ["thing"] (spIsList K) := ⟨ok_is_list B E_is_list, g_is_list, E_is_list.kp, E_is_list.binds (fun _ _ _ _ _ _ us hl => match us, hl with | [_], _ => rfl)⟩
  have c_is_name : Cal P w K mg base CX0 1 "is_name" _ fd_is_name ["thing"] (spIsName K) := ⟨ok_is_name B k_LETTERS k_LONGEST_NAME E_is_name, g_is_name, E_is_name.kp, E_is_name.binds (fun _ _ _ _ _ _ us hl => match us, hl with | [_], _ => rfl)⟩
  have c_first_wrong : Cal P w K mg base CX0 2 "first_wrong" _ fd_first_wrong ["names", "most"] (spFirstWrong K) := ⟨ok_first B c_is_list c_is_name E_first_wrong, g_first_wrong, E_first_wrong.kp, E_first_wrong.binds (fun _ _ _ _ _ _ us hl => match us, hl with | [_, _], _ => rfl)⟩
  have c_choices_of : Cal P w K mg base CX0 1 "choices_of" _ fd_choices_of ["things", "many"] (spChoicesOf K) := ⟨ok_choices_of B E_choices_of, g_choices_of, E_choices_of.kp, E_choices_of.binds (fun _ _ _ _ _ _ us hl => match us, hl with | [_, _], _ => rfl)⟩
  have c_choices : Cal P w K mg base CX0 2 "choices" _ fd_choices ["things"] (spChoices K) := ⟨ok_choices B c_choices_of E_choices, g_choices, E_choices.kp, E_choices.binds (fun _ _ _ _ _ _ us hl => match us, hl with | [_], _ => rfl)⟩
  have c_rows_of_neighbours : Cal P w K mg base CX0 1 "rows_of_neighbours" _ fd_rows_of_neighbours ["names"] spNeigh := ⟨ok_neigh B E_rows_of_neighbours, g_rows_of_neighbours, E_rows_of_neighbours.kp, E_rows_of_neighbours.binds (fun _ _ _ _ _ _ us hl => match us, hl with | [_], _ => rfl)⟩
  have c__law_start : Cal P w K mg base CX0 1 "_law_start" _ fd__law_start ["_law_script"] (spStart K) := ⟨ok_start B E__law_start, g__law_start, E__law_start.kp, E__law_start.binds (fun _ _ _ _ _ _ us hl => match us, hl with | [_], _ => rfl)⟩
  have c__law_draw : Cal P w K mg base CX0 1 "_law_draw" _ fd__law_draw ["_law_stream", "_law_many"] spDraw := ⟨ok_draw B E__law_draw, g__law_draw, E__law_draw.kp, E__law_draw.binds (fun _ _ _ _ _ _ us hl => match us, hl with | [_, _], _ => rfl)⟩
  have c__law_pick : Cal P w K mg base CX0 2 "_law_pick" _ fd__law_pick ["_law_stream", "_law_some"] (spPick K) := ⟨ok_pick B c__law_draw E__law_pick, g__law_pick, E__law_pick.kp, E__law_pick.binds (fun _ _ _ _ _ _ us hl => match us, hl with | [_, _], _ => rfl)⟩
  have b_same : Binds K fd__law_same ["_law_found", "_law_due"] [] := E__law_same.binds (fun _ _ _ _ _ _ us hl => match us, hl with | [_, _], _ => rfl)
  have c__law_same : Cal P w K mg base CX0 5 "_law_same" _ fd__law_same ["_law_found", "_law_due"] (spSame K 4) := ⟨ok_same B E__law_same g__law_same b_same 4, g__law_same, E__law_same.kp, b_same⟩
  have c__law_name : Cal P w K mg base CX0 3 "_law_name" _ fd__law_name ["_law_stream"] spName := ⟨ok_name B c__law_draw c__law_pick E__law_name, g__law_name, E__law_name.kp, E__law_name.binds (fun _ _ _ _ _ _ us hl => match us, hl with | [_], _ => rfl)⟩
  have c__law_names : Cal P w K mg base CX0 4 "_law_names" _ fd__law_names ["_law_stream", "_law_many"] (spNames K) := ⟨ok_names B c__law_name E__law_names, g__law_names, E__law_names.kp, E__law_names.binds (fun _ _ _ _ _ _ us hl => match us, hl with | [_, _], _ => rfl)⟩
  have c__law_spare : Cal P w K mg base CX0 1 "_law_spare" _ fd__law_spare ["_law_names_here"] (spSpare K) := ⟨ok_spare B E__law_spare, g__law_spare, E__law_spare.kp, E__law_spare.binds (fun _ _ _ _ _ _ us hl => match us, hl with | [_], _ => rfl)⟩
  have b_brows : Binds K fd__law_b_rows ["_law_many", "_law_left"] [] := E__law_b_rows.binds (fun _ _ _ _ _ _ us hl => match us, hl with | [_, _], _ => rfl)
  have c__law_b_rows : Cal P w K mg base CX0 7 "_law_b_rows" _ fd__law_b_rows ["_law_many", "_law_left"] (spRows K 6) := ⟨ok_brows B E__law_b_rows g__law_b_rows b_brows 6, g__law_b_rows, E__law_b_rows.kp, b_brows⟩
  have c__law_b_lots : Cal P w K mg base CX0 8 "_law_b_lots" _ fd__law_b_lots ["_law_names_here", "_law_is_chain"] (spBlots K) := ⟨ok_blots B c__law_b_rows E__law_b_lots, g__law_b_lots, E__law_b_lots.kp, E__law_b_lots.binds (fun _ _ _ _ _ _ us hl => match us, hl with | [_, _], _ => rfl)⟩
  have GF := ok_folders (P := P) (w := w) (base := base) B k_MOST_FOLDERS k_MOST_IN_CHAIN T_BadFolders T (ok_BF T_BadFolders E_BadFolders_init) (E_BadFolders_init.binds (fun _ _ _ _ _ _ us hl => match us, hl with | [_, _], _ => rfl)) c_first_wrong c_choices c_rows_of_neighbours F_Folders_init
  have GE := ok_feq (P := P) (w := w) (base := base) B T E_Folders_eq
  have bE : Binds K fd_Folders_eq ["self", "other"] [] := E_Folders_eq.binds (fun _ _ _ _ _ _ us hl => match us, hl with | [_, _], _ => rfl)
  have oE : Own K _ "__eq__" _ := ⟨m_Folders_eq.at_, m_Folders_eq.fn⟩
  have GI := ok_finA (P := P) (w := w) (base := base) B T GE bE oE (of_decide_eq_true m6) (of_decide_eq_true m5) E_Folders_contains
  have c_is_integer : Cal P w K mg base CX0 1 "is_integer" _ fd_is_integer ["thing"] (spIsInt K) := ⟨ok_is_int B E_is_integer, g_is_integer, E_is_integer.kp, E_is_integer.binds (fun _ _ _ _ _ _ us hl => match us, hl with | [_], _ => rfl)⟩
  have c_lot_of : Cal P w K mg base CX0 2 "lot_of" _ fd_lot_of ["folders", "thing"] (spLotOf K _) := ⟨ok_lot_of B T c_is_list E_lot_of, g_lot_of, E_lot_of.kp, E_lot_of.binds (fun _ _ _ _ _ _ us hl => match us, hl with | [_, _], _ => rfl)⟩
  have c_numbers_by_lots : Cal P w K mg base CX0 3 "numbers_by_lots" _ fd_numbers_by_lots ["folders", "weights"] (spNums K _) := ⟨ok_nums B T c_lot_of c_is_integer E_numbers_by_lots, g_numbers_by_lots, E_numbers_by_lots.kp, E_numbers_by_lots.binds (fun _ _ _ _ _ _ us hl => match us, hl with | [_, _], _ => rfl)⟩
  have TQ : QueT K mg _ _ := ⟨g_Question, cl_Question, a_Question_folders, a_Question_table, r_Question⟩
  obtain ⟨dq0, dqv, bQ0⟩ := FunD.binds1 (ps := ["self", "folders", "weights"]) F_Question_init 3 1 (fun z => by cases z) rfl fun T kV doc pm an cdv ct us its hl hi => match us, hl, its, hi with
    | [_, _, _], _, [_], _ => ⟨_, rfl, rfl⟩
  have bQ : Binds K fd_Question_init ["self", "folders", "weights"] [] := by
    cases dqv
    exact bQ0
  have GQ := ok_quest (P := P) (w := w) (base := base) B T TQ c_numbers_by_lots F_Question_init
  have GW := ok_weight (P := P) (w := w) (base := base) B T TQ c_lot_of E_Question_weight
  have oQ : Own K _ "__eq__" _ := ⟨m_Question_eq.at_, m_Question_eq.fn⟩
  have GQE := ok_qeq (P := P) (w := w) (base := base) B T TQ (of_decide_eq_true q4) (insB_ok xi_Question cl_Question) (of_decide_eq_true m4) m8 (insB_ok xi_Folders cl_Folders) GE bE oE E_Question_eq
  have GNF := ok_NF (P := P) (w := w) (base := base) T_NoFolder E_NoFolder_init
  have c_check_named : Cal P w K mg base (L2N.CX P w) 4 "check_named" _ fd_check_named ["folders", "names"] (spCheck K _ _) := ⟨ok_check B T T_NoFolder GNF (E_NoFolder_init.binds (fun _ _ _ _ _ _ us hl => match us, hl with | [_, _], _ => rfl)) GI (E_Folders_contains.binds (fun _ _ _ _ _ _ us hl => match us, hl with | [_, _], _ => rfl)) ⟨m_Folders_contains.at_, m_Folders_contains.fn⟩ c_is_list E_check_named, g_check_named, E_check_named.kp, E_check_named.binds (fun _ _ _ _ _ _ us hl => match us, hl with | [_, _], _ => rfl)⟩
  have c_counting : Cal P w K mg base CX0 6 "counting" _ fd_counting ["folders", "lots"] (spCounting _ _) := ⟨ok_counting B T TQ GQ bQ E_counting, g_counting, E_counting.kp, E_counting.binds (fun _ _ _ _ _ _ us hl => match us, hl with | [_, _], _ => rfl)⟩
  have c_refers : Cal P w K mg base (L2N.CX P w) 7 "refers" _ fd_refers ["folders", "names"] (spFn K _ _ _ cRefers) := ⟨ok_refers B T c_check_named c_counting E_refers, g_refers, E_refers.kp, E_refers.binds (fun _ _ _ _ _ _ us hl => match us, hl with | [_, _], _ => rfl)⟩
  have c_freed : Cal P w K mg base (L2N.CX P w) 7 "freed" _ fd_freed ["folders", "names"] (spFn K _ _ _ cFreed) := ⟨ok_freed B T c_check_named c_counting E_freed, g_freed, E_freed.kp, E_freed.binds (fun _ _ _ _ _ _ us hl => match us, hl with | [_, _], _ => rfl)⟩
  have c_shared : Cal P w K mg base (L2N.CX P w) 7 "shared" _ fd_shared ["folders", "names"] (spFn K _ _ _ cShared) := ⟨ok_shared B T c_check_named c_counting E_shared, g_shared, E_shared.kp, E_shared.binds (fun _ _ _ _ _ _ us hl => match us, hl with | [_, _], _ => rfl)⟩
  have c_just : Cal P w K mg base (L2N.CX P w) 7 "just" _ fd_just ["folders", "names"] (spFn K _ _ _ cJust) := ⟨ok_just B T c_check_named c_counting E_just, g_just, E_just.kp, E_just.binds (fun _ _ _ _ _ _ us hl => match us, hl with | [_, _], _ => rfl)⟩
  have c_sent : Cal P w K mg base (L2N.CX P w) 7 "sent" _ fd_sent ["folders", "one", "other"] (spSent K _ _ _) := ⟨ok_sent B T c_check_named c_counting E_sent, g_sent, E_sent.kp, E_sent.binds (fun _ _ _ _ _ _ us hl => match us, hl with | [_, _, _], _ => rfl)⟩
  have c_whole : Cal P w K mg base CX0 7 "whole" _ fd_whole ["folders"] (spWhole _ _) := ⟨ok_whole B T c_counting (ok_flots B T E_Folders_lots) (E_Folders_lots.binds (fun _ _ _ _ _ _ us hl => match us, hl with | [_], _ => rfl)) m_Folders_lots E_whole, g_whole, E_whole.kp, E_whole.binds (fun _ _ _ _ _ _ us hl => match us, hl with | [_], _ => rfl)⟩
  have c_added : Cal P w K mg base CX0 3 "added" _ fd_added ["one", "other", "sign"] (spAdded _ _) := ⟨ok_added B T TQ (of_decide_eq_true m4) (insB_ok xi_Folders cl_Folders) GE bE oE m3 E_added, g_added, E_added.kp, E_added.binds (fun _ _ _ _ _ _ us hl => match us, hl with | [_, _, _], _ => rfl)⟩
  have GP := ok_plus (P := P) (w := w) (base := base) B TQ GQ bQ c_added E_Question_add
  have GS := ok_minus (P := P) (w := w) (base := base) B TQ GQ bQ c_added E_Question_sub
  have bP : Binds K fd_Question_add ["self", "other"] [] := E_Question_add.binds (fun _ _ _ _ _ _ us hl => match us, hl with | [_, _], _ => rfl)
  have bS : Binds K fd_Question_sub ["self", "other"] [] := E_Question_sub.binds (fun _ _ _ _ _ _ us hl => match us, hl with | [_, _], _ => rfl)
  have c__law_mixed : Cal P w K mg base CX0 2 "_law_mixed" _ fd__law_mixed ["_law_stream", "_law_some"] (spMixed K) := ⟨ok_mixed B c__law_draw E__law_mixed, g__law_mixed, E__law_mixed.kp, E__law_mixed.binds (fun _ _ _ _ _ _ us hl => match us, hl with | [_, _], _ => rfl)⟩
  have c__law_q_counted : Cal P w K mg base CX0 1 "_law_q_counted" _ fd__law_q_counted ["_law_word", "_law_names_here", "_law_lots"] (spCounted K) := ⟨ok_counted B E__law_q_counted, g__law_q_counted, E__law_q_counted.kp, E__law_q_counted.binds (fun _ _ _ _ _ _ us hl => match us, hl with | [_, _, _], _ => rfl)⟩
  have c__law_q_made : Cal P w K mg base (L2N.CX P w) 8 "_law_q_made" _ fd__law_q_made ["_law_word", "_law_house", "_law_names_here"] (spMade K _ _ _) := ⟨ok_made B c_refers c_freed c_shared c_just c_sent c_whole E__law_q_made, g__law_q_made, E__law_q_made.kp, E__law_q_made.binds (fun _ _ _ _ _ _ us hl => match us, hl with | [_, _, _], _ => rfl)⟩
  have c__law_q_named : Cal P w K mg base CX0 9 "_law_q_named" _ fd__law_q_named ["_law_stream", "_law_house", "_law_names_here", "_law_lots"] (spNamed K _ _) := ⟨ok_named B c__law_draw c__law_pick c__law_mixed c__law_q_made c__law_q_counted E__law_q_named, g__law_q_named, E__law_q_named.kp, E__law_q_named.binds (fun _ _ _ _ _ _ us hl => match us, hl with | [_, _, _, _], _ => rfl)⟩
  have c__law_q_drawn : Cal P w K mg base CX0 10 "_law_q_drawn" _ fd__law_q_drawn ["_law_stream", "_law_house", "_law_names_here", "_law_lots"] (spAsked K _ _) := ⟨ok_asked B TQ u1 GQ bQ GP bP ⟨m_Question_add.at_, m_Question_add.fn⟩ GS bS ⟨m_Question_sub.at_, m_Question_sub.fn⟩ c__law_draw c__law_q_named E__law_q_drawn, g__law_q_drawn, E__law_q_drawn.kp, E__law_q_drawn.binds (fun _ _ _ _ _ _ us hl => match us, hl with | [_, _, _, _], _ => rfl)⟩
  have c_first_more : Cal P w K mg base CX0 4 "first_more" _ fd_first_more ["one", "other"] (spMore _ _) := ⟨ok_more B c_added E_first_more, g_first_more, E_first_more.kp, E_first_more.binds (fun _ _ _ _ _ _ us hl => match us, hl with | [_, _], _ => rfl)⟩
  have GLe := ok_le (P := P) (w := w) (base := base) B c_first_more E_Question_le
  have c__law_b_house : Cal P w K mg base CX0 9 "_law_b_house" _ fd__law_b_house ["_law_stream", "_law_most"] (spHouse K _) := ⟨ok_house B T GF bK c__law_draw c__law_names c__law_b_lots E__law_b_house, g__law_b_house, E__law_b_house.kp, E__law_b_house.binds (fun _ _ _ _ _ _ us hl => match us, hl with | [_, _], _ => rfl)⟩
  have c_greatest_divisor : Cal P w K mg base CX0 1 "greatest_divisor" _ fd_greatest_divisor ["one", "other"] spGcd := ⟨ok_gcd E_greatest_divisor, g_greatest_divisor, E_greatest_divisor.kp, E_greatest_divisor.binds (fun _ _ _ _ _ _ us hl => match us, hl with | [_, _], _ => rfl)⟩
  have c_fraction : Cal P w K mg base CX0 2 "fraction" _ fd_fraction ["top", "bottom"] spFrac := ⟨ok_frac B c_greatest_divisor E_fraction, g_fraction, E_fraction.kp, E_fraction.binds (fun _ _ _ _ _ _ us hl => match us, hl with | [_, _], _ => rfl)⟩
  have c_plus : Cal P w K mg base CX0 3 "plus" _ fd_plus ["one", "other"] (spPlusF K) := ⟨ok_pl B c_fraction E_plus, g_plus, E_plus.kp, E_plus.binds (fun _ _ _ _ _ _ us hl => match us, hl with | [_, _], _ => rfl)⟩
  have c_times : Cal P w K mg base CX0 3 "times" _ fd_times ["one", "other"] (spTimesF K) := ⟨ok_ti B c_fraction E_times, g_times, E_times.kp, E_times.binds (fun _ _ _ _ _ _ us hl => match us, hl with | [_, _], _ => rfl)⟩
  have TNo : NoT K mg _ := ⟨g_NOTHING, fun H => pairB_ok n1 H⟩
  have c_sum_of : Cal P w K mg base CX0 4 "sum_of" _ fd_sum_of ["fractions"] (spSumF K) := ⟨ok_sum B TNo c_plus E_sum_of, g_sum_of, E_sum_of.kp, E_sum_of.binds (fun _ _ _ _ _ _ us hl => match us, hl with | [_], _ => rfl)⟩
  have c_size_of : Cal P w K mg base CX0 3 "size_of" _ fd_size_of ["thing"] (spSizeQ K) := ⟨ok_size B c_is_integer c_is_list c_fraction E_size_of, g_size_of, E_size_of.kp, E_size_of.binds (fun _ _ _ _ _ _ us hl => match us, hl with | [_], _ => rfl)⟩
  have c_by_lots : Cal P w K mg base CX0 3 "by_lots" _ fd_by_lots ["folders", "told"] (spByLots K _) := ⟨ok_by_lots B T c_lot_of E_by_lots, g_by_lots, E_by_lots.kp, E_by_lots.binds (fun _ _ _ _ _ _ us hl => match us, hl with | [_, _], _ => rfl)⟩
  have TS : StoT K mg _ _ := ⟨g_Store, cl_Store, a_Store_folders, a_Store_table, r_Store⟩
  obtain ⟨dst, dsv, bSt0⟩ := FunD.binds1 (ps := ["self", "folders", "sizes"]) F_Store_init 3 1 (fun z => by cases z) rfl fun T kV doc pm an cdv ct us its hl hi => match us, hl, its, hi with
    | [_, _, _], _, [_], _ => ⟨_, rfl, rfl⟩
  have bSt : Binds K fd_Store_init ["self", "folders", "sizes"] [] := by
    cases dsv
    exact bSt0
  have GSt := ok_store (P := P) (w := w) (base := base) B T TS TNo c_by_lots c_size_of F_Store_init
  have GSE := ok_seq (P := P) (w := w) (base := base) B T TS (of_decide_eq_true s4) (insB_ok xi_Store cl_Store) (of_decide_eq_true m4) m8 (insB_ok xi_Folders cl_Folders) GE bE oE E_Store_eq
  have GSC := ok_scall (P := P) (w := w) (base := base) B T TS TQ (of_decide_eq_true m4) (insB_ok xi_Folders cl_Folders) GE bE oE m3 GW (E_Question_weight.binds (fun _ _ _ _ _ _ us hl => match us, hl with | [_, _], _ => rfl)) m_Question_weight c_sum_of c_times E_Store_call
  have rSC := (FnOk.raw GSC (E_Store_call.binds (fun _ _ _ _ _ _ us hl => match us, hl with | [_, _], _ => rfl)) .nil).imp (sp' := spCall K (He.ga K "Folders") (He.ga K "Store") (He.ga K "Question")) (fun vs H Q E h => by rw [List.append_nil]; exact h)
  have XU := He.exc_ok (c.fact 92 (f := .exc "UnlikeFolders") rfl)
  have TU : BareT K mg "UnlikeFolders" _ := ⟨XU.1, g_UnlikeFolders, XU.2.1, XU.2.2.1, XU.2.2.2⟩
  have uu := He.exm_ok (c.fact 93 (f := .exm "UnlikeFolders" "UnlikeFolders" true) rfl)
  have uw := He.exm_ok (c.fact 141 (f := .exm "UnlikeFolders" "Wrong" false) rfl)
  have cu_added : Cal P w K mg base (L2N.CX P w) 3 "added" _ fd_added ["one", "other", "sign"] (spAddedU _ _ _) := ⟨ok_addedU B T TQ TU (of_decide_eq_true m4) (insB_ok xi_Folders cl_Folders) GE bE oE m3 E_added, g_added, E_added.kp, E_added.binds (fun _ _ _ _ _ _ us hl => match us, hl with | [_, _, _], _ => rfl)⟩
  have cu_first_more : Cal P w K mg base (L2N.CX P w) 4 "first_more" _ fd_first_more ["one", "other"] (spTwoU _ _ _) := ⟨ok_moreU B cu_added E_first_more, g_first_more, E_first_more.kp, E_first_more.binds (fun _ _ _ _ _ _ us hl => match us, hl with | [_, _], _ => rfl)⟩
  have c_more_at : Cal P w K mg base CX0 6 "more_at" _ fd_more_at ["one", "other"] (spMoreAt K _ _ _) := ⟨ok_more_at B TS TQ GSt bSt c_first_more E_more_at, g_more_at, E_more_at.kp, E_more_at.binds (fun _ _ _ _ _ _ us hl => match us, hl with | [_, _], _ => rfl)⟩
  have cu_more_at : Cal P w K mg base (L2N.CX P w) 6 "more_at" _ fd_more_at ["one", "other"] (spTwoU _ _ _) := ⟨ok_more_atU B TS GSt bSt cu_first_more E_more_at, g_more_at, E_more_at.kp, E_more_at.binds (fun _ _ _ _ _ _ us hl => match us, hl with | [_, _], _ => rfl)⟩
  have c__law_f_lowest : Cal P w K mg base CX0 1 "_law_f_lowest" _ fd__law_f_lowest ["_law_top", "_law_bottom"] spFrac := ⟨ok_low B E__law_f_lowest, g__law_f_lowest, E__law_f_lowest.kp, E__law_f_lowest.binds (fun _ _ _ _ _ _ us hl => match us, hl with | [_, _], _ => rfl)⟩
  have c__law_f_plus : Cal P w K mg base CX0 2 "_law_f_plus" _ fd__law_f_plus ["_law_x", "_law_y"] (spPlusF K) := ⟨ok_lpl B c__law_f_lowest E__law_f_plus, g__law_f_plus, E__law_f_plus.kp, E__law_f_plus.binds (fun _ _ _ _ _ _ us hl => match us, hl with | [_, _], _ => rfl)⟩
  have c__law_f_times : Cal P w K mg base CX0 2 "_law_f_times" _ fd__law_f_times ["_law_x", "_law_number"] (spTimesI K) := ⟨ok_lti B c__law_f_lowest E__law_f_times, g__law_f_times, E__law_f_times.kp, E__law_f_times.binds (fun _ _ _ _ _ _ us hl => match us, hl with | [_, _], _ => rfl)⟩
  have c__law_f_below : Cal P w K mg base CX0 1 "_law_f_below" _ fd__law_f_below ["_law_x", "_law_y"] (spBelow K) := ⟨ok_lbe B E__law_f_below, g__law_f_below, E__law_f_below.kp, E__law_f_below.binds (fun _ _ _ _ _ _ us hl => match us, hl with | [_, _], _ => rfl)⟩
  have c__law_b_sizes : Cal P w K mg base CX0 3 "_law_b_sizes" _ fd__law_b_sizes ["_law_stream", "_law_lots", "_law_bottoms"] (spSizes K) := ⟨ok_sizes B c__law_draw c__law_pick c__law_f_lowest E__law_b_sizes, g__law_b_sizes, E__law_b_sizes.kp, E__law_b_sizes.binds (fun _ _ _ _ _ _ us hl => match us, hl with | [_, _, _], _ => rfl)⟩
  have c__law_b_store : Cal P w K mg base CX0 6 "_law_b_store" _ fd__law_b_store ["_law_stream", "_law_house", "_law_lots", "_law_sizes"] (spBStore K _ _) := ⟨ok_b_store B TS GSt bSt c__law_draw c__law_mixed E__law_b_store, g__law_b_store, E__law_b_store.kp, E__law_b_store.binds (fun _ _ _ _ _ _ us hl => match us, hl with | [_, _, _, _], _ => rfl)⟩
  have c__law_b_answer : Cal P w K mg base CX0 3 "_law_b_answer" _ fd__law_b_answer ["_law_row", "_law_sizes"] (spAnswer K) := ⟨ok_answer B c__law_f_plus c__law_f_times E__law_b_answer, g__law_b_answer, E__law_b_answer.kp, E__law_b_answer.binds (fun _ _ _ _ _ _ us hl => match us, hl with | [_, _], _ => rfl)⟩
  have b__law_k_refused : Binds K fd__law_k_refused ["_law_ask"] [] := E__law_k_refused.binds (fun _ _ _ _ _ _ us hl => match us, hl with | [_], _ => rfl)
  exact ok_law B T TQ TS TU T_Wrong uu uw GF bK GQ bQ GQE (E_Question_eq.binds (fun _ _ _ _ _ _ us hl => match us, hl with | [_, _], _ => rfl)) oQ q3 q8 (insB_ok xi_Question cl_Question) GLe (E_Question_le.binds (fun _ _ _ _ _ _ us hl => match us, hl with | [_, _], _ => rfl)) ⟨m_Question_le.at_, m_Question_le.fn⟩ GSt bSt GSE (E_Store_eq.binds (fun _ _ _ _ _ _ us hl => match us, hl with | [_, _], _ => rfl)) ⟨m_Store_eq.at_, m_Store_eq.fn⟩ s3 rSC ⟨m_Store_call.at_, m_Store_call.fn, s5⟩
    E__law_k_refused g__law_k_refused b__law_k_refused TBp c__law_start c__law_draw c__law_pick c__law_b_house c__law_q_drawn c__law_same c__law_spare c__law_b_sizes c__law_b_store c__law_b_answer c__law_f_below c_more_at cu_more_at c_whole E_law hcd
end Bk
open PySem PySem.W PySem.Calls PyProof.Rows
theorem PySem.Challenge.cw_blockshares_k07_whole_questions_in_all_s_holds : PySem.Challenge.rw_blockshares_k07_whole_questions_in_all_s.Holds := by
  w_on; o_law
  refine HandSHeadRun.head_any (r := Bk.RowL) (q := view Bk.RowL.prog [77]) (H := Bk.hkL) (ob := Bk.obL) (M := 12000) (d := HandSHeadRun.topDef Bk.RowL.prog 77) (kwd := []) Bk.obL_eq
    (by kernel_rfl) (fun s => by kernel_rfl) Bk.runL (by kernel_rfl) (by kernel_rfl) (by kernel_rfl) (by rfl) (by first | assumption | decide +kernel) (by decide +kernel) ⟨rfl, rfl, rfl, rfl, rfl, by decide +kernel⟩ ?hw ?hc
  case hw => w_witness2
  case hc =>
    refine LamX.walk_ofTsE (l := PySem.Challenge.rw_blockshares_k07_whole_questions_in_all_s) (n := 63) (k := 12) (x := "_law_script") (CX := fun _ => L2.CX0) rfl (by decide) (by kernel_rfl) ⟨rfl, by decide, by decide⟩ ?F (fun _ _ _ _ _ z => z)
    intro w mg fa h Y G hmg0
    obtain ⟨K, KX, c⟩ := Y
    have hmg : mg ("law" : PySem.Str) = some (.ref fa) := by
      have e : (HandSHeadRun.topDef Bk.RowL.prog 77).name = ("law" : PySem.Str) := by kernel_rfl
      rw [← e]
      exact hmg0
    obtain ⟨fd, hb, hF⟩ := Bk.factsL (P := (PySem.Challenge.rw_blockshares_k07_whole_questions_in_all_s).prog) (w := w) KX G hmg c
    have mp : (("law", none) : He.Defn) ∈ Bk.tfL := List.mem_singleton.mpr rfl
    refine ⟨K, KX, fd, [He.cT K ("law", none)], Bk.spLaw K [((He.cT K ("law", none)).2, Bk.qL)], fun p hp => ?_, fun p hp => ?_, fun p hp => ?_, hb, fun H a ns hl _ hH hS => ⟨a, ns, rfl, hS, fun p hp => ?_, fun _ => rfl⟩, fun base b1 b2 b3 => hF base b1 b2 (b3 _ (List.mem_singleton.mpr rfl))⟩
    · rw [List.mem_singleton.mp hp]
      exact c.empty _ mp
    · rw [List.mem_singleton.mp hp]
      exact c.out _ mp
    · rw [List.mem_singleton.mp hp]
      exact PySem.W.codeHd_of_K KX (c.hd _ mp)
    · rw [List.mem_singleton.mp hp]
      exact LamX.TabS.nil (hH _ (List.mem_singleton.mpr rfl))
